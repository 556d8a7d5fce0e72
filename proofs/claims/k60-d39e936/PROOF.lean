import PyProof.Rows.All
import Wide.All
import OpenK.AllK
import Wide.FinOn
import Lean
import PyProof.EqAt
import PyProof.EqKinds
import PyProof.TupleCall
import PyProof.NeKinds
import KE.KRevSl
import PyProof.FactsAll.bool_2
import PyProof.Rows.EqBoolInt
import PyProof.Rows.IntBool
import PySem.Challenge.RW_bankwalk_k60_whole_nets_spoilt_anywhere
-- CHANGE: your row's module here,as the last of these rows
set_option Elab.async false
set_option genSizeOf false
set_option genInjectivity false
noncomputable section
abbrev Frg:=PySem.W.Frag
open List (getElem_cons_zero length_cons getElem?_cons_succ getElem_cons_succ getElem?_cons_zero length_nil set_cons_zero set_cons_succ length_map not_mem_nil mem_append_right map_cons mem_cons getElem?_set getElem?_map cons_append size_toArray getElem?_eq_getElem map_map mem_of_getElem? mem_map length_append getD_eq_getElem?_getD mem_range length_range)
def obb{α β:Type _}{o:Option α}{f:α->Option β}{b:β}(h:o.bind f=some b):∃a,o=some a/\f a=some b:=Option.bind_eq_some_iff.mp h
set_option linter.all false
set_option maxRecDepth 100000
namespace L2
open PySem PySem.Spec PyProof.Rows
abbrev Key:=Sum Int Str
def qhr:Key->Value->Bool
 |.inl k,v=>Value.isInt k v
 |.inr x,v=>Value.isStrOf x v
def qoM (w:World):Key->Int
 |.inl k=>hashInt k
 |.inr x=>hashStr w x
def zq:∀ {k:Key} {v:Value},qhr k v=true->(∃ i t,k=Sum.inl i/\v=Value.int i t)\/(∃ x t,k=Sum.inr x/\v=Value.str x t)
 |.inl i,v,h=>by
  obtain ⟨t,e⟩:=Value.isInt_shape (k:=i) (v:=v) h;exact .inl ⟨i,t,rfl,e⟩
 |.inr x,v,h=>by
  obtain ⟨t,e⟩:=Value.isStrOf_shape (x:=x) (v:=v) h;exact .inr ⟨x,t,rfl,e⟩
def qgN (a b:Int):decide ((Sum.inl a:Key)=Sum.inl b)=(a==b):=by
 by_cases e:a=b
 ·subst e;simp
 ·have h:¬ (Sum.inl a:Key)=Sum.inl b:=λq=>e (Sum.inl.inj q);rw [decide_eq_false h];exact (beq_eq_false_iff_ne.mpr e).symm
def qjv (a b:Str):decide ((Sum.inr a:Key)=Sum.inr b)=decide (a=b):=by
 by_cases e:a=b
 ·subst e;simp
 ·have h:¬ (Sum.inr a:Key)=Sum.inr b:=λq=>e (Sum.inr.inj q);rw [decide_eq_false h,decide_eq_false e]
def qhl (a:Int) (b:Str):decide ((Sum.inl a:Key)=Sum.inr b)=false:=decide_eq_false (λq=>nomatch q)
def qkh (a:Str) (b:Int):decide ((Sum.inr a:Key)=Sum.inl b)=false:=decide_eq_false (λq=>nomatch q)
def qai (prog:Program) (w:World):PySem.KeyKind prog w Key where
 is:=qhr
 hash:=qoM w
 inj:=λv a b ha hb=>by
  rcases zq ha with ⟨i,t,rfl,rfl⟩|⟨x,t,rfl,rfl⟩
  ·rcases zq hb with ⟨j,u,rfl,e⟩|⟨y,u,rfl,e⟩
   ·injection e with e1 _;rw [e1]
   ·exact nomatch e
  ·rcases zq hb with ⟨j,u,rfl,e⟩|⟨y,u,rfl,e⟩
   ·exact nomatch e
   ·injection e with e1 _;rw [e1]
 byValue:=λk v h=>by
  rcases zq h with ⟨i,t,rfl,rfl⟩|⟨x,t,rfl,rfl⟩<;>rfl
 pyHash:=λhv h=>by
  rcases zq hv with ⟨i,t,rfl,rfl⟩|⟨x,t,rfl,rfl⟩
  ·exact wpAny_pyHash_int h
  ·exact wpAny_pyHash_str h
 eqBool:=λhu hv h=>by
  rcases zq hu with ⟨i,t,rfl,rfl⟩|⟨x,t,rfl,rfl⟩
  ·rcases zq hv with ⟨j,u,rfl,rfl⟩|⟨y,u,rfl,rfl⟩
   ·rw [qgN] at h;exact wpAny_eqBool_int h
   ·rw [qhl] at h;exact SeqAt.EqAt.int_str i t y u _ _ _ _ h
  ·rcases zq hv with ⟨j,u,rfl,rfl⟩|⟨y,u,rfl,rfl⟩
   ·rw [qkh] at h;exact SeqAt.EqAt.str_int x t j u _ _ _ _ h
   ·rw [qjv] at h;exact wpAny_eqBool_str h
 «strs»:=λk x t v h=>by
  rcases zq h with ⟨i,u,rfl,e⟩|⟨y,u,rfl,e⟩
  ·exact nomatch e
  ·injection e with e1 _;subst e1;cases v<;>rfl
set_option genInjectivity true in
inductive V where
 |non|bl (b:Bool)|int (i:Int)|str (x:Str)|byt (b:Array UInt8)|flt (b:UInt64)|ref (a:Addr)|ty (n:String)
 deriving DecidableEq
def jk:V->Value->Prop
 |.non,u=>u=Value.none
 |.bl b,u=>u=Value.bool b
 |.int i,u=>∃ t,u=Value.int i t
 |.str x,u=>∃ t,u=Value.str x t
 |.byt b,u=>∃ t,u=Value.bytes b t
 |.flt b,u=>∃ t,u=Value.float b t
 |.ref a,u=>u=Value.ref a
 |.ty n,u=>u=Value.type n
abbrev zj:List V->List Value->Prop:=Paired jk
def zj.length {xs:List V} {us:List Value} (r:zj xs us):xs.length=us.length:=Paired.length r
def zj.get:∀ {xs:List V} {us:List Value} {i:Nat} {x:V},zj xs us->xs[i]?=some x->∃ u,us[i]?=some u/\jk x u
 |_,_,_,_,.nil,e=>by simp at e
 |_,_,0,_,.cons r _,e=>by simp at e;subst e;exact ⟨_,rfl,r⟩
 |_,_,i+1,x,.cons _ t,e=>by
  obtain ⟨u,h1,h2⟩:=zj.get (i:=i) (x:=x) t (by simpa using e);exact ⟨u,by simpa using h1,h2⟩
def zj.set {x:V} {u:Value} (r:jk x u):∀ {xs:List V} {us:List Value} (i:Nat),zj xs us->zj (xs.set i x) (us.set i u)
 |_,_,_,.nil=>.nil
 |_,_,0,.cons _ t=>.cons r t
 |_,_,i+1,.cons q t=>.cons q (zj.set r i t)
def zj.append:∀ {xs ys:List V} {us ws:List Value},zj xs us->zj ys ws->zj (xs++ys) (us++ws)
 |_,_,_,_,.nil,s=>s
 |_,_,_,_,.cons r t,s=>.cons r (zj.append t s)
def zj.take:∀ {xs:List V} {us:List Value} (n:Nat),zj xs us->zj (xs.take n) (us.take n)
 |_,_,0,_=>.nil
 |_,_,_+1,.nil=>.nil
 |_,_,n+1,.cons r t=>.cons r (zj.take n t)
def zj.drop:∀ {xs:List V} {us:List Value} (n:Nat),zj xs us->zj (xs.drop n) (us.drop n)
 |_,_,0,r=>r
 |_,_,_+1,.nil=>.nil
 |_,_,n+1,.cons _ t=>zj.drop n t
def qn5:Option V->Option Value->Prop
 |some v,some u=>jk v u
 |none,none=>True
 |_,_=>False
def KV {κ:Type}:List (κ×V)->List (κ×Value)->Prop:=Paired λ(p:κ×V) (q:κ×Value)=>p.1=q.1/\jk p.2 q.2
def kV:Key->V
 |.inl i=>.int i
 |.inr x=>.str x
inductive HO where
 /-- a list -/
 |lst (xs:List V)
 /-- a tuple (never changes) -/
 |tup (xs:List V)
 /-- a dict whose keys are ints and texts;one whose keys are tuples of ints and texts (the empty one is both) -/
 |dK (kvs:List (Key×V))|dT (kvs:List (List Key×V))
 /-- a set of ints: its members,its size -/
 |set (S:Int->Bool) (n:Nat)
 /-- an instance of the class at C,its dict at dx,its attributes -/
 |ins (C dx:Addr) (fs:List (Str×V))
 /-- the dict of the instance at x -/
 |own (x:Addr)
 /-- the dict of an exception -/
 |xd (fs:List (Str×V))
 /-- a bound method,f of x -/
 |met (f x:Addr)
 /-- a range object lo,lo+1,.. below hi -/
 |rng (lo hi:Int)
 /-- a thing that is known to the object (the script;a dict while a loop walks it): read,never written while it is so -/
 |frz (o:Obj) (u:HO)
 /-- a code object's table -/
 |tbl (ps:Array Value)
 /-- any other thing,by what is true of its one object (a def of one's own: SetO a S n:=HO.ext λh=>..) -/
 |ext (φ:Heap->Prop)
abbrev Hp:=Addr->Option HO
def upd (H:Hp) (a:Addr) (o:HO):Hp:=λb=>if b=a then some o else H b
def qJ {H:Hp} {a:Addr} {o:HO}:upd H a o a=some o:=by unfold upd;rw [if_pos rfl]
def qq {H:Hp} {a b:Addr} {o:HO} (h:b≠a):upd H a o b=H b:=by unfold upd;rw [if_neg h]
def qo {H:Hp} {a b:Addr} {o:HO} (h:H a=some o) (h':H b=none):a≠b:=by
 intro e;subst e;rw [h] at h';cases h'
def JH (h:Heap) (a:Addr) (items:Array Value):Prop:=∃ o,h.get? a=some o/\o.cls=.type "tuple"/\∃ n,o.data=.seq items n/\o.dict=none
def JH.tup {h:Heap} {a:Addr} {items:Array Value} (x:JH h a items):IsTup h a items:=let ⟨o,a,b,n,d,_⟩:=x;⟨o,a,b,n,d⟩
def JH.new (h:Heap) (items:Array Value):JH (h.push { cls:=.type "tuple",data:=.seq items }) h.objs.size items:=⟨_,Heap.get?_push_size _ rfl,rfl,_,rfl,rfl⟩
section
variable (P:Program) (w:World)
def Z5 (H:Hp) (h:Heap) (a:Addr):HO->Prop
 |.lst xs=>xs.length<=sizeLine/\∃ (its:List Value) (n:Nat),zj xs its/\h.get? a=some { cls:=.type "list",data:=.seq its.toArray n }
 |.tup xs=>xs.length<=sizeLine/\∃ its:List Value,zj xs its/\JH h a its.toArray
 |.dK kvs=>kvs.length<=sizeLine/\(a==sysModules)=false/\∃ vs,KV kvs vs/\h.DictOf (qai P w) a vs
 |.dT kvs=>kvs.length<=sizeLine/\(a==sysModules)=false/\∃ xs:List (List Key×Addr×Value),
   Paired (λ(p:List Key×V) (q:List Key×Addr×Value)=>p.1=q.1/\H q.2.1=some (.tup (p.1.map kV))/\jk p.2 q.2.2) kvs xs /\
   ∃ o es ep,h.get? a=some o/\o.ExactDict/\o.data=.dict es ep/\es.toList=xs.map (entryOfKey (tupleKind (qai P w)))/\(xs.map (·.1)).Nodup
 |.set S n=>h.SetOf (intKind P w) a S n
 |.ins C dx fs=>H dx=some (.own a)/\fs.length<=1000/\dx≠a/\h.get? a=some (PySem.W.instObj C dx) /\
   ∃ mA,h.Ns1 dx mA/\(∀ f,qn5 (fs.lookup f) (mA f))/\PySem.Within mA (fs.map (·.1))
 |.own _=>∃ o,h.get? a=some o
 |.xd fs=>∃ mA,h.Ns1 a mA/\∀ f,qn5 (fs.lookup f) (mA f)
 |.rng lo hi=>∃ t u v,h.get? a=some { cls:=.type "range",data:=.fields #[.int lo t,.int hi u,.int 1 v] }
 |.frz o u=>h.get? a=some o/\Z5 H h a u
 |.tbl ps=>h.get? a=some { cls:=.none,data:=.fields ps }
 |.met f x=>h.get? a=some (PySem.W.methodObj (.ref f) (.ref x))
 |.ext φ=>φ h/\(∃ o,h.get? a=some o)/\∀ h1 h2:Heap,φ h1->(∀ o,h1.get? a=some o->h2.get? a=some o)->φ h2
def HOk (H:Hp) (h:Heap):Prop:=∀ a o,H a=some o->Z5 P w H h a o
end
section
variable {P:Program} {w:World} {H H':Hp} {h h':Heap} {a:Addr} {o:HO}
def Z5.lt (x:Z5 P w H h a o):a<h.objs.size:=by
 cases o with
 |lst xs=>obtain ⟨_,_,_,_,e⟩:=x;exact Heap.lt_size e
 |tup xs=>obtain ⟨_,_,_,p⟩:=x;exact p.tup.lt
 |dK kvs=>obtain ⟨_,_,_,_,o,_,_,e,_⟩:=x;exact Heap.lt_size e
 |dT kvs=>obtain ⟨_,_,_,_,o,_,_,e,_⟩:=x;exact Heap.lt_size e
 |set S n=>obtain ⟨o,_,_,_,e,_⟩:=x;exact Heap.lt_size e
 |ins C dx fs=>obtain ⟨_,_,_,e,_⟩:=x;exact Heap.lt_size e
 |own y=>obtain ⟨_,e⟩:=x;exact Heap.lt_size e
 |xd fs=>obtain ⟨_,⟨_,_,_,e,_⟩,_⟩:=x;exact Heap.lt_size e
 |rng lo hi=>obtain ⟨_,_,_,e⟩:=x;exact Heap.lt_size e
 |frz ob u=>obtain ⟨e,_⟩:=x;exact Heap.lt_size e
 |tbl ps=>exact Heap.lt_size (show h.get? a=some _ from x)
 |met f y=>exact Heap.lt_size (show h.get? a=some _ from x)
 |ext φ=>obtain ⟨_,⟨_,e⟩,_⟩:=x;exact Heap.lt_size e
def Paired.mapP {α β:Type} {F G:α->β->Prop}:∀ {l₁:List α} {l₂:List β},Paired F l₁ l₂->(∀ a b,F a b->G a b)->Paired G l₁ l₂
 |_,_,.nil,_=>.nil
 |_,_,.cons r t,f=>.cons (f _ _ r) (Paired.mapP t f)
def Z5.stay (x:Z5 P w H h a o) (k:∀ b u,(b=a\/H b=some (.own a))->h.get? b=some u->h'.get? b=some u)
  (ho:∀ b,H b=some (.own a)->H' b=some (.own a)) (ht:∀ b xs,H b=some (.tup xs)->H' b=some (.tup xs)):Z5 P w H' h' a o:=by
 induction o with
 |lst xs=>obtain ⟨z,its,n,r,e⟩:=x;exact ⟨z,its,n,r,k _ _ (.inl rfl) e⟩
 |tup xs=>obtain ⟨z,its,r,ob,e,c⟩:=x;exact ⟨z,its,r,ob,k _ _ (.inl rfl) e,c⟩
 |dK kvs=>obtain ⟨z,y,vs,r,ob,es,ep,e,c⟩:=x;exact ⟨z,y,vs,r,ob,es,ep,k _ _ (.inl rfl) e,c⟩
 |dT kvs=>
  obtain ⟨z,y,xs,r,ob,es,ep,e,c⟩:=x;exact ⟨z,y,xs,Paired.mapP r λp q z=>⟨z.1,ht _ _ z.2.1,z.2.2⟩,ob,es,ep,k _ _ (.inl rfl) e,c⟩
 |set S n=>obtain ⟨ob,es,ep,t,e,c⟩:=x;exact ⟨ob,es,ep,t,k _ _ (.inl rfl) e,c⟩
 |ins C dx fs=>
  obtain ⟨d,z,ne,e,mA,⟨od,es,ep,e2,c⟩,r⟩:=x;exact ⟨ho _ d,z,ne,k _ _ (.inl rfl) e,mA,⟨od,es,ep,k _ _ (.inr d) e2,c⟩,r⟩
 |own y=>obtain ⟨ob,e⟩:=x;exact ⟨ob,k _ _ (.inl rfl) e⟩
 |xd fs=>obtain ⟨mA,⟨od,es,ep,e,c⟩,r⟩:=x;exact ⟨mA,⟨od,es,ep,k _ _ (.inl rfl) e,c⟩,r⟩
 |rng lo hi=>obtain ⟨t,u,v,e⟩:=x;exact ⟨t,u,v,k _ _ (.inl rfl) e⟩
 |frz ob u ih=>obtain ⟨e,q⟩:=x;exact ⟨k _ _ (.inl rfl) e,ih q⟩
 |tbl ps=>
  have e:h.get? a=some { cls:=.none,data:=.fields ps }:=x;show h'.get? a=some { cls:=.none,data:=.fields ps };exact k a _ (.inl rfl) e
 |met f y=>
  have e:h.get? a=some (PySem.W.methodObj (.ref f) (.ref y)):=x;show h'.get? a=some (PySem.W.methodObj (.ref f) (.ref y));exact k a _ (.inl rfl) e
 |ext φ=>obtain ⟨p,⟨o,e⟩,st⟩:=x;exact ⟨st _ _ p λo q=>k _ _ (.inl rfl) q,⟨o,k _ _ (.inl rfl) e⟩,st⟩
def HOk.lt (x:HOk P w H h) (e:H a=some o):a<h.objs.size:=(x a o e).lt
def HOk.fresh (x:HOk P w H h) (e:h.objs.size<=a):H a=none:=by
 cases q:H a with
 |none=>rfl
 |some u=>exact absurd (Nat.lt_of_lt_of_le (x.lt q) e) (Nat.lt_irrefl _)
def HOk.kept (x:HOk P w H h) (k:∀ b u,h.get? b=some u->h'.get? b=some u):HOk P w H h':=λa o e=>
 (x a o e).stay (λb u _ q=>k b u q) (λ_ q=>q) λ_ _ q=>q
def HOk.laid (x:HOk P w H h) (k:∀ b u,h.get? b=some u->h'.get? b=some u) (hp:h.objs.size<=a) (new:Z5 P w (upd H a o) h' a o):HOk P w (upd H a o) h':=λb u e=>by
 have hn:=x.fresh hp;by_cases hb:b=a
 ·subst hb;rw [qJ] at e;cases e;exact new
 ·rw [qq hb] at e;exact (x b u e).stay (λc v _ q=>k c v q) (λc q=>by rw [qq (qo q hn)];exact q) λc xs q=>by rw [qq (qo q hn)];exact q
end
def Rd (H:Hp) (a:Addr) (u:HO):Prop:=H a=some u\/∃ o,H a=some (.frz o u)
def Rd.ok {P:Program} {w:World} {H:Hp} {h:Heap} {a:Addr} {u:HO} (r:Rd H a u) (x:HOk P w H h):Z5 P w H h a u:=by
 rcases r with r|⟨o,r⟩
 ·exact x a u r
 ·obtain ⟨_,q⟩:=x a _ r;exact q
def Mut:Option HO->Prop
 |some (.lst _)=>True
 |some (.dK _)=>True
 |some (.dT _)=>True
 |some (.set _ _)=>True
 |some (.ins _ _ _)=>True
 |some (.ext _)=>True
 |_=>False
section
variable {P:Program} {w:World} {H:Hp} {h h':Heap} {x e:Addr} {o':HO}
def HOk.write (ok:HOk P w H h) (mu:Mut (H x)) (he:e=x\/H e=some (.own x)) (k:∀ b u,b≠e->h.get? b=some u->h'.get? b=some u) (heo:∃ u,h'.get? e=some u)
  (new:Z5 P w (upd H x o') h' x o'):HOk P w (upd H x o') h':=λb u q=>by
 have nown:∀ c y,H c=some (.own y)->c≠x:=λc y r z=>by subst z;rw [r] at mu;exact mu
 have ntup:∀ c xs,H c=some (.tup xs)->c≠x:=λc xs r z=>by subst z;rw [r] at mu;exact mu
 by_cases hb:b=x
 ·subst hb;rw [qJ] at q;cases q;exact new
 ·rw [qq hb] at q;by_cases hbe:b=e
  ·have q':H b=some (.own x):=by
    rcases he with z|z
    ·exact absurd (hbe.trans z) hb
    ·rw [hbe];exact z
   rw [q] at q';cases q';obtain ⟨v,hv⟩:=heo;exact ⟨v,by rw [hbe];exact hv⟩
  ·refine (ok b u q).stay (λc v hc r=>k c v ?_ r) (λc r=>by rw [qq (nown c b r)];exact r) λc xs r=>by rw [qq (ntup c xs r)];exact r
   rcases hc with rfl|hc
   ·exact hbe
   ·rintro rfl;rcases he with z|z
    ·exact nown c b hc z
    ·rw [hc] at z;cases z;exact hb rfl
end
structure Un (fs ex:List Addr) (H H':Hp) (h h':Heap):Prop where
 keep:∀ b o,h.get? b=some o->H b=none->b∉fs->b∉ex->h'.get? b=some o
 slot:∀ b o,h.get? b=some o->H b=none->b∈fs->b∉ex->∃ sl,h'.get? b=some { o with slots:=sl }
 free:∀ b o,h.get? b=some o->H b=none->b∉ex->H' b=none
 there:∀ b o,h.get? b=some o->b∉ex->∃ o',h'.get? b=some o'
 tups:∀ b xs,H b=some (.tup xs)->H' b=some (.tup xs)
 frzs:∀ b o u,H b=some (.frz o u)->H' b=some (.frz o u)
 tbls:∀ b ps,H b=some (.tbl ps)->∃ more,H' b=some (.tbl (ps++more))
section
variable {fs fs' ex ex':List Addr} {H H1 H2:Hp} {h h1 h2 h':Heap} {a x e:Addr} {o:HO}
def Un.any (u:Un fs ex H H1 h h1) {b:Addr} {ob:Obj} (q:h.get? b=some ob) (n:H b=none) (hx:b∉ex):∃ sl,h1.get? b=some { ob with slots:=sl }:=by
 by_cases hb:b∈fs
 ·exact u.slot b ob q n hb hx
 ·exact ⟨ob.slots,u.keep b ob q n hb hx⟩
def Un.kept (k:∀ b u,h.get? b=some u->h'.get? b=some u):Un fs ex H H h h':=
 ⟨λb ob q _ _ _=>k b ob q,λb ob q _ _ _=>⟨ob.slots,k b ob q⟩,λ_ _ _ n _=>n,λb ob q _=>⟨ob,k b ob q⟩,λ_ _ q=>q,λ_ _ _ q=>q,λ_ ps q=>⟨#[],by rw [q];simp⟩⟩
def Un.refl:Un fs ex H H h h:=Un.kept λ_ _ q=>q
def Un.laid (k:∀ b u,h.get? b=some u->h'.get? b=some u) (hp:h.objs.size<=a) (hn:H a=none):Un fs ex H (upd H a o) h h' where
 keep:=λb u q _ _ _=>k b u q
 slot:=λb u q _ _ _=>⟨u.slots,k b u q⟩
 free:=λb u q n _=>by rw [qq (Nat.ne_of_lt (Nat.lt_of_lt_of_le (Heap.lt_size q) hp))];exact n
 there:=λb u q _=>⟨u,k b u q⟩
 tups:=λb xs q=>by rw [qq (qo q hn)];exact q
 frzs:=λb u xs q=>by rw [qq (qo q hn)];exact q
 tbls:=λb ps q=>⟨#[],by rw [qq (qo q hn),q];simp⟩
def Un.write (mu:Mut (H x)) (he:e=x\/H e=some (.own x)) (k:∀ b u,b≠e->h.get? b=some u->h'.get? b=some u) (heo:∃ u,h'.get? e=some u):Un fs ex H (upd H x o) h h':=by
 have hx:∀ b,H b=none->b≠x:=λb n z=>by subst z;rw [n] at mu;exact mu
 have hb:∀ b,H b=none->b≠e:=λb n z=>by
  subst z;rcases he with r|r
  ·exact hx b n r
  ·rw [n] at r;cases r
 have hm:∀ b u,H b=some u->¬ Mut (some u)->b≠x:=λb u q nm z=>by subst z;rw [q] at mu;exact nm mu
 refine ⟨λb u q n _ _=>k b u (hb b n) q,λb u q n _ _=>⟨u.slots,k b u (hb b n) q⟩,λb u q n _=>by rw [qq (hx b n)];exact n,λb u q _=>?_,
  λb xs q=>by rw [qq (hm b _ q λz=>z)];exact q,λb u xs q=>by rw [qq (hm b _ q λz=>z)];exact q,λb ps q=>⟨#[],by rw [qq (hm b _ q λz=>z),q];simp⟩⟩
 by_cases hbe:b=e
 ·subst hbe;exact heo
 ·exact ⟨u,k b u hbe q⟩
end
def trk (h:Heap) (H:Hp):List Addr:=(List.range h.objs.size).filter λa=>(H a).isSome
def qcr (h:Heap) (H:Hp):Heap:=PySem.W.hideAll h (trk h H)
def qak (h:Heap) (H:Hp):(qcr h H).objs.size=h.objs.size:=PySem.W.hideAll_size _ _
def qbU {h:Heap} {H:Hp} {b:Addr} {o:Obj} (e:h.get? b=some o) (n:H b=none):(qcr h H).get? b=some o:=
 PySem.W.hideAll_get _ e λhm=>by
  have q:(H b).isSome=true:=(List.mem_filter.mp hm).2;rw [n] at q;simp at q
def qfu {h:Heap} {H:Hp} {b:Addr} {o:Obj} (e:(qcr h H).get? b=some o):h.get? b=some o/\H b=none:=by
 have e':h.get? b=some o:=PySem.W.of_hideAll (trk h H) e;refine ⟨e',?_⟩;cases q:H b with
 |none=>rfl
 |some x=>
  have hm:b∈trk h H:=List.mem_filter.mpr ⟨mem_range.mpr (Heap.lt_size e'),by simp [q]⟩;have z:(qcr h H).get? b=none:=PySem.W.hideAll_none (trk h H) hm;rw [z] at e;cases e
def qf8 (g h:Heap) (L:Addr):List (Addr×Obj):=(List.range h.objs.size).filterMap λa=>if a=L\/(g.get? a).isSome=true then none else (h.get? a).map λo=>(a,o)
def j8 (g h:Heap) (L d:Addr):List (Addr×Obj):=(qf8 g h L).filter λp=>decide (p.1≠d)
structure Mod (K:Frg) (mg:Str->Option Value) (base:Heap):Prop where
 kin:K.In base
 glob:base.Ns mainGlobals mg
 blt:∃ mb,base.Ns builtinsNs mb/\∀ x:Str,x≠"__name__" -> mb x=bootBuiltins x
 nolimit:base.NoLimit
structure Cx where
 prog:Program
 w:World
 K:PySem.W.Frag
 mg:Str->Option Value
 base:Heap
 A:Around
 N:List Str
 s₀:Shared
 H₀:Hp
 env:Env
 outer:List Env
 stack:List Env
 ex:List Addr
 fn:Str->Bool
 calm:Bool
 pn:List (Addr×Obj)
 xe:Value->Shared->Prop
def frs (l:List Env):List Addr:=l.filterMap (·.frame)
abbrev Cx.fs (X:Cx):List Addr:=frs X.outer
def Vis (sc:Scope) (x:Str):Prop:=sc.names.lookup x=some .local\/sc.names.lookup x=some .cell\/sc.names.lookup x=some .free
def Loc (sc:Scope) (x:Str):Prop:=sc.names.lookup x=some .local\/sc.names.lookup x=some .cell
def qoE (env:Env) (h:Heap) (m:Str->Option Value) (x:Str) (u:Value):Prop:=
 (env.kindOf x=some .local/\m x=some u)\/((env.kindOf x=some .cell\/env.kindOf x=some .free)/\∃ c,env.cells.lookup x=some c/\h.IsCell c (some u))
structure Cx.Ok (X:Cx):Prop where
 mod:Mod X.K X.mg X.base
 kind:X.env.scope.kind=.function
 glob:X.env.globals=mainGlobals
 blt:X.env.builtins=builtinsNs
 above:X.s₀.heap.objs.size<=X.env.locals
 inj:∀ x y c,X.env.cells.lookup x=some c->X.env.cells.lookup y=some c->x=y
 has:∀ x,(X.env.kindOf x=some .cell\/X.env.kindOf x=some .free)->∃ c,X.env.cells.lookup x=some c
 cab:∀ x c,X.fn x=true->X.env.cells.lookup x=some c->X.s₀.heap.objs.size<=c
 hd:X.calm=true->X.A.handled=none
 frames:X.A.frames=some X.stack
 stk:X.stack=X.outer\/(X.stack=X.env::X.outer/\X.env.frame=some X.env.locals)
 exf:∀ b∈X.ex,b≠X.env.locals/\∀ x c,X.env.cells.lookup x=some c->c≠b
 bs:∀ b o,X.base.get? b=some o->X.s₀.heap.get? b=some o/\X.H₀ b=none
 bsz:X.base.objs.size<=X.s₀.heap.objs.size
 noex:∀ b o,X.base.get? b=some o->b∉X.ex
 exfs:∀ b∈X.ex,b∉X.fs
 funs:X.s₀.heap.FunFrames X.base X.outer
 frf:∀ b∈X.fs,X.H₀ b=none
structure Inv (X:Cx) (pins:List (Addr×Obj)) (σ:List (Option V)) (H:Hp) (s:Shared):Prop where
 ok:X.Ok
 os:s.os=X.s₀.os
 bare:AllBare s.gens
 base:Un X.fs X.ex X.H₀ H X.s₀.heap s.heap
 loc:∃ m,s.heap.Ns X.env.locals m/\∀ (i:Nat) (x:Str) (v:V),X.N[i]?=some x->σ[i]?=some (some v)->Vis X.env.scope x->∃ u,jk v u/\qoE X.env s.heap m x u
 cell:∀ x c,X.env.cells.lookup x=some c->∃ v,s.heap.IsCell c v
 free:H X.env.locals=none
 freeC:∀ x c,X.env.cells.lookup x=some c->H c=none
 pin:∀ p∈X.pn++pins,s.heap.get? p.1=some p.2/\H p.1=none/\p.1≠X.env.locals/\p.1∉X.fs/\∀ v,p.2.data≠.cell v
 hok:HOk X.prog X.w H s.heap
 len:σ.length=X.N.length
section
variable {X:Cx} {pins:List (Addr×Obj)} {σ:List (Option V)} {H H':Hp} {s:Shared} {h':Heap}
def Cx.Ok.nofr (ok:X.Ok) {b:Addr} {o:Obj} (e:X.base.get? b=some o):b∉X.fs:=λhb=>by
 have:=(ok.funs.mem hb).1;rw [e] at this;cases this
def Inv.bs (I:Inv X pins σ H s):∀ b o,X.base.get? b=some o->s.heap.get? b=some o/\H b=none:=λb o e=>
 ⟨I.base.keep b o (I.ok.bs b o e).1 (I.ok.bs b o e).2 (I.ok.nofr e) (I.ok.noex b o e),I.base.free b o (I.ok.bs b o e).1 (I.ok.bs b o e).2 (I.ok.noex b o e)⟩
def Inv.bk (I:Inv X pins σ H s):∀ b o,X.base.get? b=some o->s.heap.get? b=some o:=λb o e=>(I.bs b o e).1
def Inv.mod (I:Inv X pins σ H s):Mod X.K X.mg X.base:=I.ok.mod
def Inv.kIn (I:Inv X pins σ H s):X.K.In s.heap:=I.ok.mod.kin.keeps I.bk
def Inv.nolimit (I:Inv X pins σ H s):s.heap.NoLimit:=I.ok.mod.nolimit.keeps I.bk
def Inv.fr (I:Inv X pins σ H s):∃ m,Fr X.base X.env.locals s.heap m:=
 let ⟨m,hn,_⟩:=I.loc
 ⟨m,hn,I.bk,Nat.le_trans I.ok.bsz I.ok.above⟩
def Inv.lt (I:Inv X pins σ H s):X.env.locals<s.heap.objs.size:=let ⟨_,hn,_⟩:=I.loc;hn.lt
def Inv.sz (I:Inv X pins σ H s):X.s₀.heap.objs.size<=s.heap.objs.size:=Nat.le_trans I.ok.above (Nat.le_of_lt I.lt)
def Inv.nofs (I:Inv X pins σ H s) {a:Addr} (h:s.heap.objs.size<=a):a∉X.fs:=λhb=>by
 obtain ⟨_,o,ho,_⟩:=I.ok.funs.mem hb;exact absurd (Nat.lt_of_lt_of_le (Heap.lt_size ho) (Nat.le_trans I.sz h)) (Nat.lt_irrefl _)
def Inv.cne (I:Inv X pins σ H s):∀ x c,X.env.cells.lookup x=some c->c≠X.env.locals:=λx c e z=>by
 obtain ⟨v,o,ho,hd⟩:=I.cell x c e;obtain ⟨m,⟨o',es,ep,ho',hd',_⟩,_⟩:=I.loc;rw [z,ho'] at ho;cases ho;rw [hd'] at hd;cases hd
def Inv.funs (I:Inv X pins σ H s):s.heap.FunFrames X.base X.outer:=by
 have all:∀ (l:List Env),(∀ b∈frs l,b∈X.fs)->X.s₀.heap.FunFrames X.base l->s.heap.FunFrames X.base l:=by
  intro l;induction l with
  |nil=>intro _ _;trivial
  |cons env r ih=>
   intro hs hl;obtain ⟨hk,⟨L,o,hf,hn,ho,hd⟩,hr⟩:=hl;have hL:L∈X.fs:=hs L (by unfold frs;rw [List.filterMap_cons,hf];exact List.mem_cons_self);obtain ⟨sl,e⟩:=I.base.slot L o ho (I.ok.frf L hL) hL λz=>I.ok.exfs L z hL;exact ⟨hk,⟨L,_,hf,hn,e,hd⟩,ih (λb hb=>hs b (by unfold frs;rw [List.filterMap_cons,hf];exact List.mem_cons_of_mem _ hb)) hr⟩
 exact all X.outer (λ_ hb=>hb) I.ok.funs
def Inv.stack (I:Inv X pins σ H s):s.heap.FunFrames X.base X.stack:=by
 rcases I.ok.stk with e|⟨e,hf⟩
 ·rw [e];exact I.funs
 ·rw [e];obtain ⟨m,hn,_⟩:=I.loc;refine .cons (by rw [I.ok.kind];decide) hf hn ?_ I.funs;exact Heap.get?_none_of_le (Nat.le_trans I.ok.bsz I.ok.above)
def Inv.stkSub (I:Inv X pins σ H s):∀ b∈frs X.stack,b∈X.env.locals::X.fs:=λb hb=>by
 rcases I.ok.stk with e|⟨e,hf⟩
 ·rw [e] at hb;exact List.mem_cons_of_mem _ hb
 ·rw [e] at hb;unfold frs at hb;rw [List.filterMap_cons,hf] at hb;exact hb
def Inv.stkFree (I:Inv X pins σ H s):∀ b∈frs X.stack,H b=none:=λb hb=>by
 rcases mem_cons.mp (I.stkSub b hb) with e|hb
 ·rw [e];exact I.free
 ·obtain ⟨_,o,ho,_⟩:=I.ok.funs.mem hb;exact I.base.free b o ho (I.ok.frf b hb) λz=>I.ok.exfs b z hb
def Inv.step {g':Array GenState} {t':Nat} {d':Drawn} {ch:List Addr} (I:Inv X pins σ H s)
  (hch:∀ b∈ch,(b∈X.ex\/X.s₀.heap.objs.size<=b)/\b≠X.env.locals/\(∀ x c,X.env.cells.lookup x=some c->c≠b)/\∀ p∈X.pn++pins,p.1≠b)
  (keep:∀ b o,b≠X.env.locals->b∉X.fs->b∉ch->s.heap.get? b=some o->H b=none->h'.get? b=some o)
  (slot:∀ b o,b≠X.env.locals->b∈X.fs->b∉ch->s.heap.get? b=some o->H b=none->∃ sl,h'.get? b=some { o with slots:=sl }) (free:∀ b o,b∉ch->s.heap.get? b=some o->H b=none->H' b=none)
  (there:∀ b o,b∉ch->s.heap.get? b=some o->∃ o',h'.get? b=some o')
  (tups:∀ b xs,H b=some (.tup xs)->H' b=some (.tup xs)) (frzs:∀ b o u,H b=some (.frz o u)->H' b=some (.frz o u)) (tbls:∀ b ps,H b=some (.tbl ps)->∃ more,H' b=some (.tbl (ps++more)))
  (ns:∀ m,s.heap.Ns X.env.locals m->h'.Ns X.env.locals m) (hok:HOk X.prog X.w H' h') (hg:AllBare g') :
  Inv X pins σ H' { s with heap:=h',gens:=g',drawn:=d',toks:=t' }:=by
 have neL:∀ b o,X.s₀.heap.get? b=some o->b≠X.env.locals:=λb o e=>Nat.ne_of_lt (Nat.lt_of_lt_of_le (Heap.lt_size e) I.ok.above);have neC:∀ b o,X.s₀.heap.get? b=some o->b∉X.ex->b∉ch:=λb o e hx hb=>by
  rcases (hch b hb).1 with z|z
  ·exact hx z
  ·exact absurd (Nat.lt_of_lt_of_le (Heap.lt_size e) z) (Nat.lt_irrefl _)
 have cellK:∀ x c,X.env.cells.lookup x=some c->∀ v,s.heap.IsCell c v->h'.IsCell c v:=λx c e v ⟨o,ho,hd⟩=>by
  have nch:c∉ch:=λz=>(hch c z).2.2.1 x c e rfl;by_cases hc:c∈X.fs
  ·obtain ⟨sl,q⟩:=slot c o (I.cne x c e) hc nch ho (I.freeC x c e);exact ⟨_,q,hd⟩
  ·exact ⟨o,keep c o (I.cne x c e) hc nch ho (I.freeC x c e),hd⟩
 refine ⟨I.ok,I.os,hg,⟨λb o e n hb hx=>?_,λb o e n hb hx=>?_,λb o e n hx=>?_,λb o e hx=>?_,λb xs e=>tups b xs (I.base.tups b xs e),λb o xs e=>frzs b o xs (I.base.frzs b o xs e),λb ps e=>?_⟩,?_,λx c e=>?_,?_,λx c e=>?_,λp hp=>?_,hok,I.len⟩
 ·exact keep b o (neL b o e) hb (neC b o e hx) (I.base.keep b o e n hb hx) (I.base.free b o e n hx)
 ·obtain ⟨sl,e1⟩:=I.base.slot b o e n hb hx;obtain ⟨sl',e2⟩:=slot b _ (neL b o e) hb (neC b o e hx) e1 (I.base.free b o e n hx);exact ⟨sl',e2⟩
 ·obtain ⟨o',e1⟩:=I.base.there b o e hx;exact free b o' (neC b o e hx) e1 (I.base.free b o e n hx)
 ·obtain ⟨o',e1⟩:=I.base.there b o e hx;exact there b o' (neC b o e hx) e1
 ·obtain ⟨m1,e1⟩:=I.base.tbls b ps e;obtain ⟨m2,e2⟩:=tbls b _ e1;exact ⟨m1++m2,by rw [e2,Array.append_assoc]⟩
 ·obtain ⟨m,hn,hl⟩:=I.loc;refine ⟨m,ns m hn,λi x v e1 e2 e3=>?_⟩;obtain ⟨u,r,l⟩:=hl i x v e1 e2 e3;refine ⟨u,r,?_⟩;rcases l with l|⟨k,c,e,z⟩
  ·exact .inl l
  ·exact .inr ⟨k,c,e,cellK x c e _ z⟩
 ·obtain ⟨v,z⟩:=I.cell x c e;exact ⟨v,cellK x c e v z⟩
 ·obtain ⟨m,⟨o,_,_,ho,_⟩,_⟩:=I.loc;exact free _ o (λz=>(hch _ z).2.1 rfl) ho I.free
 ·obtain ⟨v,o,ho,hd⟩:=I.cell x c e;exact free c o (λz=>(hch c z).2.2.1 x c e rfl) ho (I.freeC x c e)
 ·obtain ⟨e,n,ne,nf,d⟩:=I.pin p hp;have nch:p.1∉ch:=λz=>(hch p.1 z).2.2.2 p hp rfl;exact ⟨keep p.1 p.2 ne nf nch e n,free p.1 p.2 nch e n,ne,nf,d⟩
def Inv.un {t':Nat} (I:Inv X pins σ H s) (u:Un X.fs [] H H' s.heap h') (hok:HOk X.prog X.w H' h'):Inv X pins σ H' { s with heap:=h',toks:=t' }:=by
 obtain ⟨m,⟨o,es,ep,ho,r⟩,_⟩:=id I.loc;obtain ⟨sl,hL⟩:=u.any ho I.free (by simp);exact I.step (g':=s.gens) (d':=s.drawn) (ch:=[]) (λ_ z=>nomatch z) (λb o _ hb _ e n=>u.keep b o e n hb (by simp)) (λb o _ hb _ e n=>u.slot b o e n hb (by simp)) (λb o _ e n=>u.free b o e n (by simp)) (λb o _ e=>u.there b o e (by simp)) u.tups u.frzs u.tbls (λm' hm=>by
  obtain ⟨o',es',ep',ho',r'⟩:=hm;rw [ho] at ho';cases ho';exact ⟨_,es',ep',hL,r'⟩) hok I.bare
def Inv.call {g':Array GenState} {t':Nat} {d':Drawn} {ch:List Addr} (I:Inv X pins σ H s) (u:Un (frs X.stack) ch H H' s.heap h') (hok:HOk X.prog X.w H' h') (hg:AllBare g')
  (hch:∀ b∈ch,(b∈X.ex\/X.s₀.heap.objs.size<=b)/\b≠X.env.locals/\(∀ x c,X.env.cells.lookup x=some c->c≠b)/\∀ p∈X.pn++pins,p.1≠b) :
  Inv X pins σ H' { s with heap:=h',gens:=g',drawn:=d',toks:=t' }:=by
 obtain ⟨m,⟨o,es,ep,ho,r⟩,_⟩:=id I.loc;obtain ⟨sl,hL⟩:=u.any ho I.free λz=>(hch _ z).2.1 rfl;exact I.step (ch:=ch) hch (λb o hL hb hc e n=>u.keep b o e n (λz=>(mem_cons.mp (I.stkSub b z)).elim hL hb) hc) (λb o _ _ hc e n=>u.any e n hc) (λb o hc e n=>u.free b o e n hc) (λb o hc e=>u.there b o e hc) u.tups u.frzs u.tbls (λm' hm=>by
  obtain ⟨o',es',ep',ho',r'⟩:=hm;rw [ho] at ho';cases ho';exact ⟨_,es',ep',hL,r'⟩) hok hg
def Inv.turned {t':Nat} {it:Addr} (I:Inv X pins σ H s) (k:∀ b o,b≠it->s.heap.get? b=some o->h'.get? b=some o) (hn:H it=none) (hL:it≠X.env.locals)
  (h1:it∈X.ex\/X.s₀.heap.objs.size<=it) (h2:∀ x c,X.env.cells.lookup x=some c->c≠it) (h3:∀ p∈X.pn++pins,p.1≠it):Inv X pins σ H { s with heap:=h',toks:=t' }:=by
 have nit:∀ b u,H b=some u->b≠it:=λb u e z=>by rw [z,hn] at e;cases e
 refine I.step (g':=s.gens) (d':=s.drawn) (ch:=[it]) (λb hb=>?_) (λb o _ _ hc e _=>k b o (λz=>hc (by simp [z])) e) (λb o _ _ hc e _=>⟨o.slots,k b o (λz=>hc (by simp [z])) e⟩) (λ_ _ _ _ n=>n)
  (λb o hc e=>⟨o,k b o (λz=>hc (by simp [z])) e⟩) (λ_ _ e=>e) (λ_ _ _ e=>e) (λb ps e=>⟨#[],by rw [e];simp⟩) (λm hm=>?_) (λb u e=>?_) I.bare
 ·have e:b=it:=by simpa using hb
  subst e;exact ⟨h1,hL,h2,h3⟩
 ·obtain ⟨o,es,ep,ho,r⟩:=hm;exact ⟨o,es,ep,k _ o (Ne.symm hL) ho,r⟩
 ·refine (I.hok b u e).stay (λc v hc q=>k c v ?_ q) (λ_ q=>q) λ_ _ q=>q;rcases hc with z|z
  ·rw [z];exact nit b u e
  ·exact nit c _ z
def Inv.tok (I:Inv X pins σ H s) (t:Nat):Inv X pins σ H { s with toks:=t }:=I.un (h':=s.heap) (t':=t) Un.refl I.hok
def Inv.kept {t':Nat} (I:Inv X pins σ H s) (k:∀ b u,s.heap.get? b=some u->h'.get? b=some u):Inv X pins σ H { s with heap:=h',toks:=t' }:=I.un (Un.kept k) (I.hok.kept k)
def Inv.laid {a:Addr} {o:HO} {t':Nat} (I:Inv X pins σ H s) (k:∀ b u,s.heap.get? b=some u->h'.get? b=some u) (hp:s.heap.objs.size<=a) (new:Z5 X.prog X.w (upd H a o) h' a o) :
  Inv X pins σ (upd H a o) { s with heap:=h',toks:=t' }:=I.un (Un.laid k hp (I.hok.fresh hp)) (I.hok.laid k hp new)
def Inv.write {x e:Addr} {o:HO} {t':Nat} (I:Inv X pins σ H s) (mu:Mut (H x)) (he:e=x\/H e=some (.own x)) (k:∀ b u,b≠e->s.heap.get? b=some u->h'.get? b=some u) (heo:∃ u,h'.get? e=some u)
  (new:Z5 X.prog X.w (upd H x o) h' x o):Inv X pins σ (upd H x o) { s with heap:=h',toks:=t' }:=I.un (Un.write mu he k heo) (I.hok.write mu he k heo new)
def Inv.pins_of {pins':List (Addr×Obj)} (I:Inv X pins σ H s) (h:∀ p∈pins',s.heap.get? p.1=some p.2/\H p.1=none/\p.1≠X.env.locals/\p.1∉X.fs/\∀ v,p.2.data≠.cell v):Inv X pins' σ H s:=
 ⟨I.ok,I.os,I.bare,I.base,I.loc,I.cell,I.free,I.freeC,λp hp=>(List.mem_append.mp hp).elim (λz=>I.pin p (List.mem_append_left _ z)) (h p),I.hok,I.len⟩
def TL {N:List Str} (hN:N.Nodup) {i j:Nat} {x:Str} (a:N[i]?=some x) (b:N[j]?=some x):i=j:=by
 obtain ⟨h1,e1⟩:=List.getElem?_eq_some_iff.mp a;obtain ⟨h2,e2⟩:=List.getElem?_eq_some_iff.mp b;exact (List.getElem_inj hN).mp (e1.trans e2.symm)
def X8 {M:Model} {A:Around} {E:Value->Shared->Prop} {i:Nat} {x:Str} {v:V} {u:Value} {Q:Unit->Shared->Prop} (I:Inv X pins σ H s) (hN:X.N.Nodup) (hi:X.N[i]?=some x) (hx:Loc X.env.scope x) (r:jk v u)
  (h:∀ s',Inv X pins (σ.set i (some v)) H s'->(∃ a,Heap.SameBut a s.heap s'.heap/\(a=X.env.locals\/X.env.cells.lookup x=some a))->Q () s') (hf:X.fn x=true\/X.env.scope.names.lookup x=some .local:=by first|exact .inl rfl|exact .inr rfl|assumption):wpAny M A (storeName X.env x u) Q E s:=by
 obtain ⟨m,hn,hl⟩:=id I.loc;have hcls:(X.env.scope.kind==.class||(X.env.scope.kind==.module&&X.env.locals != X.env.globals))=false:=by rw [I.ok.kind];rfl
 have hiσ:i<σ.length:=by rw [I.len];exact (List.getElem?_eq_some_iff.mp hi).1
 have cne:=I.cne;have tracked:∀ {a:Addr} {h':Heap},(∃ o,s.heap.get? a=some o/\H a=none)->Heap.SameBut a s.heap h'->HOk X.prog X.w H h':=λ{a h'} ha hs b ob e=>by
  obtain ⟨_,_,hfree⟩:=ha;refine (I.hok b ob e).stay (λc w' hc q=>(hs.2 c ?_).trans q) (λ_ q=>q) λ_ _ q=>q;rintro rfl;rcases hc with rfl|hc
  ·rw [hfree] at e;cases e
  ·rw [hfree] at hc;cases hc
 rcases hx with hk|hk
 ·refine wpAny_storeName_local hk hn (λh' hn' hs=>?_) hcls;obtain ⟨oL,_,_,hoL,_⟩:=id hn;refine h _ ⟨I.ok,I.os,I.bare,⟨λb o e n hb hx=>?_,λb o e n hb hx=>?_,I.base.free,λb o e hx=>?_,I.base.tups,I.base.frzs,I.base.tbls⟩,⟨_,hn',λj y v' e1 e2 e3=>?_⟩,λy c e=>?_,I.free,I.freeC,λp hp=>?_,tracked ⟨oL,hoL,I.free⟩ hs,by simpa using I.len⟩ ⟨_,hs,.inl rfl⟩
  ·exact (hs.2 b (Nat.ne_of_lt (Nat.lt_of_lt_of_le (Heap.lt_size e) I.ok.above))).trans (I.base.keep b o e n hb hx)
  ·obtain ⟨sl,e1⟩:=I.base.slot b o e n hb hx;exact ⟨sl,(hs.2 b (Nat.ne_of_lt (Nat.lt_of_lt_of_le (Heap.lt_size e) I.ok.above))).trans e1⟩
  ·obtain ⟨o',e1⟩:=I.base.there b o e hx;exact ⟨o',(hs.2 b (Nat.ne_of_lt (Nat.lt_of_lt_of_le (Heap.lt_size e) I.ok.above))).trans e1⟩
  ·by_cases hj:j=i
   ·subst hj;rw [hi] at e1;cases e1;rw [List.getElem?_set_self hiσ] at e2;cases e2;exact ⟨u,r,.inl ⟨hk,by simp⟩⟩
   ·rw [List.getElem?_set_ne (Ne.symm hj)] at e2;obtain ⟨u',r',q⟩:=hl j y v' e1 e2 e3;refine ⟨u',r',?_⟩;rcases q with ⟨k,e⟩|⟨k,c,e,z⟩
    ·refine .inl ⟨k,?_⟩;have:y≠x:=λe=>hj (TL hN e1 (e▸hi));simp [this,e]
    ·exact .inr ⟨k,c,e,z.sameBut hs (cne y c e)⟩
  ·obtain ⟨w',z⟩:=I.cell y c e;exact ⟨w',z.sameBut hs (cne y c e)⟩
  ·obtain ⟨e,n,ne,nf,d⟩:=I.pin p hp;exact ⟨(hs.2 p.1 ne).trans e,n,ne,nf,d⟩
 ·have hfn:X.fn x=true:=by
   rcases hf with z|z
   ·exact z
   ·rw [z] at hk;cases hk
  obtain ⟨c,hc⟩:=I.ok.has x (.inl hk);obtain ⟨w',z⟩:=I.cell x c hc;refine wpAny_storeName_cell I.ok.kind hk hc z (λh' hc' hs=>?_);obtain ⟨oc,hoc,hocd⟩:=id z;refine h { s with heap:=h' } ⟨I.ok,I.os,I.bare,⟨λb o e n hb hx=>?_,λb o e n hb hx=>?_,I.base.free,λb o e hx=>?_,I.base.tups,I.base.frzs,I.base.tbls⟩,⟨m,hn.sameBut hs (Ne.symm (cne x c hc)),λj y v' e1 e2 e3=>?_⟩,λy c' e=>?_,I.free,I.freeC,λp hp=>?_,tracked ⟨oc,hoc,I.freeC x c hc⟩ hs,by simpa using I.len⟩ ⟨c,hs,.inr hc⟩
  ·exact (hs.2 b (Nat.ne_of_lt (Nat.lt_of_lt_of_le (Heap.lt_size e) (I.ok.cab x c hfn hc)))).trans (I.base.keep b o e n hb hx)
  ·obtain ⟨sl,e1⟩:=I.base.slot b o e n hb hx;exact ⟨sl,(hs.2 b (Nat.ne_of_lt (Nat.lt_of_lt_of_le (Heap.lt_size e) (I.ok.cab x c hfn hc)))).trans e1⟩
  ·obtain ⟨o',e1⟩:=I.base.there b o e hx;exact ⟨o',(hs.2 b (Nat.ne_of_lt (Nat.lt_of_lt_of_le (Heap.lt_size e) (I.ok.cab x c hfn hc)))).trans e1⟩
  ·by_cases hj:j=i
   ·subst hj;rw [hi] at e1;cases e1;rw [List.getElem?_set_self hiσ] at e2;cases e2;exact ⟨u,r,.inr ⟨.inl hk,c,hc,hc'⟩⟩
   ·rw [List.getElem?_set_ne (Ne.symm hj)] at e2;obtain ⟨u',r',q⟩:=hl j y v' e1 e2 e3;refine ⟨u',r',?_⟩;rcases q with q|⟨k,c',e,z'⟩
    ·exact .inl q
    ·refine .inr ⟨k,c',e,z'.sameBut hs ?_⟩;rintro rfl;exact hj (TL hN e1 (I.ok.inj _ _ _ e hc▸hi))
  ·by_cases hcc:c'=c
   ·subst hcc;exact ⟨_,hc'⟩
   ·obtain ⟨w2,z2⟩:=I.cell y c' e;exact ⟨w2,z2.sameBut hs hcc⟩
  ·obtain ⟨e,n,ne,nf,d⟩:=I.pin p hp;refine ⟨(hs.2 p.1 ?_).trans e,n,ne,nf,d⟩;intro q;rw [q,hoc] at e;have q':oc=p.2:=Option.some.inj e;exact d w' (by rw [← q'];exact hocd)
def Y9 {M:Model} {A:Around} {E:Value->Shared->Prop} {i:Nat} {x:Str} {v:V} {u:Value} {Q:Unit->Shared->Prop} (I:Inv X pins σ H s) (hN:X.N.Nodup) (hi:X.N[i]?=some x) (hx:Loc X.env.scope x) (r:jk v u)
  (h:∀ s',Inv X pins (σ.set i (some v)) H s'->Q () s') (hf:X.fn x=true\/X.env.scope.names.lookup x=some .local:=by first|exact .inl rfl|exact .inr rfl|assumption):wpAny M A (storeName X.env x u) Q E s:=
 X8 I hN hi hx r (λs' I' _=>h s' I') hf
def Inv.call' {s':Shared} {ch:List Addr} (I:Inv X pins σ H s) (ho:s'.os=s.os) (u:Un (frs X.stack) ch H H' s.heap s'.heap) (hok:HOk X.prog X.w H' s'.heap) (hg:AllBare s'.gens)
  (hch:∀ b∈ch,(b∈X.ex\/X.s₀.heap.objs.size<=b)/\b≠X.env.locals/\(∀ x c,X.env.cells.lookup x=some c->c≠b)/\∀ p∈X.pn++pins,p.1≠b):Inv X pins σ H' s':=by
 obtain ⟨h',g',d',t',o'⟩:=s';have e:o'=s.os:=ho;subst e;exact I.call (g':=g') (t':=t') (d':=d') u hok hg hch
end
abbrev XK:=Value->Option Addr->Hp->Prop
abbrev St:=List (Option V)
abbrev VK:=V->Hp->Prop
abbrev TE:=St->Hp->VK->Prop
abbrev TT:=St->Hp->(Bool->Hp->Prop)->Prop
abbrev TA:=St->Hp->(List V->Hp->Prop)->Prop
structure Ends where
 nx:St->Hp->Prop
 rt:VK
 bk:St->Hp->Prop:=λ_ _=>False
 ct:St->Hp->Prop:=λ_ _=>False
abbrev TS:=Ends->St->Hp->Prop
def EP (X:Cx) (pins:List (Addr×Obj)) (σ:St) (Q:VK) (u:Value) (s':Shared):Prop:=∃ v H',Inv X pins σ H' s'/\jk v u/\Q v H'
def TP (X:Cx) (pins:List (Addr×Obj)) (σ:St) (Q:Bool->Hp->Prop) (b:Bool) (s':Shared):Prop:=∃ H',Inv X pins σ H' s'/\Q b H'
def AP (X:Cx) (pins:List (Addr×Obj)) (σ:St) (Q:List V->Hp->Prop) (us:List Value) (s':Shared):Prop:=∃ vs H',Inv X pins σ H' s'/\zj vs us/\Q vs H'
def SP (X:Cx) (pins:List (Addr×Obj)) (D:Ends) (f:Flow) (s':Shared):Prop:=
 match f with
 |.next=>∃ σ' H',Inv X pins σ' H' s'/\D.nx σ' H'
 |.brk=>∃ σ' H',Inv X pins σ' H' s'/\D.bk σ' H'
 |.cont=>∃ σ' H',Inv X pins σ' H' s'/\D.ct σ' H'
 |.ret u=>∃ v σ' H',Inv X pins σ' H' s'/\jk v u/\D.rt v H'
def PE (X:Cx) (e:Expr) (t:TE):Prop:=
 ∀ (pins:List (Addr×Obj)) (s:Shared) (σ:St) (H:Hp) (Q:VK),Inv X pins σ H s->t σ H Q->wpAny (model X.prog X.w) X.A (eval e X.env) (EP X pins σ Q) X.xe s
def PT (X:Cx) (e:Expr) (t:TT):Prop:=
 ∀ (pins:List (Addr×Obj)) (s:Shared) (σ:St) (H:Hp) (Q:Bool->Hp->Prop),Inv X pins σ H s->t σ H Q->wpAny (model X.prog X.w) X.A (isTrue e X.env (eval e X.env)) (TP X pins σ Q) X.xe s
def PW (X:Cx) (e:Expr) (t:TT):Prop:=
 ∀ (whole:Sem Value) (pins:List (Addr×Obj)) (s:Shared) (σ:St) (H:Hp) (Q:Bool->Hp->Prop),Inv X pins σ H s->t σ H Q->wpAny (model X.prog X.w) X.A (isTrue e X.env whole) (TP X pins σ Q) X.xe s
def PW.pt {X:Cx} {e:Expr} {t:TT} (h:PW X e t):PT X e t:=h _
def PA (X:Cx) (es:List Expr) (t:TA):Prop:=
 ∀ (pos:Pos) (pins:List (Addr×Obj)) (s:Shared) (σ:St) (H:Hp) (Q:List V->Hp->Prop),Inv X pins σ H s->t σ H Q->wpAny (model X.prog X.w) X.A (spliced (backTo pos (starEach es X.env))) (AP X pins σ Q) X.xe s
def PS (X:Cx) (st:Stmt) (t:TS):Prop:=
 ∀ (pins:List (Addr×Obj)) (s:Shared) (σ:St) (H:Hp) (D:Ends),Inv X pins σ H s->t D σ H->wpAny (model X.prog X.w) X.A (exec st X.env) (SP X pins D) X.xe s
def PSs (X:Cx) (st:List Stmt) (t:TS):Prop:=
 ∀ (pins:List (Addr×Obj)) (s:Shared) (σ:St) (H:Hp) (D:Ends),Inv X pins σ H s->t D σ H->wpAny (model X.prog X.w) X.A (execs st X.env) (SP X pins D) X.xe s
def thn {α:Type} {t:Sem α} {Q Q':α->Shared->Prop} {M:Model} {A:Around} {E:Value->Shared->Prop} {s:Shared} (h:wpAny M A t Q E s) (hQ:∀ a s,Q a s->Q' a s):wpAny M A t Q' E s:=wpAny_mono h hQ λ_ _ x=>x
section
variable {X:Cx}
def qo1 (i:Nat):TE:=λσ H Q=>∃ v,σ[i]?=some (some v)/\Q v H
def tC (v:V):TE:=λ_ H Q=>Q v H
def qiT {i:Nat} {x:Str} {pos:Pos} (hN:X.N[i]?=some x) (hv:Vis X.env.scope x) (hd:(x==("__debug__" : Str))=false:=by decide) (hcd:(x==("__classdict__" : Str))=false:=by decide):PE X (.Name x pos) (qo1 i):=by
 intro pins s σ H Q I h;obtain ⟨v,e,h⟩:=h;obtain ⟨m,hn,hl⟩:=I.loc;obtain ⟨u,r,l⟩:=hl i x v hN e hv;have fin:EP X pins σ Q u s:=⟨v,H,I,r,h⟩
 rcases l with ⟨hk,hm⟩|⟨hk,c,hc,hcell⟩
 ·exact wpAny_Name (wpAny_loadName_local I.ok.kind hk hn hm fin) hd
 ·rcases hk with hk|hk
  ·exact wpAny_Name (wpAny_loadName_cell I.ok.kind hk hc hcell fin) hd
  ·exact wpAny_Name (wpAny_loadName_free I.ok.kind hk hc hcell fin hcd) hd
def qjN {i j pos}:PE X (.Constant (.int i) j pos) (tC (.int i)):=λ_ _ _ H _ I h=>wpAny_Constant_int ⟨.int i,H,I.tok _,⟨_,rfl⟩,h⟩
def qma {b j pos}:PE X (.Constant (.bool b) j pos) (tC (.bl b)):=λ_ _ _ H _ I h=>Constant_bool ⟨.bl b,H,I,rfl,h⟩
def qg9 {j pos}:PE X (.Constant .none j pos) (tC .non):=λ_ _ _ H _ I h=>Constant_none ⟨.non,H,I,rfl,h⟩
def qgB {x j pos}:PE X (.Constant (.str x) j pos) (tC (.str x)):=λ_ _ _ H _ I h=>Calls.Constant_str ⟨.str x,H,I.tok _,⟨_,rfl⟩,h⟩
def Gl (X:Cx) (x:Str):Prop:=X.env.kindOf x=some .globalImplicit
def qfU {E:Value->Shared->Prop} {pins:List (Addr×Obj)} {s:Shared} {σ:St} {H:Hp} {x:Str} {u:Value} {pos:Pos} {Q:Value->Shared->Prop} (I:Inv X pins σ H s) (hg:Gl X x) (hm:X.mg x=some u) (h:Q u s)
  (hd:(x==("__debug__" : Str))=false:=by decide):wpAny (model X.prog X.w) X.A (eval (.Name x pos) X.env) Q E s:=
 Calls.Name_function_global I.ok.kind hg (Calls.loadGlobal_global (by rw [I.ok.glob];exact I.mod.glob.keeps I.bk) hm h) hd
def YG {E:Value->Shared->Prop} {pins:List (Addr×Obj)} {s:Shared} {σ:St} {H:Hp} {x:Str} {u:Value} {pos:Pos} {Q:Value->Shared->Prop} (I:Inv X pins σ H s) (hg:Gl X x) (hm:X.mg x=none) (hv:bootBuiltins x=some u) (h:Q u s)
  (hn:x≠"__name__" := by decide) (hd:(x==("__debug__" : Str))=false:=by decide):wpAny (model X.prog X.w) X.A (eval (.Name x pos) X.env) Q E s:=by
 obtain ⟨mb,h1,h2⟩:=I.mod.blt;exact Calls.Name_function_global I.ok.kind hg (Calls.loadGlobal_builtin (by rw [I.ok.glob];exact I.mod.glob.keeps I.bk) hm (by rw [I.ok.blt];exact h1.keeps I.bk) ((h2 x hn).trans hv) h) hd
def S4 {x:Str} {v:V} {u:Value} {pos:Pos} (hg:Gl X x) (hm:X.mg x=none) (hv:bootBuiltins x=some u) (r:jk v u) (hn:x≠"__name__" := by decide) (hd:(x==("__debug__" : Str))=false:=by decide):PE X (.Name x pos) (tC v):=
 λ_ _ _ H _ I h=>YG I hg hm hv ⟨v,H,I,r,h⟩ hn hd
variable {a b:Expr} {ta tb:TE} {pos:Pos}
def tB (t:TE):TT:=λσ H Q=>t σ H λx H1=>∃ c,x=.bl c/\Q c H1
def qkd {e:Expr} {t:TE} (h:PE X e t) (he:∀ whole,isTrue e X.env whole=(do let v←whole;standAt e.pos;holding [v] (truthy v)):=by intro _;rfl):PT X e (tB t):=by
 intro pins s σ H Q I hw;refine isTrue_plain (thn (h pins s σ H _ I hw) λv s1 ⟨x,H1,I1,r1,q1⟩=>?_) (he _);obtain ⟨d,rfl,q⟩:=q1;cases r1;exact wpAny_truthy_bool ⟨H1,I1,q⟩
variable {tA tB':TT} {j8:List Expr}
def qoA (t u:TT):TT:=λσ H Q=>t σ H λc H1=>if c=true then u σ H1 Q else Q false H1
def tOr (t u:TT):TT:=λσ H Q=>t σ H λc H1=>if c=true then Q true H1 else u σ H1 Q
def qoL (t:TT):TT:=λσ H Q=>t σ H λc H1=>Q (!c) H1
def qfe (ha:PT X a tA):PW X (.BoolOp .And [a] pos) tA:=by
 intro wh pins s σ H Q I h;refine isTrue_and (thn (ha pins s σ H Q I h) λc s1 e=>?_);cases c with
 |true=>exact isTrue_and_nil e
 |false=>exact e
def qi1 (ha:PT X a tA):PW X (.BoolOp .Or [a] pos) tA:=by
 intro wh pins s σ H Q I h;refine isTrue_or (thn (ha pins s σ H Q I h) λc s1 e=>?_);cases c with
 |false=>exact isTrue_or_nil e
 |true=>exact e
def qhz (ha:PT X a tA) (hb:PW X (.BoolOp .And (b::j8) pos) tB'):PW X (.BoolOp .And (a::b::j8) pos) (qoA tA tB'):=by
 intro wh pins s σ H Q I h;refine isTrue_and (thn (ha pins s σ H _ I h) λc s1 ⟨H1,I1,q1⟩=>?_);cases c with
 |true=>exact hb wh pins s1 σ H1 Q I1 q1
 |false=>exact ⟨H1,I1,q1⟩
def qmn (ha:PT X a tA) (hb:PW X (.BoolOp .Or (b::j8) pos) tB'):PW X (.BoolOp .Or (a::b::j8) pos) (tOr tA tB'):=by
 intro wh pins s σ H Q I h;refine isTrue_or (thn (ha pins s σ H _ I h) λc s1 ⟨H1,I1,q1⟩=>?_);cases c with
 |true=>exact ⟨H1,I1,q1⟩
 |false=>exact hb wh pins s1 σ H1 Q I1 q1
def qj7 (ha:PT X a tA):PT X (.UnaryOp .Not a pos) (qoL tA):=by
 intro pins s σ H Q I h;exact isTrue_not (ha pins s σ H (λc H1=>Q (!c) H1) I h)
def qlB (ta tb:TE):TE:=λσ H Q=>ta σ H λx H1=>∃ c,x=.bl c/\if c=true then tb σ H1 Q else Q (.bl false) H1
def qmw (ta:TE):TE:=λσ H Q=>ta σ H λx H1=>∃ c,x=.bl c/\Q (.bl (!c)) H1
def qjQ {op} {t:TE} (h:PE X a t):PE X (.BoolOp op [a] pos) t:=λpins s σ H Q I hw=>BoolOp_one (h pins s σ H Q I hw)
def qiZ (ha:PE X a ta) (hb:PE X (.BoolOp .And (b::j8) pos) tb):PE X (.BoolOp .And (a::b::j8) pos) (qlB ta tb):=by
 intro pins s σ H Q I h;refine BoolOp_and (thn (ha pins s σ H _ I h) λv s1 ⟨x,H1,I1,r1,q1⟩=>?_);obtain ⟨c,rfl,q1⟩:=q1;cases r1;refine wpAny_truthy_bool ?_;cases c with
 |true=>exact hb pins s1 σ H1 Q I1 q1
 |false=>exact ⟨.bl false,H1,I1,rfl,q1⟩
def qh2 (ha:PE X a ta):PE X (.UnaryOp .Not a pos) (qmw ta):=by
 intro pins s σ H Q I h;refine UnaryOp_ (thn (ha pins s σ H _ I h) λv s1 ⟨x,H1,I1,r1,q1⟩=>?_);obtain ⟨c,rfl,q1⟩:=q1;cases r1;exact not_of (wpAny_truthy_bool ⟨.bl (!c),H1,I1,rfl,q1⟩)
def tIf (t:TT) (ta tb:TE):TE:=λσ H Q=>t σ H λc H1=>if c=true then ta σ H1 Q else tb σ H1 Q
def qbO {c:Expr} (hc:PT X c tA) (ha:PE X a ta) (hb:PE X b tb):PE X (.IfExp c a b pos) (tIf tA ta tb):=by
 intro pins s σ H Q I h;refine wpAny_IfExp (thn (hc pins s σ H _ I h) λd s1 ⟨H1,I1,q1⟩=>?_);cases d with
 |true=>exact ha pins s1 σ H1 Q I1 q1
 |false=>exact hb pins s1 σ H1 Q I1 q1
end
def SqL (K:Frg) (H:Hp) (a:Addr) (xs:List V):Prop:=
 Rd H a (.lst xs) ∨
  ∃ (o:Obj) (its:Array Value) (n:Nat),K.lookup a=some o/\o.cls=.type "list"/\o.dict=none/\o.data=.seq its n/\its.size<=sizeLine/\zj xs its.toList
def SqT (K:Frg) (H:Hp) (a:Addr) (xs:List V):Prop:=
 Rd H a (.tup xs) ∨
  ∃ (o:Obj) (its:Array Value) (n:Nat),K.lookup a=some o/\o.cls=.type "tuple"/\o.data=.seq its n/\its.size<=sizeLine/\zj xs its.toList/\o.dict=none
def qoW:Value->Option V
 |.none=>some .non
 |.bool b=>some (.bl b)
 |.int i _=>some (.int i)
 |.str x _=>some (.str x)
 |.bytes b _=>some (.byt b)
 |.float b _=>some (.flt b)
 |.ref a=>some (.ref a)
 |.type n=>some (.ty n)
 |_=>none
def jk.abs {x:V} {u:Value} (r:jk x u):qoW u=some x:=by
 cases x with
 |non=>cases r;rfl
 |bl _=>cases r;rfl
 |int _=>obtain ⟨t,rfl⟩:=r;rfl
 |str _=>obtain ⟨t,rfl⟩:=r;rfl
 |byt _=>obtain ⟨t,rfl⟩:=r;rfl
 |flt _=>obtain ⟨t,rfl⟩:=r;rfl
 |ref _=>cases r;rfl
 |ty _=>cases r;rfl
def jk.inj {x y:V} {u:Value} (r:jk x u) (q:jk y u):x=y:=Option.some.inj (r.abs.symm.trans q.abs)
def zj.inj:∀ {xs ys:List V} {us:List Value},zj xs us->zj ys us->xs=ys
 |_,_,_,.nil,.nil=>rfl
 |_,_,_,.cons r t,.cons r' t'=>by rw [r.inj r',zj.inj t t']
section
variable {X:Cx} {pins:List (Addr×Obj)} {σ:St} {H:Hp} {s:Shared} {a:Addr} {xs ys:List V}
def SqL.of {K:Frg} (h:H a=some (.lst xs)):SqL K H a xs:=.inl (.inl h)
def SqT.of {K:Frg} (h:H a=some (.tup xs)):SqT K H a xs:=.inl (.inl h)
def Inv.list (I:Inv X pins σ H s) (h:SqL X.K H a xs):∃ its:List Value,zj xs its/\PlainL s.heap a its.toArray/\xs.length<=sizeLine:=by
 rcases h with h|⟨o,its,n,hk,hc,hd,hs,hz,r⟩
 ·obtain ⟨z,its,n,r,e⟩:=h.ok I.hok;exact ⟨its,r,⟨_,n,e,rfl,rfl,rfl⟩,z⟩
 ·refine ⟨its.toList,r,⟨o,n,I.kIn a o hk,hc,hd,by simpa using hs⟩,?_⟩;have e:=r.length;simp only [Array.length_toList] at e;omega
def Inv.tuple (I:Inv X pins σ H s) (h:SqT X.K H a xs):∃ its:List Value,zj xs its/\IsTup s.heap a its.toArray/\xs.length<=sizeLine:=by
 rcases h with h|⟨o,its,n,hk,hc,hs,hz,r,_⟩
 ·obtain ⟨z,its,r,p⟩:=h.ok I.hok;exact ⟨its,r,p.tup,z⟩
 ·refine ⟨its.toList,r,⟨o,I.kIn a o hk,hc,n,by simpa using hs⟩,?_⟩;have e:=r.length;simp only [Array.length_toList] at e;omega
def Inv.tupleN (I:Inv X pins σ H s) (h:SqT X.K H a xs):∃ its:List Value,zj xs its/\JH s.heap a its.toArray/\xs.length<=sizeLine:=by
 rcases h with h|⟨o,its,n,hk,hc,hs,hz,r,dd⟩
 ·obtain ⟨z,its,r,p⟩:=h.ok I.hok;exact ⟨its,r,p,z⟩
 ·refine ⟨its.toList,r,⟨o,I.kIn a o hk,hc,n,by simpa using hs,dd⟩,?_⟩;have e:=r.length;simp only [Array.length_toList] at e;omega
def Inv.list_inj (I:Inv X pins σ H s) (h:SqL X.K H a xs) (h':SqL X.K H a ys):xs=ys:=by
 obtain ⟨its,r,⟨o,n,e,_,_,d⟩,_⟩:=I.list h;obtain ⟨its',r',⟨o',n',e',_,_,d'⟩,_⟩:=I.list h';rw [e] at e';cases e';rw [d] at d';injection d' with d1 _;have:its=its':=by simpa using congrArg Array.toList d1
 subst this;exact r.inj r'
def Inv.tuple_inj (I:Inv X pins σ H s) (h:SqT X.K H a xs) (h':SqT X.K H a ys):xs=ys:=by
 obtain ⟨its,r,⟨o,e,_,n,d⟩,_⟩:=I.tuple h;obtain ⟨its',r',⟨o',e',_,n',d'⟩,_⟩:=I.tuple h';rw [e] at e';cases e';rw [d] at d';injection d' with d1 _;have:its=its':=by simpa using congrArg Array.toList d1
 subst this;exact r.inj r'
end
abbrev Cx.wish (X:Cx) (E:Value->Shared->Prop):Cx:={ X with xe:=E }
abbrev Cx.nox (X:Cx):Cx:=X.wish λ_ _=>False
def Cx.Ok.wish {X:Cx} (ok:X.Ok) (E:Value->Shared->Prop):(X.wish E).Ok:=
 ⟨ok.mod,ok.kind,ok.glob,ok.blt,ok.above,ok.inj,ok.has,ok.cab,ok.hd,ok.frames,ok.stk,ok.exf,ok.bs,ok.bsz,ok.noex,ok.exfs,ok.funs,ok.frf⟩
def Cx.Ok.unwish {X:Cx} {E:Value->Shared->Prop} (ok:(X.wish E).Ok):X.Ok:=
 ⟨ok.mod,ok.kind,ok.glob,ok.blt,ok.above,ok.inj,ok.has,ok.cab,ok.hd,ok.frames,ok.stk,ok.exf,ok.bs,ok.bsz,ok.noex,ok.exfs,ok.funs,ok.frf⟩
section
variable {X:Cx} {pins:List (Addr×Obj)} {σ:St} {H:Hp} {s:Shared} {E:Value->Shared->Prop}
def Inv.wish (I:Inv X pins σ H s) (E:Value->Shared->Prop):Inv (X.wish E) pins σ H s:=⟨I.ok.wish E,I.os,I.bare,I.base,I.loc,I.cell,I.free,I.freeC,I.pin,I.hok,I.len⟩
def Inv.unwish (I:Inv (X.wish E) pins σ H s):Inv X pins σ H s:=⟨I.ok.unwish,I.os,I.bare,I.base,I.loc,I.cell,I.free,I.freeC,I.pin,I.hok,I.len⟩
def SP.unwish {D:Ends} {f:Flow} {s':Shared} (h:SP (X.wish E) pins D f s'):SP X pins D f s':=by
 cases f with
 |next=>obtain ⟨σ',H',I,q⟩:=h;exact ⟨σ',H',I.unwish,q⟩
 |brk=>obtain ⟨σ',H',I,q⟩:=h;exact ⟨σ',H',I.unwish,q⟩
 |cont=>obtain ⟨σ',H',I,q⟩:=h;exact ⟨σ',H',I.unwish,q⟩
 |ret u=>obtain ⟨v,σ',H',I,r,q⟩:=h;exact ⟨v,σ',H',I.unwish,r,q⟩
def PSs.nox {st:List Stmt} {t:TS} (h:PSs X.nox st t):PSs X st t:=λpins s σ H D I hw=>
 wpAny_mono (h pins s σ H D (I.wish _) hw) (λ_ _ q=>q.unwish) λ_ _ z=>False.elim z
end
section
variable {X:Cx} {st:Stmt} {j8:List Stmt} {t u:TS} {e:Expr} {te:TE} {pos:Pos}
def qlD:TS:=λD σ H=>D.nx σ H
def qoC (t u:TS):TS:=λD σ H=>t { D with nx:=u D } σ H
def qf6:PSs X [] qlD:=λ_ _ σ H _ I h=>wpAny_execs_nil ⟨σ,H,I,h⟩
def qcp (h1:PS X st t) (h2:PSs X j8 u):PSs X (st::j8) (qoC t u):=by
 intro pins s σ H D I h;refine wpAny_execs_cons (thn (h1 pins s σ H { D with nx:=u D } I h) λf s1 q=>?_);cases f with
 |next=>
  obtain ⟨σ',H',I',q⟩:=q;exact h2 pins s1 σ' H' D I' q
 |ret v=>exact q
 |brk=>exact q
 |cont=>exact q
def qf2 (h1:PS X st t):PSs X [st] t:=by
 intro pins s σ H D I h;refine wpAny_execs_cons (thn (h1 pins s σ H D I h) λf s1 q=>?_);cases f with
 |next=>exact wpAny_execs_nil q
 |ret v=>exact q
 |brk=>exact q
 |cont=>exact q
def Inv.quiet {pins:List (Addr×Obj)} {σ:St} {H:Hp} {s:Shared} (I:Inv X pins σ H s):interactive X.env=false:=by simp [interactive,I.ok.kind]
def qnf (te:TE):TS:=λD σ H=>te σ H λ_ H1=>D.nx σ H1
def qga (he:PE X e te) (hs:swapsWith e none pos.line X.env=pure false:=by rfl):PS X (.Expr e pos) (qnf te):=by
 intro pins s σ H D I h;exact wpAny_Expr_any (thn (he pins s σ H _ I h) λv s1 ⟨x,H1,I1,r1,q1⟩=>⟨σ,H1,I1,q1⟩) I.quiet hs
def qo2 (te:TE):TS:=λD σ H=>te σ H D.rt
def qkV (he:PE X e te):PS X (.Return (some e) pos) (qo2 te):=by
 intro pins s σ H D I h;exact wpAny_Return_some (thn (he pins s σ H _ I h) λv s1 ⟨x,H1,I1,r1,q1⟩=>⟨x,σ,H1,I1,r1,q1⟩)
def qoG (c:TT) (t u:TS):TS:=λD σ H=>c σ H λb H1=>if b=true then t D σ H1 else u D σ H1
def qlK {c:Expr} {a b:List Stmt} {tc:TT} (hc:PT X c tc) (ha:PSs X a t) (hb:PSs X b u):PS X (.If c a b pos) (qoG tc t u):=by
 intro pins s σ H D I h;refine wpAny_If (thn (hc pins s σ H _ I h) λd s1 ⟨H1,I1,q1⟩=>?_);cases d with
 |true=>exact ha pins s1 σ H1 D I1 q1
 |false=>exact hb pins s1 σ H1 D I1 q1
end
abbrev TG:=V->St->Hp->(St->Hp->Prop)->Prop
abbrev TGs:=List V->St->Hp->(St->Hp->Prop)->Prop
def PG (X:Cx) (target:Expr) (t:TG):Prop:=
 ∀ (pins:List (Addr×Obj)) (s:Shared) (σ:St) (H:Hp) (v:V) (u:Value) (Q:St->Hp->Prop),Inv X pins σ H s->jk v u->t v σ H Q ->
  wpAny (model X.prog X.w) X.A (assign target X.env u) (λ_ s'=>∃ σ' H',Inv X pins σ' H' s'/\Q σ' H') X.xe s
def PGs (X:Cx) (ts:List Expr) (t:TGs):Prop:=
 ∀ (pins:List (Addr×Obj)) (s:Shared) (σ:St) (H:Hp) (vs:List V) (us:List Value) (Q:St->Hp->Prop),Inv X pins σ H s->zj vs us->t vs σ H Q ->
  wpAny (model X.prog X.w) X.A (assignInOrder ((assignEach ts X.env).map (·.2)) us) (λ_ s'=>∃ σ' H',Inv X pins σ' H' s'/\Q σ' H') X.xe s
abbrev qnl:=V->V->V->Hp->(Hp->Prop)->Prop
def qnZ (X:Cx) (t:qnl):Prop:=
 ∀ (pins:List (Addr×Obj)) (s:Shared) (σ:St) (H:Hp) (o i v:V) (ov iv u:Value) (Q:Hp->Prop),Inv X pins σ H s->jk o ov->jk i iv->jk v u->t o i v H Q ->
  wpAny (model X.prog X.w) X.A (setItem ov iv u) (λ_ s'=>∃ H',Inv X pins σ H' s'/\Q H') X.xe s
abbrev TIp:=V->V->Hp->VK->Prop
def PIp (X:Cx) (op:Operator) (t:TIp):Prop:=
 ∀ (pins:List (Addr×Obj)) (s:Shared) (σ:St) (H:Hp) (x y:V) (v u:Value) (Q:VK),Inv X pins σ H s->jk x v->jk y u->t x y H Q ->
  wpAny (model X.prog X.w) X.A (inplaceOp op v u) (EP X pins σ Q) X.xe s
section
variable {X:Cx} {pos:Pos}
def qfS (i:Nat):TG:=λv σ H Q=>Q (σ.set i (some v)) H
def qfB {i:Nat} {x:Str} (hN:X.N.Nodup) (hi:X.N[i]?=some x) (hx:Loc X.env.scope x) (hf:X.fn x=true\/X.env.scope.names.lookup x=some .local:=by first|exact .inl rfl|exact .inr rfl|assumption):PG X (.Name x pos) (qfS i):=by
 intro pins s σ H v u Q I r h;exact wpAny_assign_Name (Y9 I hN hi hx r (λs' I'=>⟨_,H,I',h⟩) hf)
def qbM:TGs:=λvs σ H Q=>vs=[]/\Q σ H
def QN (t:TG) (u:TGs):TGs:=λvs σ H Q=>∃ v r,vs=v::r/\t v σ H λσ' H'=>u r σ' H' Q
def qfr:PGs X [] qbM:=by
 intro pins s σ H vs us Q I r h;obtain ⟨e,h⟩:=h;subst e;cases r;exact assignInOrder_nil ⟨σ,H,I,h⟩
def qbl {e:Expr} {es:List Expr} {t:TG} {u:TGs} (h1:PG X e t) (h2:PGs X es u)
  (hs:(assignEach (e::es) X.env).map (·.2)=assign e X.env::(assignEach es X.env).map (·.2):=by rfl):PGs X (e::es) (QN t u):=by
 intro pins s σ H vs us Q I r h;obtain ⟨v,vr,e1,h⟩:=h;subst e1;cases r with
 |cons r rr=>
  rw [hs];refine assignInOrder_cons (thn (h1 pins s σ H _ _ _ I r h) λ_ s1 ⟨σ1,H1,I1,q1⟩=>?_);exact h2 pins s1 σ1 H1 _ _ Q I1 rr q1
def qbp (K:Frg) (n:Nat) (t:TGs):TG:=λv σ H Q=>∃ a xs,v=.ref a/\SqT K H a xs/\xs.length=n/\t xs σ H Q
def qht {es:List Expr} {k:Nat} {t:TGs} {n:Nat} (hc:X.calm=true) (h:PGs X es t)
  (hn:(assignEach es X.env).length=n:=by rfl) (hst:(assignEach es X.env).findIdx? (·.1)=none:=by rfl):PG X (.Tuple es k pos) (qbp X.K n t):=by
 intro pins s σ H v u Q I r hw;obtain ⟨a,xs,e1,hq,hl,hw⟩:=hw;subst e1;cases r;obtain ⟨its,rv,ht,hz⟩:=I.tuple hq;refine assign_Tuple_tuple (I.ok.hd hc) ht (by simp [hn,← hl,rv.length]) hst λh' hx=>?_;have I1:Inv X pins σ H { s with heap:=h' }:=I.kept (t':=s.toks) λb o e=>hx b o (Nat.ne_of_lt (Heap.lt_size e)) e;exact h pins _ σ H xs _ Q I1 (by simpa using rv) hw
def qo9 (to ti:TE) (t:qnl):TG:=λv σ H Q=>to σ H λo H1=>ti σ H1 λi H2=>t o i v H2 λH3=>Q σ H3
def qh4 {o i:Expr} {to ti:TE} {t:qnl} (ho:PE X o to) (hi:PE X i ti) (hs:qnZ X t)
  (ha:∀ v,assign (.Subscript o i pos) X.env v=(do
   let ov←holding [v] (eval o X.env)
   let iv←holding [v,ov] (eval i X.env)
   standAt pos
   holding [v,ov,iv] (setItem ov iv v)
   release [v,ov,iv] []):=by intro _;rfl):PG X (.Subscript o i pos) (qo9 to ti t):=by
 intro pins s σ H v u Q I r h;rw [ha];refine wpAny_bind (wpAny_holding (thn (ho pins s σ H _ I h) λov s1 ⟨x,H1,I1,r1,q1⟩=>?_));refine wpAny_bind (wpAny_holding (thn (hi pins s1 σ H1 _ I1 q1) λiv s2 ⟨y,H2,I2,r2,q2⟩=>?_));refine wpAny_bind (wpAny_standAt (wpAny_bind (wpAny_holding (thn (hs pins s2 σ H2 x y v ov iv u _ I2 r1 r2 r q2) λ_ s3 ⟨H3,I3,q3⟩=>?_))));exact wpAny_release ⟨σ,H3,I3,q3⟩
def qnq (te:TE) (g:TG):TS:=λD σ H=>te σ H λx H1=>g x σ H1 D.nx
def qg4 {tg e:Expr} {te:TE} {g:TG} (he:PE X e te) (hg:PG X tg g) (hs:swapsWithSole [tg] e pos.line X.env=pure false:=by rfl) (hw:swappedStores [tg] e X.env=pure none:=by rfl)
  (h1:(assignEach [tg] X.env).map (·.2)=[assign tg X.env]:=by rfl):PS X (.Assign [tg] e pos) (qnq te g):=by
 intro pins s σ H D I h;refine wpAny_Assign_stores (thn (he pins s σ H _ I h) λv s1 ⟨x,H1,I1,r1,q1⟩=>?_) hs hw;rw [h1];exact thn (hg pins s1 σ H1 x v _ I1 r1 q1) λ_ s2 q=>q
def qj6 {i:Nat} {x:Str} {e:Expr} {te:TE} {pos':Pos} (hN:X.N.Nodup) (hi:X.N[i]?=some x) (hx:Loc X.env.scope x) (he:PE X e te) (hs:swapsWith e (some (.Name x pos')) pos.line X.env=pure false:=by rfl) (hf:X.fn x=true\/X.env.scope.names.lookup x=some .local:=by first|exact .inl rfl|exact .inr rfl|assumption) :
  PS X (.Assign [.Name x pos'] e pos) (qnq te (qfS i)):=by
 intro pins s σ H D I h;refine wpAny_Assign_Name (thn (he pins s σ H _ I h) λv s1 ⟨y,H1,I1,r1,q1⟩=>?_) hs;exact Y9 I1 hN hi hx r1 (λs2 I2=>⟨_,H1,I2,q1⟩) hf
def qoQ (i j:Nat) (ta:TA):TS:=λD σ H=>ta σ H λvs H1=>∃ v w,vs=[v,w]/\D.nx ((σ.set i (some v)).set j (some w)) H1
def qk1 {i j:Nat} {x y:Str} {a b:Expr} {ta:TA} {px py pt:Pos} {kt k2 pt2} (hc:X.calm=true) (hN:X.N.Nodup) (hi:X.N[i]?=some x) (hj:X.N[j]?=some y) (hij:i≠j)
  (hx:X.env.scope.names.lookup x=some .local) (hy:X.env.scope.names.lookup y=some .local) (ha:PA X [a,b] ta)
  (hw:swappedStores [.Tuple [.Name x px,.Name y py] kt pt] (.Tuple [a,b] k2 pt2) X.env=pure (some [x,y]))
  (hs:swapsWithSole [.Tuple [.Name x px,.Name y py] kt pt] (.Tuple [a,b] k2 pt2) pos.line X.env=pure false:=by rfl) :
  PS X (.Assign [.Tuple [.Name x px,.Name y py] kt pt] (.Tuple [a,b] k2 pt2) pos) (qoQ i j ta):=by
 intro pins s σ H D I h;rw [exec_Assign_arm];refine wpAny_bind (wpAny_standAt ?_);rw [hs];refine wpAny_bind (wpAny_pure ?_);rw [if_neg (by decide)];refine wpAny_bind (Tuple_ (thn (ha _ pins s σ H _ I h) λus s1 ⟨vs,H1,I1,r1,q1⟩=>?_));obtain ⟨v,w,e1,q1⟩:=q1;subst e1;obtain ⟨u1,u2,rfl,rv,rw'⟩:∃ u1 u2,us=[u1,u2]/\jk v u1/\jk w u2:=by
  cases r1 with
  |cons p q=>
   cases q with
   |cons p' q'=>
    cases q';exact ⟨_,_,rfl,p,p'⟩
 refine wpAny_newObj_type ?_ (by show 2<=sizeLine;decide);have I2:Inv X pins σ H1 { s1 with heap:=s1.heap.push { cls:=.type "tuple",data:=.seq [u1,u2].toArray } }:=I1.kept (t':=s1.toks) λb o e=>Heap.get?_push_of_some _ e;rw [hw];refine wpAny_bind (wpAny_pure ?_);show wpAny (model X.prog X.w) X.A (do rule "assign.swapped-stores";let items←unpackItems (.ref s1.heap.objs.size) 2 none;assignInOrder [λv=>bindName X.env y v,λv=>bindName X.env x v] items.reverse;pure Flow.next) _ _ _;refine wpAny_bind (wpAny_rule (wpAny_bind (unpackItems_tuple (items:=#[u1,u2]) (I.ok.hd hc) (IsTup.new s1.heap _) λh' hx'=>?_)));have I3:=I2.kept (h':=h') (t':=s1.toks) λb o e=>hx' b o (Nat.ne_of_lt (Heap.lt_size e)) e;show wpAny _ _ (assignInOrder [λv=>bindName X.env y v,λv=>bindName X.env x v] [u2,u1] >>= λ_=>pure Flow.next) _ _ _;refine wpAny_bind (assignInOrder_cons (wpAny_bindName (Y9 I3 hN hj (.inl hy) rw' (λs2 I4=>?_) (.inr hy))));refine assignInOrder_cons (wpAny_bindName (Y9 I4 hN hi (.inl hx) rv (λs3 I5=>assignInOrder_nil (wpAny_pure ?_)) (.inr hx)));rw [List.set_comm _ _ (Ne.symm hij)] at I5;exact ⟨_,H1,I5,q1⟩
def qpc (i:Nat) (te:TE) (ti:TIp):TS:=λD σ H=>∃ x,σ[i]?=some (some x)/\te σ H λy H1=>ti x y H1 λz H2=>D.nx (σ.set i (some z)) H2
def qjP {i:Nat} {x:Str} {e:Expr} {te:TE} {op:Operator} {ti:TIp} {pos':Pos} (hN:X.N.Nodup) (hi:X.N[i]?=some x) (hx:Loc X.env.scope x) (he:PE X e te) (ho:PIp X op ti) (hf:X.fn x=true\/X.env.scope.names.lookup x=some .local:=by first|exact .inl rfl|exact .inr rfl|assumption) :
  PS X (.AugAssign (.Name x pos') op e pos) (qpc i te ti):=by
 intro pins s σ H D I h;obtain ⟨v,e1,h⟩:=h;obtain ⟨m,hn,hl⟩:=I.loc;have vis:Vis X.env.scope x:=by rcases hx with k|k;exact .inl k;exact .inr (.inl k)
 obtain ⟨u,r,l⟩:=hl i x v hi e1 vis;refine wpAny_AugAssign_Name ?_;have go:wpAny (model X.prog X.w) X.A (eval e X.env) (λw s₂=>wpAny (model X.prog X.w) X.A (inplaceOp op u w) (λr s₃=>wpAny (model X.prog X.w) X.A (storeName X.env x r) (λ_=>SP X pins D .next) X.xe s₃) X.xe s₂) X.xe s:=by
  refine thn (he pins s σ H _ I h) λw s1 ⟨y,H1,I1,r1,q1⟩=>?_;refine thn (ho pins s1 σ H1 v y u w _ I1 r r1 q1) λz s2 ⟨zv,H2,I2,r2,q2⟩=>?_;exact Y9 I2 hN hi hx r2 (λs3 I3=>⟨_,H2,I3,q2⟩) hf
 rcases l with ⟨hk,hm⟩|⟨hk,c,hc,hcell⟩
 ·exact wpAny_loadName_local I.ok.kind hk hn hm go
 ·rcases hk with hk|hk
  ·exact wpAny_loadName_cell I.ok.kind hk hc hcell go
  ·rcases hx with k|k
   ·have:X.env.scope.names.lookup x=some .free:=hk;rw [k] at this;cases this
   ·have:X.env.scope.names.lookup x=some .free:=hk;rw [k] at this;cases this
end
section
variable {X:Cx} {pos:Pos}
def qi2 (c:TT) (tb:TS):TS:=λD σ H=>∃ W:Nat->St->Hp->Prop,(∃ m,W m σ H)/\∀ m σ H,W m σ H ->
 c σ H λb H1=>if b=true then ∃ N:St->Hp->Prop,(∀ σ' H',N σ' H'->∃ m',m'<m/\W m' σ' H')/\tb { D with nx:=N,ct:=N,bk:=D.nx } σ H1 else D.nx σ H1
def qbV {c:Expr} {body:List Stmt} {tc:TT} {tb:TS} (hp:PassesOwn (model X.prog X.w) X.A X.env X.xe) (hc:PT X c tc) (hb:PSs X body tb):PS X (.While c body [] pos) (qi2 tc tb):=by
 intro pins s σ H D I h;obtain ⟨W,⟨m0,w0⟩,turn⟩:=h;refine wpAny_While (codeAny_whileLoop (λn s'=>∃ σ' H',Inv X pins σ' H' s'/\W n σ' H') ?_ m0 ⟨σ,H,I,w0⟩);rintro n s1 ⟨σ1,H1,I1,w1⟩;refine wpAny_passesOwn hp (thn (hc pins s1 σ1 H1 _ I1 (turn n σ1 H1 w1)) λb s2 ⟨H2,I2,q2⟩=>?_);cases b with
 |true=>
  obtain ⟨N,hN,q2⟩:=q2;rw [if_pos rfl];refine wpAny_passesOwn hp (thn (hb pins s2 σ1 H2 _ I2 q2) λf s3 q3=>?_);cases f with
  |next=>
   obtain ⟨σ3,H3,I3,n3⟩:=q3;obtain ⟨m',hm,w3⟩:=hN σ3 H3 n3;exact ⟨m',hm,σ3,H3,I3,w3⟩
  |cont=>
   obtain ⟨σ3,H3,I3,n3⟩:=q3;obtain ⟨m',hm,w3⟩:=hN σ3 H3 n3;exact ⟨m',hm,σ3,H3,I3,w3⟩
  |brk=>exact q3
  |ret v=>exact q3
 |false=>
  rw [if_neg Bool.false_ne_true];exact wpAny_execs_nil ⟨σ1,H2,I2,q2⟩
end
structure It where
 go:Nat->Hp->Prop
 yld:Nat->Hp->V->Hp->Prop
 stop:Nat->Hp->Prop
def C7 (X:Cx) (pins:List (Addr×Obj)) (H:Hp) (b:Addr):Prop:=
 H b=none/\b≠X.env.locals/\b∉X.fs/\(b∈X.ex\/X.s₀.heap.objs.size<=b)/\(∀ x c,X.env.cells.lookup x=some c->c≠b)/\∀ p∈X.pn++pins,p.1≠b
def Inv.fpOk {X:Cx} {pins:List (Addr×Obj)} {σ:St} {H H':Hp} {s:Shared} {b:Addr} (I:Inv X pins σ H s) (hb:s.heap.objs.size<=b) (hn:H' b=none):C7 X pins H' b:=by
 refine ⟨hn,Nat.ne_of_gt (Nat.lt_of_lt_of_le I.lt hb),I.nofs hb,.inr (Nat.le_trans I.sz hb),λx c e z=>?_,λp hp z=>?_⟩
 ·obtain ⟨v,q⟩:=I.cell x c e;exact absurd (Nat.lt_of_lt_of_le q.lt (by rw [z];exact hb)) (Nat.lt_irrefl _)
 ·exact absurd (Nat.lt_of_lt_of_le (Heap.lt_size (I.pin p hp).1) (by rw [z];exact hb)) (Nat.lt_irrefl _)
structure Turn (P:Program) (w:World) (K:Frg) (tg:Expr) (J:It) (fp:List Addr) (it:Addr) (tn:Nat->Heap->Prop):Prop where
 mem:it∈fp
 obj:∀ i h,tn i h->∀ b∈fp,∃ o,h.get? b=some o/\∀ v,o.data≠.cell v
 keep:∀ i h h',tn i h->(∀ b∈fp,∀ o,h.get? b=some o->h'.get? b=some o)->tn i h'
 item:∀ (X:Cx),X.prog=P->X.w=w->X.K=K->X.calm=true->∀ (i:Nat) (pins:List (Addr×Obj)) (s:Shared) (σ:St) (H:Hp) (E:Value->Shared->Prop),Inv X pins σ H s->(∀ b∈fp,C7 X pins H b)->tn i s.heap->J.go i H ->
  wpAny (model P w) X.A (pyNext (.ref it)) (λr s1=>∃ u,r=some u /\
   wpAny (model P w) X.A (letOwnedTupleGo tg (.ref it) u) (λ_ s2=>∃ x H',Inv X pins σ H' s2/\jk x u/\J.yld i H x H'/\tn (i+1) s2.heap/\∀ b∈fp,H' b=none) E s1) E s
 done:∀ (X:Cx),X.prog=P->X.w=w->X.K=K->X.calm=true->∀ (i:Nat) (pins:List (Addr×Obj)) (s:Shared) (σ:St) (H:Hp) (E:Value->Shared->Prop),Inv X pins σ H s->(∀ b∈fp,C7 X pins H b)->tn i s.heap->J.stop i H ->
  wpAny (model P w) X.A (pyNext (.ref it)) (λr s1=>r=none/\Inv X pins σ H s1) E s
 self:∀ (A:Around) (i:Nat) (s:Shared) (Q:Value->Shared->Prop) (E:Value->Shared->Prop),tn i s.heap->Q (.ref it) s->wpAny (model P w) A (pyIter (.ref it)) Q E s
abbrev TI:=St->Hp->(It->Hp->Prop)->Prop
def PIE (X:Cx) (pins:List (Addr×Obj)) (σ:St) (tg:Expr) (R:It->Hp->Prop) (itv:Value) (s2:Shared):Prop:=
 ∃ (it:Addr) (fp:List Addr) (tn:Nat->Heap->Prop) (J:It) (H':Hp),itv=.ref it/\Inv X pins σ H' s2/\Turn X.prog X.w X.K tg J fp it tn/\tn 0 s2.heap/\(∀ b∈fp,C7 X pins H' b)/\R J H'
def PI (X:Cx) (tg iter:Expr) (wi:TI):Prop:=
 ∀ (pins:List (Addr×Obj)) (s:Shared) (σ:St) (H:Hp) (R:It->Hp->Prop),Inv X pins σ H s->wi σ H R ->
  wpAny (model X.prog X.w) X.A (eval iter X.env) (λv s1=>wpAny (model X.prog X.w) X.A (pyIter v) (PIE X pins σ tg R) X.xe s1) X.xe s
def qca {M:Model} {A:Around} {E:Value->Shared->Prop} {s:Shared} {tg:Expr} {it:Addr} {u:Value} {o:Obj} {n:String} {vs:Array Value} {Q:Unit->Shared->Prop} (ho:s.heap.get? it=some o) (hc:o.cls=.type n) (hd:o.data=.fields vs)
    (hn:["enumerate","zip","dict_itemiterator","dict_reverseitemiterator","odict_iterator","itertools.zip_longest","itertools.pairwise"].contains n=false) (hQ:Q () s):wpAny M A (letOwnedTupleGo tg (.ref it) u) Q E s:=by
  unfold letOwnedTupleGo;cases tg<;>first
    |exact wpAny_pure hQ
    | (cases u<;>first
        |exact wpAny_pure hQ
        | (refine wpAny_bind (wpAny_load ho ?_)
           rw [hc,hd];show wpAny M A (if (["enumerate","zip","dict_itemiterator","dict_reverseitemiterator","odict_iterator","itertools.zip_longest","itertools.pairwise"].contains n&&vs[0]?==some (rawInt _))=true then _ else _) Q E s;rw [if_neg (by intro h;rw [hn,Bool.false_and] at h;cases h)];exact wpAny_pure hQ))
def Itl (K:Frg) (a:Addr):It:=
 ⟨λi H=>∃ xs x,SqL K H a xs/\xs[i]?=some x,λi H x H'=>H'=H/\∀ xs,SqL K H a xs->xs[i]?=some x,λi H=>∃ xs,SqL K H a xs/\xs.length<=i⟩
def Itt (K:Frg) (a:Addr):It:=
 ⟨λi H=>∃ xs x,SqT K H a xs/\xs[i]?=some x,λi H x H'=>H'=H/\∀ xs,SqT K H a xs->xs[i]?=some x,λi H=>∃ xs,SqT K H a xs/\xs.length<=i⟩
def Itr (lo:Int) (n:Nat):It:=⟨λi _=>i<n,λi H x H'=>H'=H/\x=.int (lo+i),λi _=>n<=i⟩
def qae {P:Program} {w:World} {K:Frg} {tg:Expr} (a it:Addr):Turn P w K tg (Itl K a) [it] it (λi h=>h.IsListIter it a i) where
 mem:=by simp
 obj:=λi h st b hb=>by
  have e:b=it:=by simpa using hb
  subst e;obtain ⟨o,e,c,d⟩:=st;exact ⟨o,e,λv z=>by rw [d] at z;cases z⟩
 keep:=λi h h' st k=>st.at λo e=>k it (by simp) o e
 item:=by
  intro X hP hw hK hc i pins s σ H E I hf st hg;subst hP hw hK;obtain ⟨xs,x,hq,hx⟩:=hg;obtain ⟨its,rv,p,hz⟩:=I.list hq;obtain ⟨u,hu,ru⟩:=rv.get hx;obtain ⟨f0,f1,f2,f3,f4,f5⟩:=hf it (by simp);refine wpAny_pyNext_list_item st p.isList (x:=u) (by simpa using hu) λh' st' sb=>?_;have I1:Inv X pins σ H { s with heap:=h' }:=I.turned (t':=s.toks) (λb o hb e=>(sb.2 b hb).trans e) f0 f1 f3 f4 f5;obtain ⟨o,e,c,d⟩:=id st';exact ⟨u,rfl,qca (s:={ s with heap:=h' }) e c d (by decide) ⟨x,H,I1,ru,⟨rfl,λys hy=>by rw [I.list_inj hy hq];exact hx⟩,st',λb hb=>(hf b hb).1⟩⟩
 done:=by
  intro X hP hw hK hc i pins s σ H E I hf st hg;subst hP hw hK;obtain ⟨xs,hq,hx⟩:=hg;obtain ⟨its,rv,p,hz⟩:=I.list hq;obtain ⟨f0,f1,f2,f3,f4,f5⟩:=hf it (by simp);have hl:=rv.length;exact wpAny_pyNext_list_end (I.ok.hd hc) st p.isList (by simp;omega) λh' eb=>⟨rfl,I.turned (t':=s.toks) (λb o hb e=>eb b o hb e) f0 f1 f3 f4 f5⟩
 self:=λ_ _ _ _ _ st h=>wpAny_pyIter_listiter st h
def K9 {P:Program} {w:World} {K:Frg} {tg:Expr} (a it:Addr):Turn P w K tg (Itt K a) [it] it (λi h=>h.IsTupleIter it a i) where
 mem:=by simp
 obj:=λi h st b hb=>by
  have e:b=it:=by simpa using hb
  subst e;obtain ⟨o,e,c,d⟩:=st;exact ⟨o,e,λv z=>by rw [d] at z;cases z⟩
 keep:=λi h h' st k=>st.at λo e=>k it (by simp) o e
 item:=by
  intro X hP hw hK hc i pins s σ H E I hf st hg;subst hP hw hK;obtain ⟨xs,x,hq,hx⟩:=hg;obtain ⟨its,rv,p,hz⟩:=I.tuple hq;obtain ⟨u,hu,ru⟩:=rv.get hx;obtain ⟨f0,f1,f2,f3,f4,f5⟩:=hf it (by simp);refine wpAny_pyNext_tuple_item st (show s.heap.IsTuple a its.toArray from p) (x:=u) (by simpa using hu) λh' st' sb=>?_;have I1:Inv X pins σ H { s with heap:=h' }:=I.turned (t':=s.toks) (λb o hb e=>(sb.2 b hb).trans e) f0 f1 f3 f4 f5;obtain ⟨o,e,c,d⟩:=id st';exact ⟨u,rfl,qca (s:={ s with heap:=h' }) e c d (by decide) ⟨x,H,I1,ru,⟨rfl,λys hy=>by rw [I.tuple_inj hy hq];exact hx⟩,st',λb hb=>(hf b hb).1⟩⟩
 done:=by
  intro X hP hw hK hc i pins s σ H E I hf st hg;subst hP hw hK;obtain ⟨xs,hq,hx⟩:=hg;obtain ⟨its,rv,p,hz⟩:=I.tuple hq;obtain ⟨f0,f1,f2,f3,f4,f5⟩:=hf it (by simp);have hl:=rv.length;exact wpAny_pyNext_tuple_end (I.ok.hd hc) st (show s.heap.IsTuple a its.toArray from p) (by simp;omega) λh' eb=>⟨rfl,I.turned (t':=s.toks) (λb o hb e=>eb b o hb e) f0 f1 f3 f4 f5⟩
 self:=λ_ _ _ _ _ st h=>wpAny_pyIter_tupleiter st h
def LJ {P:Program} {w:World} {K:Frg} {tg:Expr} (it:Addr) (lo:Int) (n:Nat):Turn P w K tg (Itr lo n) [it] it (λi h=>IsRangeIter h it (lo+(i:Nat)*1) ((n:Int)-(i:Nat)) 1) where
 mem:=by simp
 obj:=λi h st b hb=>by
  have e:b=it:=by simpa using hb
  subst e;exact ⟨_,st,λv z=>by
   have z':Data.fields _=Data.cell v:=z;cases z'⟩
 keep:=λi h h' st k=>k it (by simp) _ st
 item:=by
  intro X hP hw hK hc i pins s σ H E I hf st hg;subst hP hw hK;obtain ⟨f0,f1,f2,f3,f4,f5⟩:=hf it (by simp);have W:=Walks.range (prog:=X.prog) (w:=X.w) (I.ok.hd hc) it lo 1 n;refine W.item i s _ _ hg st λv h' tk hv st' kk=>?_;obtain ⟨t,rfl⟩:=hv;have I1:Inv X pins σ H { s with heap:=h',toks:=tk }:=I.turned (λb o hb e=>kk b o (by simpa using hb) e) f0 f1 f3 f4 f5;refine ⟨_,rfl,qca (s:={ s with heap:=h',toks:=tk }) (n:="range_iterator") st' rfl rfl (by decide) ⟨.int (lo+i),H,I1,⟨t,?_⟩,⟨rfl,rfl⟩,st',λb hb=>(hf b hb).1⟩⟩;rw [Int.mul_one]
 done:=by
  intro X hP hw hK hc i pins s σ H E I hf st hg;subst hP hw hK;obtain ⟨f0,f1,f2,f3,f4,f5⟩:=hf it (by simp);exact wpAny_pyNext_range_end (I.ok.hd hc) st (by have:n<=i:=hg;omega) λh' eb=>⟨rfl,I.turned (t':=s.toks) (λb o hb e=>eb b o hb e) f0 f1 f3 f4 f5⟩
 self:=λ_ _ _ _ _ st h=>wpAny_pyIter_rangeiter st h
section
variable {X:Cx} {tg:Expr}
def qbw {pins:List (Addr×Obj)} {σ:St} {H:Hp} {s:Shared} {R:It->Hp->Prop} {E:Value->Shared->Prop} {lo hi:Int} {t u v:Tok} {tk:Nat} (I:Inv X pins σ H s) (h1:-(2 ^ 62)<=lo) (h2:lo<2 ^ 62) (h3:-(2 ^ 62)<=hi) (h4:hi<2 ^ 62)
  (q:R (Itr lo (hi-lo).toNat) H):wpAny (model X.prog X.w) X.A (pyIter (.ref s.heap.objs.size)) (PIE X pins σ tg R) E { s with heap:=s.heap.push { cls:=.type "range",data:=.fields #[.int lo t,.int hi u,.int 1 v] },toks:=tk }:=by
 refine wpAny_pyIter_range (IsRange.new ..) (small_one h1 h2 h3 h4) ?_;have I1:Inv X pins σ H { s with heap:=s.heap.push { cls:=.type "range",data:=.fields #[.int lo t,.int hi u,.int 1 v] },toks:=tk }:=I.kept λb o e=>Heap.get?_push_of_some _ e;refine ⟨(s.heap.push { cls:=.type "range",data:=.fields #[.int lo t,.int hi u,.int 1 v] }).objs.size,[(s.heap.push { cls:=.type "range",data:=.fields #[.int lo t,.int hi u,.int 1 v] }).objs.size],_,_,H,rfl,
  I1.kept (t':=tk) λb o e=>Heap.get?_push_of_some _ e,LJ _ lo (hi-lo).toNat,?_,λb hb=>?_,q⟩
 ·have e1:lo+((0:Nat):Int)*1=lo:=by simp
  have e2:(((hi-lo).toNat:Nat):Int)-((0:Nat):Int)=Builtin.Range.rangeSize lo hi 1:=by rw [rangeSize_one];split<;>omega
  show IsRangeIter _ _ (lo+((0:Nat):Int)*1) ((((hi-lo).toNat:Nat):Int)-((0:Nat):Int)) 1;rw [e1,e2];exact Heap.get?_push_size _ rfl
 ·have e:b=(s.heap.push { cls:=.type "range",data:=.fields #[.int lo t,.int hi u,.int 1 v] }).objs.size:=by simpa using hb
  subst e;exact I1.fpOk (Nat.le_refl _) (I1.hok.fresh (Nat.le_refl _))
def qm9 (ta:TA):TI:=λσ H R=>ta σ H λvs H1=>∃ j:Int,vs=[.int j]/\-(2 ^ 62)<=j/\j<2 ^ 62/\R (Itr 0 j.toNat) H1
def MC {a:Expr} {ta:TA} {p pos:Pos} (hg:Gl X "range") (hm:X.mg "range" = none) (ha:PA X [a] ta) (hs:starEach [a] X.env=[(false,eval a X.env)]:=by rfl):PI X tg (.Call (.Name "range" p) [a] [] pos) (qm9 ta):=by
 intro pins s σ H R I h;refine Call_ (YG I hg hm boot_range (PyProof.Rows.callWith_type1 (thn (ha pos pins s σ H _ I h) λus s1 ⟨vs,H1,I1,r1,q1⟩=>?_) hs rfl));obtain ⟨j,e,q1,q2,q⟩:=q1;subst e;cases r1 with
 |cons r rr=>
  cases rr;obtain ⟨t,rfl⟩:=r;exact call_range_1 (qbw I1 (by omega) (by omega) q1 q2 (by simpa using q))
def qow (wi:TI) (g:TG) (tb:TS):TS:=λD σ H=>wi σ H λJ H1=>∃ W:Nat->Nat->St->Hp->Prop,(∃ m,W 0 m σ H1)/\∀ i m σ H,W i m σ H ->
 (J.stop i H/\D.nx σ H)\/(J.go i H/\∃ N:St->Hp->Prop,(∀ σ' H',N σ' H'->∃ m',m'<m/\W (i+1) m' σ' H')/\∀ x H',J.yld i H x H'->g x σ H' λσ2 H2=>tb { D with nx:=N,ct:=N,bk:=D.nx } σ2 H2)
def UW (fp:List Addr) (h:Heap):List (Addr×Obj):=fp.filterMap λb=>(h.get? b).map λo=>(b,o)
def zx {fp:List Addr} {h:Heap} {b:Addr} {o:Obj} (hb:b∈fp) (e:h.get? b=some o):(b,o)∈UW fp h:=List.mem_filterMap.mpr ⟨b,hb,by rw [e];rfl⟩
def qaG {fp:List Addr} {h:Heap} {p:Addr×Obj} (hp:p∈UW fp h):p.1∈fp/\h.get? p.1=some p.2:=by
 obtain ⟨b,hb,e⟩:=List.mem_filterMap.mp hp;cases q:h.get? b with
 |none=>rw [q] at e;cases e
 |some o=>
  rw [q] at e;have e':(b,o)=p:=Option.some.inj e;subst e';exact ⟨hb,q⟩
def Inv.pinned {pins:List (Addr×Obj)} {σ:St} {H:Hp} {s:Shared} {fp:List Addr} (I:Inv X pins σ H s) (hf:∀ b∈fp,C7 X pins H b) (ho:∀ b∈fp,∃ o,s.heap.get? b=some o/\∀ v,o.data≠.cell v):Inv X (pins++UW fp s.heap) σ H s:=
 I.pins_of λp hp=>(List.mem_append.mp hp).elim (λz=>I.pin p (mem_append_right _ z)) λz=>by
  obtain ⟨hb,e⟩:=qaG z;obtain ⟨f0,f1,f2,_⟩:=hf p.1 hb;obtain ⟨o,e',d⟩:=ho p.1 hb;rw [e] at e';cases e';exact ⟨e,f0,f1,f2,d⟩
def Inv.unpinned {pins pl:List (Addr×Obj)} {σ:St} {H:Hp} {s:Shared} (I:Inv X (pins++pl) σ H s):Inv X pins σ H s:=I.pins_of λp hp=>I.pin p (mem_append_right _ (List.mem_append_left _ hp))
def qkQ {iter:Expr} {body:List Stmt} {wi:TI} {g:TG} {tb:TS} {pos:Pos} (hp:PassesOwn (model X.prog X.w) X.A X.env X.xe) (hc:X.calm=true) (hi:PI X tg iter wi) (hg:PG X tg g) (hb:PSs X body tb)
  (hs:∀ x,foldedSetIterable iter X.env x=pure x:=by intro _;rfl):PS X (.For tg iter body [] pos) (qow wi g tb):=by
 intro pins s σ H D I h;refine wpAny_For (thn (hi pins s σ H _ I h) λv s1 h1=>thn h1 λitv s2 h2=>?_) hs;obtain ⟨it,fp,tn,J,H2,e,I2,T,st2,f2,W,⟨m0,w0⟩,turn⟩:=h2;subst e
 -- what stays true of the iterator's objects through the loop
 have stat:∀ {H':Hp},(∀ b∈fp,H' b=none)->∀ b∈fp,C7 X pins H' b:=λhn b hb=>⟨hn b hb,(f2 b hb).2⟩
 refine codeAny_forLoop_any (λn s'=>∃ i σ' H',Inv X pins σ' H' s'/\tn i s'.heap/\(∀ b∈fp,H' b=none)/\W i n σ' H') ?_ m0 ⟨0,σ,H2,I2,st2,λb hb=>(f2 b hb).1,w0⟩;rintro n s3 ⟨i,σ3,H3,I3,st3,fr3,w3⟩;rcases turn i n σ3 H3 w3 with ⟨stop,qn⟩|⟨go,N,hN,step⟩
 ·refine wpAny_passesOwn hp (thn (T.done X rfl rfl rfl hc i pins s3 σ3 H3 X.xe I3 (stat fr3) st3 stop) λr s4 ⟨hr,I4⟩=>?_);subst hr;exact wpAny_execs_nil ⟨σ3,H3,I4,qn⟩
 ·refine wpAny_passesOwn hp (thn (T.item X rfl rfl rfl hc i pins s3 σ3 H3 X.xe I3 (stat fr3) st3 go) λr s4 ⟨u,hr,h4⟩=>?_);subst hr;refine wpAny_passesOwn hp (thn h4 λ_ s5 ⟨x,H5,I5,r5,y5,st5,fr5⟩=>?_);have I5':=I5.pinned (stat fr5) (T.obj _ _ st5);refine wpAny_passesOwn hp (thn (hg _ s5 σ3 H5 x u _ I5' r5 (step x H5 y5)) λ_ s6 ⟨σ6,H6,I6,q6⟩=>?_);refine wpAny_passesOwn hp (thn (hb _ s6 σ6 H6 _ I6 q6) λf s7 q7=>?_);have again:∀ {σ7:St} {H7:Hp},Inv X (pins++UW fp s5.heap) σ7 H7 s7->N σ7 H7->∃ m,m<n/\∃ i σ' H',Inv X pins σ' H' s7/\tn i s7.heap/\(∀ b∈fp,H' b=none)/\W i m σ' H':=λ{σ7 H7} I7 n7=>by
   obtain ⟨m',hm,w7⟩:=hN σ7 H7 n7;refine ⟨m',hm,i+1,σ7,H7,I7.unpinned,T.keep _ _ _ st5 λb hb o e=>(I7.pin (b,o) (mem_append_right _ (mem_append_right _ (zx hb e)))).1,λb hb=>?_,w7⟩;obtain ⟨o,e,d⟩:=T.obj _ _ st5 b hb;exact (I7.pin (b,o) (mem_append_right _ (mem_append_right _ (zx hb e)))).2.1
  cases f with
  |next=>obtain ⟨σ7,H7,I7,n7⟩:=q7;exact again I7 n7
  |cont=>obtain ⟨σ7,H7,I7,n7⟩:=q7;exact again I7 n7
  |brk=>obtain ⟨σ7,H7,I7,q7⟩:=q7;exact ⟨σ7,H7,I7.unpinned,q7⟩
  |ret v=>obtain ⟨x7,σ7,H7,I7,r7,q7⟩:=q7;exact ⟨x7,σ7,H7,I7.unpinned,r7,q7⟩
end
abbrev R2:=V->V->Hp->VK->Prop
def OpR (X:Cx) (f:Value->Value->Sem Value) (r:R2):Prop:=
 ∀ (pins:List (Addr×Obj)) (s:Shared) (σ:St) (H:Hp) (x y:V) (v u:Value) (Q:VK),Inv X pins σ H s->jk x v->jk y u->r x y H Q ->
  wpAny (model X.prog X.w) X.A (f v u) (EP X pins σ Q) X.xe s
def UnR (X:Cx) (f:Value->Sem Value) (r:V->Hp->VK->Prop):Prop:=
 ∀ (pins:List (Addr×Obj)) (s:Shared) (σ:St) (H:Hp) (x:V) (v:Value) (Q:VK),Inv X pins σ H s->jk x v->r x H Q ->
  wpAny (model X.prog X.w) X.A (f v) (EP X pins σ Q) X.xe s
def JM (X:Cx) (f:Value) (r:List V->Hp->VK->Prop):Prop:=
 ∀ (pins:List (Addr×Obj)) (s:Shared) (σ:St) (H:Hp) (xs:List V) (us:List Value) (Q:VK),Inv X pins σ H s->zj xs us->r xs H Q ->
  wpAny (model X.prog X.w) X.A (call f us) (EP X pins σ Q) X.xe s
def tOp (r:R2) (ta tb:TE):TE:=λσ H Q=>ta σ H λx H1=>tb σ H1 λy H2=>r x y H2 Q
def tUn (r:V->Hp->VK->Prop) (ta:TE):TE:=λσ H Q=>ta σ H λx H1=>r x H1 Q
def rI (C:Int->Int->Prop) (g:Int->Int->V):R2:=λx y H Q=>∃ i j,x=.int i/\y=.int j/\C i j/\Q (g i j) H
def rI0 (g:Int->Int->V):R2:=λx y H Q=>∃ i j,x=.int i/\y=.int j/\Q (g i j) H
def rU (g:Int->V):V->Hp->VK->Prop:=λx H Q=>∃ i,x=.int i/\Q (g i) H
section
variable {X:Cx} {a b c:Expr} {ta tb tc:TE} {pos:Pos}
def qnh (ha:PE X a ta) (hb:PE X b tb) {pins:List (Addr×Obj)} {s:Shared} {σ:St} {H:Hp} {R:V->V->Hp->Prop} (I:Inv X pins σ H s)
  (h:ta σ H λx H1=>tb σ H1 λy H2=>R x y H2) {Q:Value->Shared->Prop} {f:Value->Value->Sem Value}
  (hf:∀ v u s2 x y H2,Inv X pins σ H2 s2->jk x v->jk y u->R x y H2->wpAny (model X.prog X.w) X.A (f v u) Q X.xe s2) :
  wpAny (model X.prog X.w) X.A (eval a X.env) (λv s₁=>wpAny (model X.prog X.w) X.A (eval b X.env) (λu s₂=>wpAny (model X.prog X.w) X.A (f v u) Q X.xe s₂) X.xe s₁) X.xe s:=by
 refine thn (ha pins s σ H _ I h) λv s1 ⟨x,H1,I1,r1,q1⟩=>?_;refine thn (hb pins s1 σ H1 _ I1 q1) λu s2 ⟨y,H2,I2,r2,q2⟩=>?_;exact hf v u s2 x y H2 I2 r1 r2 q2
def qnI {op:Operator} {r:R2} (ho:OpR X (binaryOp op) r) (ha:PE X a ta) (hb:PE X b tb):PE X (.BinOp a op b pos) (tOp r ta tb):=by
 intro pins s σ H Q I h;exact wpAny_BinOp (qnh ha hb I h λv u s2 x y H2 I2 rx ry q=>ho pins s2 σ H2 x y v u Q I2 rx ry q)
def qnj {op:UnaryOp} {r:V->Hp->VK->Prop} (ho:UnR X (unaryOp op) r) (ha:PE X a ta):PE X (.UnaryOp op a pos) (tUn r ta):=by
 intro pins s σ H Q I h;exact UnaryOp_ (thn (ha pins s σ H _ I h) λv s1 ⟨x,H1,I1,r1,q1⟩=>ho pins s1 σ H1 x v Q I1 r1 q1)
def opI {f:Value->Value->Sem Value} {C:Int->Int->Prop} {g:Int->Int->Int}
  (rule:∀ (i j:Int) (t u:Tok) (s:Shared) (Q:Value->Shared->Prop) (E:Value->Shared->Prop),C i j->Q (.int (g i j) s.toks) { s with toks:=s.toks+1 }->wpAny (model X.prog X.w) X.A (f (.int i t) (.int j u)) Q E s) :
  OpR X f (rI C λi j=>.int (g i j)):=by
 intro pins s σ H x y v u Q I rx ry h;obtain ⟨i,j,rfl,rfl,hc,q⟩:=h;obtain ⟨t,rfl⟩:=rx;obtain ⟨t',rfl⟩:=ry;exact rule i j t t' s _ _ hc ⟨.int (g i j),H,I.tok _,⟨_,rfl⟩,q⟩
def qnG {f:Value->Value->Sem Value} {g:Int->Int->Int}
  (rule:∀ (i j:Int) (t u:Tok) (s:Shared) (Q:Value->Shared->Prop) (E:Value->Shared->Prop),Q (.int (g i j) s.toks) { s with toks:=s.toks+1 }->wpAny (model X.prog X.w) X.A (f (.int i t) (.int j u)) Q E s) :
  OpR X f (rI0 λi j=>.int (g i j)):=by
 intro pins s σ H x y v u Q I rx ry h;obtain ⟨i,j,rfl,rfl,q⟩:=h;obtain ⟨t,rfl⟩:=rx;obtain ⟨t',rfl⟩:=ry;exact rule i j t t' s _ _ ⟨.int (g i j),H,I.tok _,⟨_,rfl⟩,q⟩
def qlq {f:Value->Value->Sem Value} {g:Int->Int->Bool}
  (rule:∀ (i j:Int) (t u:Tok) (s:Shared) (Q:Value->Shared->Prop) (E:Value->Shared->Prop),Q (.bool (g i j)) s->wpAny (model X.prog X.w) X.A (f (.int i t) (.int j u)) Q E s) :
  OpR X f (rI0 λi j=>.bl (g i j)):=by
 intro pins s σ H x y v u Q I rx ry h;obtain ⟨i,j,rfl,rfl,q⟩:=h;obtain ⟨t,rfl⟩:=rx;obtain ⟨t',rfl⟩:=ry;exact rule i j t t' s _ _ ⟨.bl (g i j),H,I,rfl,q⟩
def Q7 (i j:Int):Prop:=0<j/\j<1073741824
def qhO (i j:Int):Prop:=0<=j/\j<=1000000/\i.natAbs<2 ^ 64
def EC (i j:Int):Prop:=(-(2 ^ 64)<i/\i<2 ^ 64)\/(-(2 ^ 64)<j/\j<2 ^ 64)
def EC.ok {i j:Int} (h:EC i j):IntMulOk i j:=by
 rcases h with ⟨h1,h2⟩|⟨h1,h2⟩
 ·exact .of_left (intBits_le_64 h1 h2)
 ·exact .of_right (intBits_le_64 h1 h2)
def qcF:OpR X (binaryOp .Add) (rI0 λi j=>.int (i+j)):=qnG λ_ _ _ _ _ _ _ q=>add_int q
def qju:OpR X (binaryOp .Sub) (rI0 λi j=>.int (i-j)):=qnG λ_ _ _ _ _ _ _ q=>sub_int q
def qiQ:OpR X (binaryOp .Mult) (rI EC λi j=>.int (i*j)):=opI λ_ _ _ _ _ _ _ hc q=>mul_int q hc.ok
def qeA:OpR X (binaryOp .FloorDiv) (rI Q7 λi j=>.int (i/j)):=opI λi j _ _ _ _ _ hc q=>by
 have h1:(0:Int)<j:=hc.1;have h2:j<1073741824:=hc.2;exact floordiv_int (by omega) (by rw [Int.fdiv_eq_ediv_of_nonneg i (by omega)];exact q) (.inl (PyProof.noPylong_small (by omega)))
def qgu:OpR X (binaryOp .Mod) (rI (λ_ j=>0<j) λi j=>.int (i%j)):=opI λi j _ _ _ _ _ hc q=>by
 have h1:(0:Int)<j:=hc;exact mod_int' (by omega) (by rw [Int.fmod_eq_emod_of_nonneg i (by omega)];exact q)
def qgz:OpR X (binaryOp .Pow) (rI qhO λi j=>.int (i ^ j.toNat)):=opI λ_ _ _ _ _ _ _ hc q=>pow_int_small hc.1 hc.2.1 hc.2.2 q
def qgv:OpR X (binaryOp .BitXor) (rI0 λi j=>.int (Builtin.bitXor i j)):=qnG λ_ _ _ _ _ _ _ q=>xor_int q
def unI {f:Value->Sem Value} {g:Int->Int}
  (rule:∀ (i:Int) (t:Tok) (s:Shared) (Q:Value->Shared->Prop) (E:Value->Shared->Prop),Q (.int (g i) s.toks) { s with toks:=s.toks+1 }->wpAny (model X.prog X.w) X.A (f (.int i t)) Q E s) :
  UnR X f (rU λi=>.int (g i)):=by
 intro pins s σ H x v Q I rx h;obtain ⟨i,rfl,q⟩:=h;obtain ⟨t,rfl⟩:=rx;exact rule i t s _ _ ⟨.int (g i),H,I.tok _,⟨_,rfl⟩,q⟩
def qgM:UnR X (unaryOp .USub) (rU λi=>.int (-i)):=unI λ_ _ _ _ _ q=>neg_int q
end
def qnm:V->V->Bool
 |.non,.non=>true|.non,.int _=>true|.int _,.non=>true|.non,.bl _=>true|.bl _,.non=>true|.non,.str _=>true|.str _,.non=>true
 |.int _,.int _=>true|.bl _,.bl _=>true|.str _,.str _=>true|.byt _,.byt _=>true
 |.int _,.str _=>true|.str _,.int _=>true|.bl _,.str _=>true|.str _,.bl _=>true
 |_,_=>false
def rEq:R2:=λx y H Q=>qnm x y=true/\Q (.bl (decide (x=y))) H
def rNe:R2:=λx y H Q=>qnm x y=true/\Q (.bl (!decide (x=y))) H
def qad {i j:Int}:decide (V.int i=V.int j)=(i==j):=by
 rw [Bool.eq_iff_iff];simp
def qdd {i j:Bool}:decide (V.bl i=V.bl j)=(i==j):=by
 rw [Bool.eq_iff_iff];simp
def NN {i j:Str}:decide (V.str i=V.str j)=(i==j):=by
 rw [Bool.eq_iff_iff];simp
def MK {i j:Array UInt8}:decide (V.byt i=V.byt j)=(i.toList==j.toList):=by
 rw [Bool.eq_iff_iff];cases i;cases j;simp
section
variable {X:Cx} {a b c:Expr} {ta tb tc:TE} {pos:Pos}
def qS {pins:List (Addr×Obj)} {σ:St} {H:Hp} {s:Shared} {Q:VK} {k k':Bool} (I:Inv X pins σ H s) (q:Q (.bl k) H) (e:k=k'):EP X pins σ Q (.bool k') s:=by
 subst e;exact ⟨.bl k,H,I,rfl,q⟩
def qm3:OpR X (compareOp .Eq) rEq:=by
 intro pins s σ H x y v u Q I rx ry h;obtain ⟨hs,q⟩:=h;cases x with
 |non=>
  cases rx;cases y with
  |non=>cases ry;exact PySem.EqNone.eq_none_none (qS I q (by simp))
  |bl j=>cases ry;exact PySem.EqNone.eq_none_bool (qS I q (by simp))
  |int j=>obtain ⟨t',rfl⟩:=ry;exact PySem.EqNone.eq_none_int (qS I q (by simp))
  |str j=>obtain ⟨t',rfl⟩:=ry;exact PySem.EqNone.eq_none_str (qS I q (by simp))
  |_=>exact absurd (show false=true from hs) Bool.false_ne_true
 |bl i=>
  cases rx;cases y with
  |non=>cases ry;exact PySem.EqNone.eq_bool_none (qS I q (by simp))
  |bl j=>cases ry;exact eq_bool (qS I q qdd)
  |str j=>obtain ⟨t',rfl⟩:=ry;exact PySem.EqMixed.eq_bool_str (qS I q (by simp))
  |_=>exact absurd (show false=true from hs) Bool.false_ne_true
 |int i=>
  obtain ⟨t,rfl⟩:=rx;cases y with
  |non=>cases ry;exact PySem.EqNone.eq_int_none (qS I q (by simp))
  |int j=>obtain ⟨t',rfl⟩:=ry;exact eq_int (qS I q qad)
  |str j=>obtain ⟨t',rfl⟩:=ry;exact PySem.EqMixed.eq_int_str (qS I q (by simp))
  |_=>exact absurd (show false=true from hs) Bool.false_ne_true
 |str i=>
  obtain ⟨t,rfl⟩:=rx;cases y with
  |non=>cases ry;exact PySem.EqNone.eq_str_none (qS I q (by simp))
  |bl j=>cases ry;exact PySem.EqMixed.eq_str_bool (qS I q (by simp))
  |int j=>obtain ⟨t',rfl⟩:=ry;exact PySem.EqMixed.eq_str_int (qS I q (by simp))
  |str j=>obtain ⟨t',rfl⟩:=ry;exact eq_str (qS I q NN)
  |_=>exact absurd (show false=true from hs) Bool.false_ne_true
 |byt i=>
  obtain ⟨t,rfl⟩:=rx;cases y with
  |byt j=>obtain ⟨t',rfl⟩:=ry;exact PySem.W.eq_bytes (qS I q MK)
  |_=>exact absurd (show false=true from hs) Bool.false_ne_true
 |_=>cases y<;>exact absurd (show false=true from hs) Bool.false_ne_true
def qmd:OpR X (compareOp .NotEq) rNe:=by
 intro pins s σ H x y v u Q I rx ry h;obtain ⟨hs,q⟩:=h;cases x with
 |non=>
  cases rx;cases y with
  |non=>cases ry;exact PySem.EqNone.ne_none_none (qS I q (by simp))
  |bl j=>cases ry;exact PySem.EqNone.ne_none_bool (qS I q (by simp))
  |int j=>obtain ⟨t',rfl⟩:=ry;exact PySem.EqNone.ne_none_int (qS I q (by simp))
  |str j=>obtain ⟨t',rfl⟩:=ry;exact PySem.EqNone.ne_none_str (qS I q (by simp))
  |_=>exact absurd (show false=true from hs) Bool.false_ne_true
 |bl i=>
  cases rx;cases y with
  |non=>cases ry;exact PySem.EqNone.ne_bool_none (qS I q (by simp))
  |bl j=>cases ry;exact ne_bool (qS I q (congrArg not qdd))
  |str j=>obtain ⟨t',rfl⟩:=ry;exact PySem.EqMixed.ne_bool_str (qS I q (by simp))
  |_=>exact absurd (show false=true from hs) Bool.false_ne_true
 |int i=>
  obtain ⟨t,rfl⟩:=rx;cases y with
  |non=>cases ry;exact PySem.EqNone.ne_int_none (qS I q (by simp))
  |int j=>obtain ⟨t',rfl⟩:=ry;exact ne_int (qS I q (congrArg not qad))
  |str j=>obtain ⟨t',rfl⟩:=ry;exact PySem.EqMixed.ne_int_str (qS I q (by simp))
  |_=>exact absurd (show false=true from hs) Bool.false_ne_true
 |str i=>
  obtain ⟨t,rfl⟩:=rx;cases y with
  |non=>cases ry;exact PySem.EqNone.ne_str_none (qS I q (by simp))
  |bl j=>cases ry;exact PySem.EqMixed.ne_str_bool (qS I q (by simp))
  |int j=>obtain ⟨t',rfl⟩:=ry;exact PySem.EqMixed.ne_str_int (qS I q (by simp))
  |str j=>obtain ⟨t',rfl⟩:=ry;exact ne_str (qS I q (congrArg not NN))
  |_=>exact absurd (show false=true from hs) Bool.false_ne_true
 |byt i=>
  obtain ⟨t,rfl⟩:=rx;cases y with
  |byt j=>obtain ⟨t',rfl⟩:=ry;exact PySem.W.ne_bytes (qS I q (congrArg not MK))
  |_=>exact absurd (show false=true from hs) Bool.false_ne_true
 |_=>cases y<;>exact absurd (show false=true from hs) Bool.false_ne_true
def qft:OpR X (compareOp .Lt) (rI0 λi j=>.bl (decide (i<j))):=qlq λ_ _ _ _ _ _ _ q=>lt_int q
def qlz:OpR X (compareOp .LtE) (rI0 λi j=>.bl (decide (i<=j))):=qlq λ_ _ _ _ _ _ _ q=>le_int q
def qnR:OpR X (compareOp .Gt) (rI0 λi j=>.bl (decide (j<i))):=qlq λ_ _ _ _ _ _ _ q=>gt_int q
def qj0:OpR X (compareOp .GtE) (rI0 λi j=>.bl (decide (j<=i))):=qlq λ_ _ _ _ _ _ _ q=>ge_int q
def KI:OpR X (compareOp .Is) (λx y H Q=>y=.non/\Q (.bl (decide (x=.non))) H):=by
 intro pins s σ H x y v u Q I rx ry h;obtain ⟨rfl,q⟩:=h;cases ry;refine is_none_gen (qS I q ?_);cases x<;>first
  | (cases rx;rfl)
  | (obtain ⟨t,rfl⟩:=rx;rfl)
def OpR.or {f:Value->Value->Sem Value} {r r':R2} (h:OpR X f r) (h':OpR X f r'):OpR X f (λx y H Q=>r x y H Q\/r' x y H Q):=by
 intro pins s σ H x y v u Q I rx ry q;rcases q with q|q
 ·exact h pins s σ H x y v u Q I rx ry q
 ·exact h' pins s σ H x y v u Q I rx ry q
def qC (b:Expr) {op:CmpOp} (h:op≠.In:=by decide) (h2:op≠.NotIn:=by decide):behindInMarks op b=false:=by
 have e1:(op==CmpOp.In)=false:=by cases op<;>first|rfl|exact absurd rfl h
 have e2:(op==CmpOp.NotIn)=false:=by cases op<;>first|rfl|exact absurd rfl h2
 cases b<;>simp [behindInMarks,e1,e2]
def qfN {op:CmpOp} {r:R2} (ho:OpR X (compareOp op) r) (ha:PE X a ta) (hb:PE X b tb) (hm:behindInMarks op b=false):PE X (.Compare a [op] [b] pos) (tOp r ta tb):=by
 intro pins s σ H Q I h;exact wpAny_Compare1 (qnh ha hb I h λv u s2 x y H2 I2 rx ry q=>ho pins s2 σ H2 x y v u Q I2 rx ry q) hm
def qjy (t:TE):TT:=λσ H Q=>t σ H λx H'=>∃ k,x=.bl k/\Q k H'
def qeP {op:CmpOp} {r:R2} (ho:OpR X (compareOp op) r) (ha:PE X a ta) (hb:PE X b tb) (hm:behindInMarks op b=false):PT X (.Compare a [op] [b] pos) (qjy (tOp r ta tb)):=by
 intro pins s σ H Q I h;refine wpAny_isTrue_Compare1 (thn (ha pins s σ H _ I h) λv s1 ⟨x,H1,I1,r1,q1⟩=>thn (hb pins s1 σ H1 _ I1 q1) λu s2 ⟨y,H2,I2,r2,q2⟩=>
  thn (ho pins s2 σ H2 x y v u _ I2 r1 r2 q2) λc s3 ⟨z,H3,I3,r3,k,e,q3⟩=>?_) hm
 subst e;cases r3;exact wpAny_truthy_bool ⟨H3,I3,q3⟩
def qc9 (r r':R2) (ta tb tc:TE):TE:=λσ H Q=>ta σ H λx H1=>tb σ H1 λy H2=>r x y H2 λz H3=>∃ k,z=.bl k /\
 (if k=true then tc σ H3 λw' H4=>r' y w' H4 Q else Q (.bl false) H3)
def qbS {op op':CmpOp} {r r':R2} (ho:OpR X (compareOp op) r) (ho':OpR X (compareOp op') r') (ha:PE X a ta) (hb:PE X b tb) (hc:PE X c tc)
  (hm:lastMarks [op,op'] [b,c]=false:=by with_unfolding_all rfl):PE X (.Compare a [op,op'] [b,c] pos) (qc9 r r' ta tb tc):=by
 intro pins s σ H Q I h;refine Compare_chain (thn (ha pins s σ H _ I h) λv s1 ⟨x,H1,I1,r1,q1⟩=>chain_link (thn (hb pins s1 σ H1 _ I1 q1) λu s2 ⟨y,H2,I2,r2,q2⟩=>
  thn (ho pins s2 σ H2 x y v u _ I2 r1 r2 q2) λd s3 ⟨z,H3,I3,r3,k,e,q3⟩=>?_)) hm
 subst e;cases r3;refine wpAny_truthy_bool ?_;cases k with
 |false=>exact ite_ff ⟨.bl false,H3,I3,rfl,q3⟩
 |true=>exact ite_tt (chain_last (thn (hc pins s3 σ H3 _ I3 q3) λw' s4 ⟨z',H4,I4,r4,q4⟩=>ho' pins s4 σ H4 y z' u w' Q I4 r2 r4 q4))
def RA:(sizeLine:Nat)<2 ^ 63:=by rw [sizeLine_eq];decide
def W4 {x:V} {us:List Value} (r:zj [x] us):∃ u,us=[u]/\jk x u:=by
 cases r with
 |cons r1 r2=>cases r2;exact ⟨_,rfl,r1⟩
def K1 {x y:V} {us:List Value} (r:zj [x,y] us):∃ u w',us=[u,w']/\jk x u/\jk y w':=by
 cases r with
 |cons r1 r2=>
  cases r2 with
  |cons r3 r4=>cases r4;exact ⟨_,_,rfl,r1,r3⟩
def KN:JM X (.builtin "abs") (λxs H Q=>∃ i,xs=[.int i]/\Q (.int (if i<0 then -i else i)) H):=by
 intro pins s σ H xs us Q I r h;obtain ⟨i,rfl,q⟩:=h;obtain ⟨u,rfl,t,rfl⟩:=W4 r;exact call_abs_int λu tk=>⟨.int (if i<0 then -i else i),H,I.tok _,⟨_,rfl⟩,q⟩
def NH (hc:X.calm=true):JM X (.builtin "min") (λxs H Q=>∃ i j,xs=[.int i,.int j]/\Q (.int (if j<i then j else i)) H):=by
 intro pins s σ H xs us Q I r h;obtain ⟨i,j,rfl,q⟩:=h;obtain ⟨u,w',rfl,⟨t,rfl⟩,⟨t',rfl⟩⟩:=K1 r;refine min_two_ints (I.ok.hd hc) λh' tk k=>⟨_,H,I.kept k,?_,q⟩
 by_cases hj:j<i
 ·rw [if_pos hj,if_pos hj];exact ⟨_,rfl⟩
 ·rw [if_neg hj,if_neg hj];exact ⟨_,rfl⟩
def qof (K:Frg) (x:V) (H:Hp) (n:Nat):Prop:=
 match x with
 |.str y=>y.length<=sizeLine/\n=y.length
 |.byt y=>y.size<=sizeLine/\n=y.size
 |.ref p=>(∃ xs,SqL K H p xs/\n=xs.length)\/∃ xs,SqT K H p xs/\n=xs.length
 |_=>False
def qK:JM X (.builtin "len") (λxs H Q=>∃ x n,xs=[x]/\qof X.K x H n/\Q (.int n) H):=by
 intro pins s σ H xs us Q I r h;obtain ⟨x,n,rfl,e,q⟩:=h;obtain ⟨u,rfl,rx⟩:=W4 r;have hl:=RA;have hs:sizeLine=16777216:=sizeLine_eq;cases x with
 |str y=>
  obtain ⟨t,rfl⟩:=rx;obtain ⟨hy,e'⟩:y.length<=sizeLine/\n=y.length:=e;subst e';exact len_str (by omega) ⟨.int _,H,I.tok _,⟨_,rfl⟩,q⟩
 |byt y=>
  obtain ⟨t,rfl⟩:=rx;obtain ⟨hy,e'⟩:y.size<=sizeLine/\n=y.size:=e;subst e';exact PySem.W.len_bytes (by omega) ⟨.int _,H,I.tok _,⟨_,rfl⟩,q⟩
 |ref p=>
  cases rx;have e':(∃ xs,SqL X.K H p xs/\n=xs.length)\/∃ xs,SqT X.K H p xs/\n=xs.length:=e;rcases e' with ⟨xs,hx,e'⟩|⟨xs,hx,e'⟩
  ·subst e';obtain ⟨its,r',pl,hz⟩:=I.list hx;have hlen:=r'.length;exact Calls.call_len_list pl.isList (by simp only [size_toArray];omega) ⟨.int xs.length,H,I.tok _,⟨_,by simp only [size_toArray];rw [hlen]⟩,q⟩
  ·subst e';obtain ⟨its,r',pl,hz⟩:=I.tuple hx;have hlen:=r'.length;exact len_tuple pl (by simp only [size_toArray];omega) ⟨.int xs.length,H,I.tok _,⟨_,by simp only [size_toArray];rw [hlen]⟩,q⟩
 |_=>exact (show False from e).elim
end
section
variable {prog:Program} {w:World} {A:Around} {E:Value->Shared->Prop} {s:Shared} {K:Frg} {x dx C f:Addr} {mA:Str->Option Value} {name:Str} {v:Value}
end
section
variable {P:Program} {w:World} {H H':Hp} {h h':Heap} {a C dx:Addr} {fs fs':List (Str×V)}
end
section
variable {X:Cx} {pins:List (Addr×Obj)} {σ:St} {H:Hp} {s:Shared} {a C dx:Addr} {fs:List (Str×V)} {f:Str} {v:V} {A:Around} {E:Value->Shared->Prop}
end
section
variable {X:Cx} {o e value:Expr} {f:Str} {pos pos' tpos:Pos} {ta tv:TE}
end
section
variable {X:Cx} {pins:List (Addr×Obj)} {σ:St} {H:Hp} {s:Shared} {A:Around} {E:Value->Shared->Prop} {Q:Value->Shared->Prop} {c:Value} {b:Bool}
end
structure Room (k:Nat) (A:Around):Prop where
 hd:A.handled=none
 dp:A.depth+3*k+5<recursionLimit
 un:A.units+16*k+200<cLine
 gd:A.guards=some []
def Room.mono {j k:Nat} {A:Around} (r:Room k A) (h:j<=k):Room j A:=⟨r.hd,by have:=r.dp;omega,by have:=r.un;omega,r.gd⟩
def Room.deeper {k:Nat} {A:Around} (r:Room (k+1) A) (env:Env):Room k (A.deeper env):=
 ⟨r.hd,by have:=r.dp;show A.depth+1+3*k+5<_;omega,by have:=r.un;show A.units+3+16*k+200<_;omega,r.gd⟩
def Room.in1 {k:Nat} {A:Around} (r:Room (k+1) A):Room k A.in1:=
 ⟨r.hd,by have:=r.dp;show A.depth+3*k+5<_;omega,by have:=r.un;show A.units+1+16*k+200<_;omega,r.gd⟩
def Room.depth {k:Nat} {A:Around} (r:Room k A):A.depth<recursionLimit:=by have:=r.dp;omega
def Room.units {k:Nat} {A:Around} (r:Room k A):A.units+64<cLine:=by have:=r.un;omega
def qo6:TA:=λ_ H Q=>Q [] H
def qm1 (ta:TE) (tr:TA):TA:=λσ H Q=>ta σ H λx H1=>tr σ H1 λxs H2=>Q (x::xs) H2
section
variable {X:Cx} {e:Expr} {es:List Expr} {te:TE} {t:TA} {pos:Pos}
def T9:PA X [] qo6:=λ_ _ _ _ H Q I h=>Calls.spliced_nil ⟨[],H,I,.nil,h⟩
def YU (ha:PE X e te) (hr:PA X es t) (hs:starEach (e::es) X.env=(false,eval e X.env)::starEach es X.env:=by rfl):PA X (e::es) (qm1 te t):=by
 intro pos pins s σ H Q I h;rw [hs];show wpAny _ _ (spliced ((false,eval e X.env)::backTo pos (starEach es X.env))) _ _ s;refine Calls.spliced_cons (thn (ha pins s σ H _ I h) λu s1 ⟨x,H1,I1,r1,q1⟩=>?_);exact thn (hr pos pins s1 σ H1 _ I1 q1) λus s2 ⟨xs,H2,I2,r2,q2⟩=>⟨x::xs,H2,I2,.cons r1 r2,q2⟩
def qoU (t:TA):TE:=λσ H Q=>t σ H λxs H1=>xs.length<=sizeLine/\∀ p,H1 p=none->Q (.ref p) (upd H1 p (.tup xs))
def qoP (t:TA):TE:=λσ H Q=>t σ H λxs H1=>xs.length<=sizeLine/\∀ p,H1 p=none->Q (.ref p) (upd H1 p (.lst xs))
def qdb {x1} (h:PA X es t):PE X (.Tuple es x1 pos) (qoU t):=by
 intro pins s σ H Q I hq;refine wpAny_Tuple_spliced (thn (h pos pins s σ H _ I hq) λus s1 ⟨xs,H1,I1,r,z,q⟩=>⟨by rw [← r.length];exact z,?_⟩);have hf:H1 s1.heap.objs.size=none:=I1.hok.fresh (Nat.le_refl _);refine ⟨.ref s1.heap.objs.size,upd H1 s1.heap.objs.size (.tup xs),I1.laid (t':=s1.toks) (λb u e=>Heap.get?_push_of_some _ e) (Nat.le_refl _) ?_,rfl,q _ hf⟩;exact ⟨z,us,r,⟨_,Heap.get?_push_size _ rfl,rfl,_,rfl,rfl⟩⟩
def qjJ (h:PA X es t):PE X (.List es pos) (qoP t):=by
 intro pins s σ H Q I hq;refine wpAny_List_spliced (thn (h pos pins s σ H _ I hq) λus s1 ⟨xs,H1,I1,r,z,q⟩=>⟨by rw [← r.length];exact z,?_⟩);have hf:H1 s1.heap.objs.size=none:=I1.hok.fresh (Nat.le_refl _);refine ⟨.ref s1.heap.objs.size,upd H1 s1.heap.objs.size (.lst xs),I1.laid (t':=s1.toks) (λb u e=>Heap.get?_push_of_some _ e) (Nat.le_refl _) ?_,rfl,q _ hf⟩;exact ⟨z,us,0,r,Heap.get?_push_size _ rfl⟩
end
abbrev Sp:=List V->Hp->VK->XK->Prop
abbrev CXT:=List Env->Hp->Shared->XK->Value->Shared->Prop
structure Env0 (P:Program) (w:World) (K:Frg) (mg:Str->Option Value) (base:Heap) (A:Around) (outer:List Env) (s:Shared) (H:Hp):Prop where
 frames:A.frames=some outer
 mod:Mod K mg base
 bs:∀ b o,base.get? b=some o->s.heap.get? b=some o/\H b=none
 bsz:base.objs.size<=s.heap.objs.size
 funs:s.heap.FunFrames base outer
 frf:∀ b∈frs outer,H b=none
 hok:HOk P w H s.heap
 bare:AllBare s.gens
def CE (outer:List Env) (P:Program) (w:World) (H:Hp) (s:Shared) (Q:VK) (u:Value) (s':Shared):Prop:=
 ∃ v H',s'.os=s.os/\AllBare s'.gens/\Un (frs outer) [] H H' s.heap s'.heap/\HOk P w H' s'.heap/\jk v u/\Q v H'
def CR (CX:CXT) (outer:List Env) (P:Program) (w:World) (H:Hp) (s:Shared) (Q:VK) (E:XK) (r:Result) (s':Shared):Prop:=
 match r with
 |.ok (.ret u)=>CE outer P w H s Q u s'
 |.ok _=>False
 |.error e=>CX outer H s E e s'
structure FnOk (P:Program) (w:World) (K:Frg) (mg:Str->Option Value) (base:Heap) (CX:CXT) (k:Nat) (f:Addr) (fd:FuncData) (ps:List Str) (sp:Sp):Prop where
 len:∀ vs H Q E,sp vs H Q E->vs.length=ps.length
 run:∀ (A:Around) (outer:List Env) (s:Shared) (H:Hp) (args:Args) (us:List Value) (vs:List V) (Q:VK) (E:XK),Room k A->Env0 P w K mg base A outer s H->BindsTo s fd args (ps.zip us)->zj vs us->sp vs H Q E ->
  codeAny (model P w) A (.call (.ref f) args) (CR CX outer P w H s Q E) s
def FnOk.mono {P:Program} {w:World} {K:Frg} {mg:Str->Option Value} {base:Heap} {CX:CXT} {j k:Nat} {f:Addr} {fd:FuncData} {ps:List Str} {sp:Sp} (F:FnOk P w K mg base CX j f fd ps sp) (h:j<=k) :
  FnOk P w K mg base CX k f fd ps sp:=⟨F.len,λA outer s H args us vs Q E hr=>F.run A outer s H args us vs Q E (hr.mono h)⟩
def FnOk.imp {P:Program} {w:World} {K:Frg} {mg:Str->Option Value} {base:Heap} {CX:CXT} {k:Nat} {f:Addr} {fd:FuncData} {ps:List Str} {sp sp':Sp} (F:FnOk P w K mg base CX k f fd ps sp)
  (h:∀ vs H Q E,sp' vs H Q E->sp vs H Q E):FnOk P w K mg base CX k f fd ps sp':=
 ⟨λvs H Q E q=>F.len vs H Q E (h _ _ _ _ q),λA outer s H args us vs Q E hr he hb hv hs=>F.run A outer s H args us vs Q E hr he hb hv (h _ _ _ _ hs)⟩
def Env0.in1 {P:Program} {w:World} {K:Frg} {mg:Str->Option Value} {base:Heap} {A:Around} {outer:List Env} {s:Shared} {H:Hp} (e:Env0 P w K mg base A outer s H) :
  Env0 P w K mg base A.in1 outer s H:=⟨e.frames,e.mod,e.bs,e.bsz,e.funs,e.frf,e.hok,e.bare⟩
section
variable {X:Cx} {pins:List (Addr×Obj)} {σ:St} {H:Hp} {s s':Shared}
def Inv.env0 (I:Inv X pins σ H s):Env0 X.prog X.w X.K X.mg X.base X.A X.stack s H:=
 ⟨I.ok.frames,I.ok.mod,I.bs,Nat.le_trans I.ok.bsz I.sz,I.stack,I.stkFree,I.hok,I.bare⟩
def Inv.after {Q:VK} {u:Value} (I:Inv X pins σ H s) (h:CE X.stack X.prog X.w H s Q u s'):EP X pins σ Q u s':=by
 obtain ⟨v,H',os,bare,un,hok,r,q⟩:=h;obtain ⟨hh,g,d,t,os'⟩:=s';obtain rfl:os'=s.os:=os;exact ⟨v,H',I.call (h':=hh) (g':=g) (d':=d) (t':=t) (ch:=[]) un hok bare (λb z=>absurd z (by simp)),r,q⟩
end
def qlF (sp:Sp) (dvs:List V) (E:XK) (t:TA):TE:=λσ H Q=>t σ H λvs H1=>sp (vs++dvs) H1 Q E
def zJ (K:Frg) (fd:FuncData) (ps:List Str) (ds:List Value):Prop:=
 ∀ (s:Shared) (us:List Value),K.In s.heap->(us++ds).length=ps.length->BindsTo s fd ⟨us,[]⟩ (ps.zip (us++ds))
def zJ.all {K:Frg} {fd:FuncData} {ps:List Str} (h:∀ us:List Value,us.length=ps.length->bindArgs fd ⟨us,[]⟩=pure (ps.zip us)):zJ K fd ps []:=λs us _ hl=>by
 rw [List.append_nil] at hl ⊢;exact .of_eq (h us hl)
def qaO (CX:CXT) (X:Cx) (E:XK):Prop:=∀ (pins:List (Addr×Obj)) (σ:St) (H:Hp) (s:Shared) (e:Value) (s':Shared),Inv X pins σ H s->CX X.stack H s E e s'->X.xe e s'
section
variable {X:Cx} {CX:CXT} {k:Nat} {f C:Addr} {fd:FuncData} {ps:List Str} {sp:Sp} {dvs:List V} {ds:List Value} {E:XK} {x m:Str} {p pos apos:Pos} {e o:Expr} {es:List Expr} {ta:TE} {t:TA}
def qgW {pins:List (Addr×Obj)} {σ:St} {H:Hp} {s:Shared} {Q:VK} {us:List Value} {vs:List V} (F:FnOk X.prog X.w X.K X.mg X.base CX k f fd ps sp) (hr:Room k X.A) (hb:zJ X.K fd ps ds) (hd:zj dvs ds) (hx:qaO CX X E)
  (I:Inv X pins σ H s) (r:zj vs us) (h:sp (vs++dvs) H Q E):wpAny (model X.prog X.w) X.A (call (.ref f) us) (EP X pins σ Q) X.xe s:=by
 have r2:zj (vs++dvs) (us++ds):=r.append hd;have hl:(us++ds).length=ps.length:=by rw [← r2.length];exact F.len _ _ _ _ h
 refine wpAny_call (codeAny_mono (F.run X.A X.stack s H ⟨us,[]⟩ (us++ds) (vs++dvs) Q E hr I.env0 (hb s us I.kIn hl) r2 h) λr s' hq=>?_);cases r with
 |error e=>exact hx pins σ H s e s' I hq
 |ok fl=>
  cases fl with
  |ret u=>exact I.after hq
  |next=>exact False.elim hq
  |brk=>exact False.elim hq
  |cont=>exact False.elim hq
def qfh (F:FnOk X.prog X.w X.K X.mg X.base CX k f fd ps sp) (hr:Room k X.A) (hg:Gl X x) (hm:X.mg x=some (.ref f)) (hk:PySem.W.keepIn X.K (.ref f)=true) (hb:zJ X.K fd ps ds) (hd:zj dvs ds) (hx:qaO CX X E)
  (ha:PA X (e::es) t) (hdb:(x==("__debug__" : Str))=false:=by decide) (he:starEach (e::es) X.env=(false,eval e X.env)::starEach es X.env:=by rfl) (hpl:(backTo pos (starEach es X.env)).any (·.1)=false:=by rfl) :
  PE X (.Call (.Name x p) (e::es) [] pos) (qlF sp dvs E t):=by
 intro pins s σ H Q I h;refine wpAny_Call_Name_kw (qfU I hg hm ?_ hdb);refine PySem.W.callWith_K (h₀:=X.base) I.ok.mod.kin hk (thn (ha pos pins s σ H _ I h) λus s1 ⟨vs,H1,I1,r,q⟩=>⟨I1.kIn,?_⟩) he hpl;exact qgW F hr hb hd hx I1 r q
end
section
variable {X:Cx} {CX:CXT} {k:Nat} {f C:Addr} {fd:FuncData} {ps ks:List Str} {sp:Sp} {E:XK} {x m:Str} {p pos apos kpos:Pos} {e o:Expr} {es:List Expr} {kws:List Keyword} {te ta:TE} {t tk:TA} {nm:Option Str}
variable {g:List Value->List Value->List Value} {gV:List V->List V->List V}
end
structure FnScope (N P:List Str) (sc:Scope):Prop where
 kind:sc.kind=.function
 co:sc.isCoroutine=false
 gen:sc.isGenerator=false
 nd:N.Nodup
 pre:N.take P.length=P
 par:∀ x∈P,sc.names.lookup x=some .local\/sc.names.lookup x=some .cell
 nofree:∀ y∈sc.names,y.2≠.free
def C2 {kindOf:Str->Option NameKind} {x:Str}:∀ {binds:List (Str×Value)} {m:Str->Option Value},(∀ v,(x,v)∉binds)->bindL kindOf binds m x=m x
 |[],_,_=>rfl
 | (n,v)::r,m,h=>by
  unfold bindL;rw [C2 λw hw=>h w (List.mem_cons_of_mem _ hw)];split
  ·have:x≠n:=by rintro rfl;exact h v List.mem_cons_self
   simp [this]
  ·rfl
def CD {kindOf:Str->Option NameKind} {x:Str}:∀ {binds:List (Str×Value)} {m:Str->Option Value},(∀ v,(x,v)∉binds)->bindC kindOf binds m x=m x
 |[],_,_=>rfl
 | (n,v)::r,m,h=>by
  unfold bindC;rw [CD λw hw=>h w (List.mem_cons_of_mem _ hw)];split
  ·rfl
  ·have:x≠n:=by rintro rfl;exact h v List.mem_cons_self
   simp [this]
def CO {kindOf:Str->Option NameKind} {x:Str} {v:Value}:∀ {P:List Str} {vs:List Value} {i:Nat} {m:Str->Option Value},P.Nodup->P[i]?=some x->vs[i]?=some v->kindOf x=some .local ->
  bindL kindOf (P.zip vs) m x=some v
 |[],_,_,_,_,h,_,_=>by simp at h
 |_::_,[],_,_,_,_,h,_=>by simp at h
 |p::P,w::vs,0,m,nd,h1,h2,hk=>by
  simp at h1 h2;subst h1;subst h2;show bindL kindOf ((p,w)::P.zip vs) m p=_;unfold bindL;rw [C2 λv hv=>(List.nodup_cons.mp nd).1 (List.of_mem_zip hv).1,if_pos hk];simp
 |p::P,w::vs,i+1,m,nd,h1,h2,hk=>by
  show bindL kindOf ((p,w)::P.zip vs) m x=_;unfold bindL;exact CO (i:=i) (List.nodup_cons.mp nd).2 (by simpa using h1) (by simpa using h2) hk
def C9 {kindOf:Str->Option NameKind} {x:Str} {v:Value}:∀ {P:List Str} {vs:List Value} {i:Nat} {m:Str->Option Value},P.Nodup->P[i]?=some x->vs[i]?=some v->kindOf x≠some .local ->
  bindC kindOf (P.zip vs) m x=some v
 |[],_,_,_,_,h,_,_=>by simp at h
 |_::_,[],_,_,_,_,h,_=>by simp at h
 |p::P,w::vs,0,m,nd,h1,h2,hk=>by
  simp at h1 h2;subst h1;subst h2;show bindC kindOf ((p,w)::P.zip vs) m p=_;unfold bindC;rw [CD λv hv=>(List.nodup_cons.mp nd).1 (List.of_mem_zip hv).1,if_neg hk];simp
 |p::P,w::vs,i+1,m,nd,h1,h2,hk=>by
  show bindC kindOf ((p,w)::P.zip vs) m x=_;unfold bindC;exact C9 (i:=i) (List.nodup_cons.mp nd).2 (by simpa using h1) (by simpa using h2) hk
def EX (N:List Str) (vs:List V):St:=vs.map some++List.replicate (N.length-vs.length) none
def qa8 (CX:CXT) (P:Program) (w:World) (K:Frg) (mg:Str->Option Value) (base:Heap) (N:List Str) (qual:Str) (scope:Scope) (f:Addr) (cd:Value) (A:Around) (outer:List Env) (s:Shared) (H:Hp) (E:XK):Cx where
 prog:=P
 w:=w
 K:=K
 mg:=mg
 base:=base
 A:=A.deeper (envOfC qual scope s.heap.objs.size f cd)
 N:=N
 s₀:=s
 H₀:=H
 env:=envOfC qual scope s.heap.objs.size f cd
 outer:=outer
 stack:=envOfC qual scope s.heap.objs.size f cd::outer
 ex:=[]
 calm:=true
 fn:=λ_=>true
 pn:=[]
 xe:=λe s'=>wpAny (model P w) (A.deeper (envOfC qual scope s.heap.objs.size f cd)) (leaving (envOfC qual scope s.heap.objs.size f cd) e) (λ_ s''=>CX outer H s E e s'') (λe' s''=>CX outer H s E e' s'') s'
def KY {sc:Scope} {n:Nat} {x:Str} (h:sc.names.lookup x=some .cell):∃ c,(cellsFrom n sc.names []).lookup x=some c:=by
 have q:=PySem.W.cellsFrom_some sc.names n [] (.inl h);exact Option.isSome_iff_exists.mp q
def qa1 {CX:CXT} {P:Program} {w:World} {K:Frg} {mg:Str->Option Value} {base:Heap} {N ps:List Str} {qual:Str} {scope:Scope} {f:Addr} {cd:Value} {A:Around} {outer:List Env} {s s1:Shared} {H:Hp} {E:XK} {us:List Value} {vs:List V}
  (S:FnScope N ps scope) (hd:A.handled=none) (e0:Env0 P w K mg base A outer s H) (hl:vs.length=ps.length) (r:zj vs us)
  (x:InCallC s s.heap.objs.size (bindL (envOfC qual scope s.heap.objs.size f cd).kindOf (ps.zip us) λ_=>none) (cellsFrom (s.heap.objs.size+1) scope.names []) (bindC (envOfC qual scope s.heap.objs.size f cd).kindOf (ps.zip us) λ_=>none) s1) :
  Inv (qa8 CX P w K mg base N qual scope f cd A outer s H E) [] (EX N vs) H s1:=by
 have hpl:ps.length<=N.length:=by have:=congrArg List.length S.pre;rw [List.length_take] at this;omega
 obtain ⟨h1,tk,rfl,hk⟩:=x.done;have noA:∀ b:Addr,b∉(qa8 CX P w K mg base N qual scope f cd A outer s H E).ex:=λb z=>absurd (show b∈([]:List Addr) from z) (by simp);refine ⟨⟨e0.mod,S.kind,rfl,rfl,Nat.le_refl _,λy z c h1 h2=>?_,λy hy=>?_,λy c _ h=>?_,λ_=>hd,Around.frames_deeper e0.frames,.inr ⟨rfl,rfl⟩,λb z=>absurd z (noA b),e0.bs,e0.bsz,λb _ _=>noA b,λb z=>absurd z (noA b),e0.funs,e0.frf⟩,
  rfl,e0.bare,Un.kept hk,⟨_,x.toInCall.ns,λi y v h1 h2 h3=>?_⟩,λy c h=>⟨_,x.cell y c h⟩,e0.hok.fresh (Nat.le_refl _),λy c h=>?_,λp hp=>absurd (show p∈([]:List (Addr×Obj)) from hp) (by simp),e0.hok.kept hk,?_⟩
 ·exact name_of_addr x.apart (PySem.mem_of_lookup h1) (PySem.mem_of_lookup h2)
 ·have hy:scope.names.lookup y=some .cell\/scope.names.lookup y=some .free:=hy;rcases hy with hy|hy
  ·exact KY hy
  ·exact absurd rfl (S.nofree _ (PySem.mem_of_lookup hy))
 ·exact Nat.le_of_lt (x.above y c (PySem.mem_of_lookup h))
 ·have hi:i<vs.length:=by
   unfold EX at h2;by_cases hi:i<vs.length
   ·exact hi
   ·rw [List.getElem?_append_right (by simpa using hi)] at h2;rw [List.getElem?_replicate] at h2;split at h2<;>cases h2
  have ha:vs[i]?=some v:=by
   unfold EX at h2;rw [List.getElem?_append_left (by simpa using hi),getElem?_map] at h2;cases e:vs[i]? with
   |none=>rw [e] at h2;cases h2
   |some a=>rw [e] at h2;cases h2;rfl
  obtain ⟨u,hu,rv⟩:=r.get ha;have hp:ps[i]?=some y:=by
   rw [← S.pre,List.getElem?_take_of_lt (by omega)];exact h1
  have ndP:ps.Nodup:=by rw [← S.pre];exact S.nd.sublist (List.take_sublist _ _)
  refine ⟨u,rv,?_⟩;rcases S.par y (mem_of_getElem? hp) with k|k
  ·exact .inl ⟨k,CO ndP hp hu k⟩
  ·obtain ⟨c,e⟩:=KY (n:=s.heap.objs.size+1) k;refine .inr ⟨.inl k,c,e,?_⟩;have q:=x.cell y c e;rw [C9 ndP hp hu (by show scope.names.lookup y≠_;rw [k];decide)] at q;exact q
 ·exact e0.hok.fresh (Nat.le_of_lt (x.above y c (PySem.mem_of_lookup h)))
 ·unfold EX;show _=N.length;rw [length_append,length_map,List.length_replicate];omega
def qnA {CX:CXT} {P:Program} {w:World} {K:Frg} {mg:Str->Option Value} {base:Heap} {k:Nat} {f:Addr} {name qual:Str} {params:Arguments} {body:List Stmt} {scope:Scope} {dV kV doc pm cdv ct oc:Value} {an od:Option Addr}
  {osl:Array (Option Value)} {N ps:List Str} {sp:Sp} (lk:K.lookup f=some ⟨oc,od,.func (PySem.W.fnOf name qual params body scope dV kV doc pm an cdv ct),osl⟩) (hcd:PySem.W.codeIn K cdv qual=true) (S:FnScope N ps scope)
  (len:∀ vs H Q E,sp vs H Q E->vs.length=ps.length)
  (hbody:∀ (A:Around) (outer:List Env) (s:Shared) (H:Hp) (vs:List V) (Q:VK) (E:XK),Room k (A.deeper (envOfC qual scope s.heap.objs.size f cdv))->sp vs H Q E ->
   ∃ t,PSs (qa8 CX P w K mg base N qual scope f cdv A outer s H E) body t/\t { nx:=λ_ H'=>Q .non H',rt:=Q } (EX N vs) H) :
  FnOk P w K mg base CX (k+1) f (PySem.W.fnOf name qual params body scope dV kV doc pm an cdv ct) ps sp:=by
 refine ⟨len,λA outer s H args us vs Q E hr e0 hb r hsp=>?_⟩;have hl:=len _ _ _ _ hsp;have KX:K.In s.heap:=e0.mod.kin.keeps λb o e=>(e0.bs b o e).1;have lim:s.heap.NoLimit:=e0.mod.nolimit.keeps λb o e=>(e0.bs b o e).1;have hkind:∀ y∈ps.zip us,scope.names.lookup y.1=some .local\/(scope.names.lookup y.1=some .cell/\((cellsFrom (s.heap.objs.size+1) scope.names []).lookup y.1).isSome=true):=λ⟨n,v⟩ hy=>by
  rcases S.par n (List.of_mem_zip hy).1 with q|q
  ·exact .inl q
  ·exact .inr ⟨q,PySem.W.cellsFrom_some _ _ _ (.inl q)⟩
 refine codeAny_call_function hr.depth (KX _ _ lk) rfl S.co S.gen rfl (PySem.W.codeRec_of KX hcd) (hb _ _ _ _ ?_);refine wpAny_newFunctionEnv_cells S.kind hkind λenv he s1 x=>?_;subst he;refine ⟨lim.keeps x.toInCall.keep,codeAny_func ?_⟩;obtain ⟨t,ht,hq⟩:=hbody A outer s H vs Q E (hr.deeper _) hsp;have I:Inv (qa8 CX P w K mg base N qual scope f cdv A outer s H E) [] (EX N vs) H s1:=qa1 S hr.hd e0 hl r x;refine wpAny_mono (ht [] s1 (EX N vs) H _ I hq) (λfl s' hs=>?_) λe s' hs=>hs;have fin:∀ {σ':St} {H':Hp} {v:V} {u:Value},Inv (qa8 CX P w K mg base N qual scope f cdv A outer s H E) [] σ' H' s'->jk v u->Q v H'->CE outer P w H s Q u s':=
  λ{σ' H' v u} J rv q=>⟨v,H',J.os,J.bare,J.base,J.hok,rv,q⟩
 cases fl with
 |ret u=>
  obtain ⟨v,σ',H',J,rv,q⟩:=hs;exact fin J rv q
 |next=>
  obtain ⟨σ',H',J,q⟩:=hs;exact fin (v:=V.non) (u:=Value.none) J rfl q
 |brk=>
  obtain ⟨_,_,_,q⟩:=hs;exact False.elim q
 |cont=>
  obtain ⟨_,_,_,q⟩:=hs;exact False.elim q
section
variable {X:Cx} {x:Str} {p pos:Pos} {e:Expr} {es:List Expr} {t:TA} {id T:String} {r:List V->Hp->VK->Prop}
def tCB (r:List V->Hp->VK->Prop) (t:TA):TE:=λσ H Q=>t σ H λvs H1=>r vs H1 Q
def XQ (hc:JM X (.builtin id) r) (hg:Gl X x) (hm:X.mg x=none) (hv:bootBuiltins x=some (.builtin id)) (ha:PA X (e::es) t) (hn:x≠"__name__" := by decide) (hdb:(x==("__debug__" : Str))=false:=by decide)
  (he:starEach (e::es) X.env=(false,eval e X.env)::starEach es X.env:=by rfl) (hpl:(backTo pos (starEach es X.env)).any (·.1)=false:=by rfl):PE X (.Call (.Name x p) (e::es) [] pos) (tCB r t):=by
 intro pins s σ H Q I h;refine wpAny_Call_Name_kw (YG I hg hm hv ?_ hn hdb);exact PyProof.Rows.callWith_builtin1 (thn (ha pos pins s σ H _ I h) λus s1 ⟨vs,H1,I1,r1,q1⟩=>hc pins s1 σ H1 vs us Q I1 r1 q1) he hpl
def N7 (hc:JM X (.type T) r) (hg:Gl X x) (hm:X.mg x=none) (hv:bootBuiltins x=some (.type T)) (ha:PA X (e::es) t) (hn:x≠"__name__" := by decide) (hdb:(x==("__debug__" : Str))=false:=by decide)
  (he:starEach (e::es) X.env=(false,eval e X.env)::starEach es X.env:=by rfl) (hpl:(backTo pos (starEach es X.env)).any (·.1)=false:=by rfl):PE X (.Call (.Name x p) (e::es) [] pos) (tCB r t):=by
 intro pins s σ H Q I h;refine wpAny_Call_Name_kw (YG I hg hm hv ?_ hn hdb);exact PyProof.Rows.callWith_type1 (thn (ha pos pins s σ H _ I h) λus s1 ⟨vs,H1,I1,r1,q1⟩=>hc pins s1 σ H1 vs us Q I1 r1 q1) he hpl
end
end L2
namespace HT
open PySem PyProof.Rows
section
open PySem.SeqAt
open PySem.MeetsSeq PySem.MeetsSeq2 PySem.MeetsSeq3
end
section
variable {prog:Program} {w:World} {A:Around} {E:Value->Shared->Prop} {s:Shared}
def qf4 {t b:Addr} {vs ws:List Value} {Q:Value->Shared->Prop} (ht:IsTup s.heap t vs.toArray) (hb:IsTup s.heap b ws.toArray) (hv:vs≠[])
  (h1:ws=[]->Q (.ref t) s) (h2:ws≠[]->Q (.ref s.heap.objs.size) { s with heap:=s.heap.push { cls:=.type "tuple",data:=.seq (vs++ws).toArray } })
  (hsz:vs.length+ws.length<=sizeLine):wpAny (model prog w) A (binaryOp .Add (.ref t) (.ref b)) Q E s:=by
 obtain ⟨⟨cls,dd,data,sl⟩,ho,hc,n,hd⟩:=id ht;obtain ⟨⟨cls2,dd2,data2,sl2⟩,ho2,hc2,n2,hd2⟩:=id hb;simp only at hc hd hc2 hd2;subst hc hd hc2 hd2;have e:vs.toArray++ws.toArray=(vs++ws).toArray:=by simp
 by_cases hw:ws=[]
 ·exact concat_meets ⟨_,ho,rfl⟩ ⟨_,ho2,rfl⟩ noFill_tuple_add seq_tuple_add PySem.F.slot_tuple_add PySem.F.entry_tuple_add (PySem.F.args_tuple_add_2 _ _)
   (tuple_addW1 t b vs.toArray ws.toArray n n2 dd dd2 sl sl2 (by simpa using hv) (by simp [hw])) ⟨ho,ho2,h1 hw⟩
 ·refine concat_meets ⟨_,ho,rfl⟩ ⟨_,ho2,rfl⟩ noFill_tuple_add seq_tuple_add PySem.F.slot_tuple_add PySem.F.entry_tuple_add (PySem.F.args_tuple_add_2 _ _)
   (tuple_addW2 t b vs.toArray ws.toArray n n2 dd dd2 sl sl2 (by simpa using hv) (by simpa using hw) (by rw [size_toArray,size_toArray];exact hsz)) ⟨ho,ho2,?_⟩
  rw [e];exact h2 hw
def sIx (n d:Nat):Option Int->Nat
 |none=>d
 |some v=>if v<0 then (v+(n:Int)).toNat else min v.toNat n
def KU (n d:Nat):sIx n d none=d:=rfl
def WX (n d k:Nat):sIx n d (some (k:Int))=min k n:=by
 show (if (k:Int)<0 then ((k:Int)+(n:Int)).toNat else min (k:Int).toNat n)=min k n;rw [if_neg (by omega),Int.toNat_natCast]
def qjC (n d:Nat) (hd:d<=n) (o:Option Int):sIx n d o<=n:=by
 cases o with
 |none=>exact hd
 |some v=>
  show (if v<0 then (v+(n:Int)).toNat else min v.toNat n)<=n;by_cases hv:v<0
  ·rw [if_pos hv];omega
  ·rw [if_neg hv];exact Nat.min_le_right _ _
def L0 (v:Int) (n d:Nat):(if v<0 then max (v+(n:Int)) 0 else min v (n:Int))=((sIx n d (some v):Nat):Int):=by
 show (if v<0 then max (v+(n:Int)) 0 else min v (n:Int))=(((if v<0 then (v+(n:Int)).toNat else min v.toNat n):Nat):Int);by_cases hv:v<0
 ·simp only [if_pos hv];omega
 ·simp only [if_neg hv];omega
def LD (lo hi:Option Int) (n:Nat):Builtin.Slice.sliceAdjust lo hi 1 (n:Int)=(((sIx n 0 lo:Nat):Int),((sIx n n hi:Nat):Int)):=by
 have h1:¬ ((1:Int)<0):=by omega
 unfold Builtin.Slice.sliceAdjust;simp only [h1,if_false];refine Prod.ext ?_ ?_
 ·cases lo with
  |none=>rfl
  |some v=>exact L0 v n 0
 ·cases hi with
  |none=>rfl
  |some v=>exact L0 v n n
def LU (i j:Nat):Builtin.Slice.slicePlaces (i:Int) (j:Int) 1=j-i:=by
 unfold Builtin.Slice.slicePlaces;have h1:(1:Int) > 0:=by omega
 simp only [h1,if_true,Int.ediv_one];split<;>omega
def V6 {v:Value} {o:Option Int} {Q:Option Int->Shared->Prop} (p:IsPart v o) (h:Q o s):wpAny (model prog w) A (Builtin.Slice.slicePartIndex v) Q E s:=by
 cases p with
 |none=>exact slicePart_none h
 |int i t=>exact slicePart_int h
def ZZ {sl:Addr} {vl vu:Value} {lo hi:Option Int} {n:Nat} {Q:Int×Int×Nat->Shared->Prop} (hs:s.heap.IsSliceOf sl vl vu .none) (pl:IsPart vl lo) (pu:IsPart vu hi)
  (h:Q (((sIx n 0 lo:Nat):Int),1,sIx n n hi-sIx n 0 lo) s):wpAny (model prog w) A (Builtin.Slice.sliceApplied (.ref sl) (pure (n:Int))) Q E s:=by
 obtain ⟨os,hos,hcs,hds⟩:=id hs;unfold Builtin.Slice.sliceApplied Builtin.Slice.sliceFields;refine wpAny_bind (wpAny_bind (wpAny_field hos hds (x:=vl) rfl (wpAny_bind (wpAny_field hos hds (x:=vu) rfl (wpAny_bind (wpAny_field hos hds (x:=.none) rfl (wpAny_pure ?_)))))));refine wpAny_bind (slicePart_none ?_);show wpAny _ _ (if ((1:Int)==0)=true then _ else _) _ _ s;rw [if_neg (by decide)];refine wpAny_bind (V6 pl (wpAny_bind (V6 pu (wpAny_bind (wpAny_pure ?_)))));show wpAny _ _ (match Builtin.Slice.sliceAdjust lo hi 1 (n:Int) with|(lo,hi)=>pure (lo,(1:Int),Builtin.Slice.slicePlaces lo hi 1)) _ _ s;rw [LD lo hi n];show wpAny _ _ (pure (((sIx n 0 lo:Nat):Int),(1:Int),Builtin.Slice.slicePlaces ((sIx n 0 lo:Nat):Int) ((sIx n n hi:Nat):Int) 1)) _ _ s;rw [LU];exact wpAny_pure h
def qbn (xs:Array Value) (i k:Nat):((List.range k).filterMap λ(m:Nat)=>xs[((i:Int)+(m:Int)*1).toNat]?).toArray=((xs.toList.drop i).take k).toArray:=by
 have e:(λ(m:Nat)=>xs[((i:Int)+(m:Int)*1).toNat]?)=λm=>xs[i+m]?:=by
  funext m;have:((i:Int)+(m:Int)*1).toNat=i+m:=by omega
  rw [this]
 rw [e];have:=pick_run xs i k;rw [List.filterMap_map] at this;have e2:((λx=>xs[x]?)∘λx=>i+x)=λm=>xs[i+m]?:=rfl;rw [e2] at this;rw [this]
def UQ {t sl:Addr} {items:Array Value} {vl vu:Value} {lo hi:Option Int} {Q:Value->Shared->Prop} (ht:IsTup s.heap t items) (hs:s.heap.IsSliceOf sl vl vu .none) (pl:IsPart vl lo) (pu:IsPart vu hi)
  (hw:¬ (sIx items.size 0 lo=0/\sIx items.size items.size hi=items.size))
  (h:Q (.ref s.heap.objs.size) { s with heap:=s.heap.push { cls:=.type "tuple",data:=.seq ((items.toList.drop (sIx items.size 0 lo)).take (sIx items.size items.size hi-sIx items.size 0 lo)).toArray } })
  (hsz:items.size<=sizeLine):wpAny (model prog w) A (getItem (.ref t) (.ref sl)) Q E s:=by
 have htake:sizeOk (.seq ((items.toList.drop (sIx items.size 0 lo)).take (sIx items.size items.size hi-sIx items.size 0 lo)).toArray):=by
  show ((items.toList.drop (sIx items.size 0 lo)).take (sIx items.size items.size hi-sIx items.size 0 lo)).toArray.size<=sizeLine;rw [size_toArray,List.length_take,List.length_drop,Array.length_toList];omega
 have hj:sIx items.size items.size hi<=items.size:=qjC _ _ (Nat.le_refl _) hi;obtain ⟨os,hos,hcs,hds⟩:=id hs;have hTs:s.TypeIs (.ref sl) "slice" := ⟨os,hos,hcs⟩
 unfold getItem
 try with_reducible refine wpAny_holding ?_
 first|refine wpAny_bind (wpAny_pure ?_)|skip
 refine wpAny_bind (wpAny_sequenceKey ht.typeIs (by decide) ?_);refine wpAny_bind (wpAny_callSpecial?_slot (name:=Str.ofString "__getitem__") ht.typeIs PyProof.Rows.slot_tuple_getitem
  (wpAny_call_entry PyProof.Rows.slot_tuple_getitem ht.typeIs entry_tuple_getitem ?_ (args_tuple_getitem _ _)))
 show wpAny _ _ (Builtin.Tuple.tupleItemsOf (.ref t) >>= _) _ _ s;refine wpAny_bind (tupleItemsOf_ ht ?_);refine wpAny_bind (wpAny_typeOf hTs ?_);rw [if_pos (by decide)];refine wpAny_bind (ZZ hs pl pu ?_);have hno:¬ ((((sIx items.size 0 lo:Nat):Int)==0&&(1:Int)==1&&(sIx items.size items.size hi-sIx items.size 0 lo)==items.size)=true):=by
  intro q;rw [Bool.and_eq_true,Bool.and_eq_true] at q;have q1:((sIx items.size 0 lo:Nat):Int)=0:=eq_of_beq q.1.1;have q2:sIx items.size items.size hi-sIx items.size 0 lo=items.size:=eq_of_beq q.2;exact hw ⟨by omega,by omega⟩
 show wpAny _ _ (if (((sIx items.size 0 lo:Nat):Int)==0&&(1:Int)==1&&(sIx items.size items.size hi-sIx items.size 0 lo)==items.size)=true then _ else _) _ _ s;rw [if_neg hno,qbn]
 first
  |exact wpAny_bind (m:=Builtin.Tuple.tupleExact _) (wpAny_newObj_type (wpAny_pure ⟨_,rfl,wpAny_pure h⟩) htake)
  |exact wpAny_bind (m:=Builtin.Tuple.tupleExact _) (wpAny_newObj_type (wpAny_bind (wpAny_pure (wpAny_pure ⟨_,rfl,wpAny_pure h⟩))) htake)
  |exact wpAny_bind (wpAny_bind (m:=Builtin.Tuple.tupleExact _) (wpAny_newObj_type (wpAny_pure (wpAny_pure ⟨_,rfl,wpAny_pure h⟩)) htake))
  |exact wpAny_bind (wpAny_bind (m:=Builtin.Tuple.tupleExact _) (wpAny_newObj_type (wpAny_pure ⟨_,rfl,wpAny_pure h⟩) htake))
end
end HT
namespace L2
open PySem PySem.Spec PyProof.Rows
abbrev TO:=St->Hp->(Option Int->Hp->Prop)->Prop
def PO (X:Cx) (e:Option Expr) (t:TO):Prop:=
 ∀ (pins:List (Addr×Obj)) (s:Shared) (σ:St) (H:Hp) (Q:Option Int->Hp->Prop),Inv X pins σ H s->t σ H Q ->
  wpAny (model X.prog X.w) X.A (evalPart e X.env) (λu s'=>∃ o H',Inv X pins σ H' s'/\IsPart u o/\Q o H') X.xe s
def qe9:TO:=λ_ H Q=>Q none H
def qmz (t:TE):TO:=λσ H Q=>t σ H λx H1=>∃ i,x=.int i/\Q (some i) H1
section
variable {X:Cx} {e:Expr} {te:TE} {lo hi:Option Expr} {tl th:TO} {pos p2:Pos}
def qeU:PO X none qe9:=by
 intro pins s σ H Q I h;rw [evalPart_none];exact wpAny_pure ⟨none,H,I,.none,h⟩
def qfw (h:PE X e te):PO X (some e) (qmz te):=by
 intro pins s σ H Q I hw;rw [evalPart_some];refine thn (h pins s σ H _ I hw) λu s1 ⟨x,H1,I1,r1,q1⟩=>?_;obtain ⟨i,rfl,q⟩:=q1;obtain ⟨t,rfl⟩:=r1;exact ⟨some i,H1,I1,.int i t,q⟩
def SlR (X:Cx) (r:V->Option Int->Option Int->Hp->VK->Prop):Prop:=
 ∀ (pins:List (Addr×Obj)) (s:Shared) (σ:St) (H:Hp) (x:V) (v vl vu:Value) (lo hi:Option Int) (sl:Addr) (Q:VK),Inv X pins σ H s->jk x v->s.heap.IsSliceOf sl vl vu .none->IsPart vl lo->IsPart vu hi->r x lo hi H Q ->
  ∃ T id,typeLookup (.type T) "__getitem__" = pure (some (.builtin id))/\s.TypeIs v T/\wpAny (model X.prog X.w) X.A (getItem v (.ref sl)) (EP X pins σ Q) X.xe s
def SlR.or {r r':V->Option Int->Option Int->Hp->VK->Prop} (h:SlR X r) (h':SlR X r'):SlR X (λx lo hi H Q=>r x lo hi H Q\/r' x lo hi H Q):=by
 intro pins s σ H x v vl vu lo hi sl Q I rx hs pl pu q;rcases q with q|q
 ·exact h pins s σ H x v vl vu lo hi sl Q I rx hs pl pu q
 ·exact h' pins s σ H x v vl vu lo hi sl Q I rx hs pl pu q
def tSl (r:V->Option Int->Option Int->Hp->VK->Prop) (te:TE) (tl th:TO):TE:=λσ H Q=>te σ H λx H1=>tl σ H1 λl H2=>th σ H2 λu H3=>r x l u H3 Q
def qbB {r:V->Option Int->Option Int->Hp->VK->Prop} (hr:SlR X r) (he:PE X e te) (hl:PO X lo tl) (hu:PO X hi th):PE X (.Subscript e (.Slice lo hi none p2) pos) (tSl r te tl th):=by
 intro pins s σ H Q I h;refine Subscript_ (thn (he pins s σ H _ I h) λv s1 ⟨x,H1,I1,r1,q1⟩=>?_);refine wpAny_Slice (thn (hl pins s1 σ H1 _ I1 q1) λvl s2 ⟨l,H2,I2,pl,q2⟩=>thn (hu pins s2 σ H2 _ I2 q2) λvu s3 ⟨u,H3,I3,pu,q3⟩=>?_);rw [evalPart_none];refine wpAny_pure ?_;have I4:Inv X pins σ H3 { s3 with heap:=s3.heap.push { cls:=.type "slice",data:=.fields #[vl,vu,.none] } }:=I3.kept (t':=s3.toks) λb ob q=>Heap.get?_push_of_some _ q;obtain ⟨T,id,hT,ht,hg⟩:=hr pins { s3 with heap:=s3.heap.push { cls:=.type "slice",data:=.fields #[vl,vu,.none] } } σ H3 x v vl vu l u s3.heap.objs.size Q I4 r1 (Heap.IsSliceOf.new ..) pl pu q3;show wpAny (model X.prog X.w) X.A (subscriptTail e (.Slice lo hi none p2) v (.ref s3.heap.objs.size)) (EP X pins σ Q) X.xe { s3 with heap:=s3.heap.push { cls:=.type "slice",data:=.fields #[vl,vu,.none] } };exact tail_any (ops:=[.ref s3.heap.objs.size,v]) ht hT hg (by with_unfolding_all rfl)
def qed (xs:List V) (lo hi:Option Int):List V:=(xs.drop (HT.sIx xs.length 0 lo)).take (HT.sIx xs.length xs.length hi-HT.sIx xs.length 0 lo)
def EV (xs:List V) (lo hi:Option Int):(qed xs lo hi).length<=xs.length:=by
 unfold qed;rw [List.length_take,List.length_drop];omega
def qoV (K:Frg):V->Option Int->Option Int->Hp->VK->Prop:=λx lo hi H Q=>∃ a xs,x=.ref a/\SqT K H a xs /\
 ¬ (HT.sIx xs.length 0 lo=0/\HT.sIx xs.length xs.length hi=xs.length)/\∀ p,H p=none->Q (.ref p) (upd H p (.tup (qed xs lo hi)))
def qh6:SlR X (qoV X.K):=by
 intro pins s σ H x v vl vu lo hi sl Q I rx hs pl pu h;obtain ⟨a,xs,rfl,hx,hw,q⟩:=h;cases rx;obtain ⟨its,r,ht,hz⟩:=I.tuple hx;have hlen:its.toArray.size=xs.length:=by rw [size_toArray];exact r.length.symm
 refine ⟨"tuple",_,PyProof.Rows.slot_tuple_getitem.lookup,ht.typeIs,?_⟩;refine HT.UQ ht hs pl pu (by rw [hlen];exact hw) ?_ (by rw [hlen];exact hz);rw [hlen];refine ⟨.ref s.heap.objs.size,_,I.laid (t':=s.toks) (o:=.tup (qed xs lo hi)) (λb ob q=>Heap.get?_push_of_some _ q) (Nat.le_refl _) ?_,rfl,q _ (I.hok.fresh (Nat.le_refl _))⟩;exact ⟨Nat.le_trans (EV xs lo hi) hz,_,(r.drop (HT.sIx xs.length 0 lo)).take (HT.sIx xs.length xs.length hi-HT.sIx xs.length 0 lo),JH.new _ _⟩
def qeq (K:Frg):R2:=λx y H Q=>∃ a b xs ys,x=.ref a/\y=.ref b/\SqT K H a xs/\SqT K H b ys/\xs≠[]/\xs.length+ys.length<=sizeLine /\
 (ys=[]->Q (.ref a) H)/\(ys≠[]->∀ p,H p=none->Q (.ref p) (upd H p (.tup (xs++ys))))
def zj.nil_iff {xs:List V} {us:List Value} (r:zj xs us):us=[]↔xs=[]:=by
 cases r with
 |nil=>simp
 |cons _ _=>simp
def qaW:OpR X (binaryOp .Add) (qeq X.K):=by
 intro pins s σ H x y v u Q I rx ry h;obtain ⟨a,b,xs,ys,rfl,rfl,ha,hb,hx,hz,q1,q2⟩:=h;cases rx;cases ry;obtain ⟨its,r1,p1,_⟩:=I.tuple ha;obtain ⟨its2,r2,p2,_⟩:=I.tuple hb;refine HT.qf4 p1 p2 (λz=>hx (r1.nil_iff.mp z)) (λz=>⟨.ref a,H,I,rfl,q1 (r2.nil_iff.mp z)⟩) (λz=>?_) (by rw [← r1.length,← r2.length];exact hz);refine ⟨.ref s.heap.objs.size,_,I.laid (t':=s.toks) (o:=.tup (xs++ys)) (λb ob q=>Heap.get?_push_of_some _ q) (Nat.le_refl _) ?_,rfl,q2 (λw=>z (r2.nil_iff.mpr w)) _ (I.hok.fresh (Nat.le_refl _))⟩;exact ⟨by rw [length_append];exact hz,_,r1.append r2,JH.new _ _⟩
end
def ixN (n:Nat) (i:Int):Option Nat:=if 0<=i then (if i<n then some i.toNat else none) else if -(n:Int)<=i then some (i+n).toNat else none
def atI {α:Type} (xs:List α) (i:Int):Option α:=(ixN xs.length i).bind λj=>xs[j]?
def NT {n:Nat} {i:Int} {j:Nat} (h:ixN n i=some j):seqIndex? i n=some j/\j<n/\-(n:Int)<=i/\i<n:=by
 unfold ixN at h;by_cases h0:0<=i
 ·rw [if_pos h0] at h;by_cases h1:i<n
  ·rw [if_pos h1] at h;have e:i.toNat=j:=Option.some.inj h;exact ⟨by rw [seqIndex_of h0 h1,e],by omega,by omega,h1⟩
  ·rw [if_neg h1] at h;cases h
 ·rw [if_neg h0] at h;by_cases h1:-(n:Int)<=i
  ·rw [if_pos h1] at h;have e:(i+n).toNat=j:=Option.some.inj h;exact ⟨by rw [seqIndex_neg (by omega) h1,e],by omega,h1,by omega⟩
  ·rw [if_neg h1] at h;cases h
def SJ {α:Type} {xs:List α} {i:Int} {v:α} (h:atI xs i=some v):∃ j,seqIndex? i xs.length=some j/\xs[j]?=some v/\j<xs.length/\-(xs.length:Int)<=i/\i<xs.length:=by
 unfold atI at h;cases e:ixN xs.length i with
 |none=>rw [e] at h;cases h
 |some j=>
  rw [e] at h;obtain ⟨h1,h2,h3,h4⟩:=NT e;exact ⟨j,h1,h,h2,h3,h4⟩
def R0 (b:Expr):Prop:=∀ o i,subscripted b false o i=operate [o,i] (getItem o i)
def IxR (X:Cx) (r:R2):Prop:=
 ∀ (value slice:Expr) (pins:List (Addr×Obj)) (s:Shared) (σ:St) (H:Hp) (x y:V) (v u:Value) (Q:VK),Inv X pins σ H s->jk x v->jk y u->r x y H Q ->
  subscripted slice false v u=operate [v,u] (getItem v u)->wpAny (model X.prog X.w) X.A (subscriptTail value slice v u) (EP X pins σ Q) X.xe s
def MtR (X:Cx) (id:String) (r:V->List V->Hp->VK->Prop):Prop:=
 ∀ (pins:List (Addr×Obj)) (s:Shared) (σ:St) (H:Hp) (x:V) (xs:List V) (v:Value) (us:List Value) (Q:VK),Inv X pins σ H s->jk x v->zj xs us->r x xs H Q ->
  wpAny (model X.prog X.w) X.A (call (.builtin id) (v::us)) (EP X pins σ Q) X.xe s
section
variable {X:Cx} {a b:Expr} {ta tb:TE} {pos:Pos}
def IxR.or {r r':R2} (h:IxR X r) (h':IxR X r'):IxR X (λx y H Q=>r x y H Q\/r' x y H Q):=by
 intro value slice pins s σ H x y v u Q I rx ry q hs;rcases q with q|q
 ·exact h value slice pins s σ H x y v u Q I rx ry q hs
 ·exact h' value slice pins s σ H x y v u Q I rx ry q hs
def qmD {r:R2} (hr:IxR X r) (ha:PE X a ta) (hb:PE X b tb) (hs:R0 b):PE X (.Subscript a b pos) (tOp r ta tb):=by
 intro pins s σ H Q I h;exact Subscript_ (qnh ha hb I h λv u s2 x y H2 I2 rx ry q=>hr a b pins s2 σ H2 x y v u Q I2 rx ry q (hs _ _))
def qoq (K:Frg):R2:=λx y H Q=>∃ p xs i v,x=.ref p/\y=.int i/\SqL K H p xs/\atI xs i=some v/\Q v H
def qon (K:Frg):R2:=λx y H Q=>∃ p xs i v,x=.ref p/\y=.int i/\SqT K H p xs/\atI xs i=some v/\Q v H
def qnY:R2:=λx y H Q=>∃ z i c,x=.str z/\y=.int i/\z.length<=sizeLine/\atI z.cps.toList i=some c/\Q (.str ⟨#[c]⟩) H
def qfQ:IxR X (qoq X.K):=by
 intro value slice pins s σ H x y v u Q I rx ry h hs;obtain ⟨p,xs,i,z,rfl,rfl,hq,he,q⟩:=h;cases rx;obtain ⟨t,rfl⟩:=ry;obtain ⟨its,r,pl,hz⟩:=I.list hq;obtain ⟨j,h1,h2,h3,h4,h5⟩:=SJ he;obtain ⟨w,ew,rw'⟩:=r.get h2;have hl:=r.length;have hn:=RA;have fin:EP X pins σ Q w s:=⟨z,H,I,rw',q⟩
 by_cases h0:0<=i
 ·have hj:i.toNat=j:=by
   rw [seqIndex_of h0 h5] at h1;exact Option.some.inj h1
  exact item_listR pl.isList h0 (by omega) (by rw [hj];simpa using ew) fin hs
 ·have hj:(i+(its.toArray.size:Int)).toNat=j:=by
   rw [seqIndex_neg (by omega) h4] at h1;rw [size_toArray,← hl];exact Option.some.inj h1
  exact subscriptTail_builtinR (x:=w) pl.isList.typeIs slot_list_getitem.lookup
   (wpAny_getItem_list_neg (Q:=λr s'=>r=w/\EP X pins σ Q r s') pl.isList (by omega) (by rw [size_toArray]<;>omega) (by omega) (by rw [hj];simpa using ew) ⟨rfl,fin⟩) hs
def qiW:IxR X (qon X.K):=by
 intro value slice pins s σ H x y v u Q I rx ry h hs;obtain ⟨p,xs,i,z,rfl,rfl,hq,he,q⟩:=h;cases rx;obtain ⟨t,rfl⟩:=ry;obtain ⟨its,r,pl,hz⟩:=I.tuple hq;obtain ⟨j,h1,h2,h3,h4,h5⟩:=SJ he;obtain ⟨w,ew,rw'⟩:=r.get h2;have hl:=r.length;have hn:=RA;have fin:EP X pins σ Q w s:=⟨z,H,I,rw',q⟩
 exact subscriptTail_builtinR (x:=w) pl.typeIs slot_tuple_getitem.lookup
  (getItem_tuple (j:=j) (Q:=λr s'=>r=w/\EP X pins σ Q r s') pl (by omega) (by omega) (by rw [size_toArray,← hl];exact h1) (by simpa using ew) ⟨rfl,fin⟩) hs
def qjW:IxR X qnY:=by
 intro value slice pins s σ H x y v u Q I rx ry h hs;obtain ⟨z,i,c,rfl,rfl,hz,he,q⟩:=h;obtain ⟨t,rfl⟩:=rx;obtain ⟨t',rfl⟩:=ry;obtain ⟨j,h1,h2,h3,h4,h5⟩:=SJ he;have hl:z.cps.toList.length=z.length:=by simp [Str.length]
 rw [hl] at h1 h4 h5;have hn:=RA;exact tail_any (typeIs_str s z t) slot_str_getitem.lookup (getItem_str (c:=c) (by
  have e1:decide (i < -(2 ^ 63:Int))=false:=decide_eq_false (by omega);have e2:decide (i ≥ 2 ^ 63)=false:=decide_eq_false (by omega);rw [e1,e2,Bool.or_false]) (by rw [h1];simpa using h2) ⟨.str ⟨#[c]⟩,H,I.tok _,⟨_,rfl⟩,q⟩) hs
def rIx (K:Frg):R2:=λx y H Q=>qoq K x y H Q\/qon K x y H Q\/qnY x y H Q
def qgR:IxR X (rIx X.K):=qfQ.or (qiW.or qjW)
def K8 (its:List Value) (n j:Nat) (u:Value):Obj.mapSeq (·.setIfInBounds j u) { cls:=.type "list",data:=.seq its.toArray n }={ cls:=.type "list",data:=.seq (its.set j u).toArray n }:=by
 simp [Obj.mapSeq]
def Inv.lst {pins:List (Addr×Obj)} {σ:St} {H:Hp} {s:Shared} {p:Addr} {xs:List V} (I:Inv X pins σ H s) (h:H p=some (.lst xs)) :
  ∃ (its:List Value) (n:Nat),zj xs its/\s.heap.get? p=some { cls:=.type "list",data:=.seq its.toArray n }/\xs.length<=sizeLine:=by
 obtain ⟨z,its,n,r,e⟩:=I.hok p _ h;exact ⟨its,n,r,e,z⟩
def Inv.lstUpd {pins:List (Addr×Obj)} {σ:St} {H:Hp} {s:Shared} {p:Addr} {xs ys:List V} {its its':List Value} {n n':Nat} {f:Obj->Obj} (I:Inv X pins σ H s) (h:H p=some (.lst xs))
  (ho:s.heap.get? p=some { cls:=.type "list",data:=.seq its.toArray n }) (hf:f { cls:=.type "list",data:=.seq its.toArray n }={ cls:=.type "list",data:=.seq its'.toArray n' }) (r:zj ys its') (hz:ys.length<=sizeLine) (t:Nat) :
  Inv X pins σ (upd H p (.lst ys)) { s with heap:=s.heap.update p f,toks:=t }:=by
 have e:(s.heap.update p f).get? p=some { cls:=.type "list",data:=.seq its'.toArray n' }:=by
  rw [Heap.get?_update_self f ho (by rw [hf]<;>rfl),hf]
 refine I.write (x:=p) (e:=p) (by rw [h];trivial) (.inl rfl) (λb u hb q=>(Heap.get?_update_other _ _ (Ne.symm hb)).trans q) ⟨_,e⟩ ?_;exact ⟨hz,its',n',r,e⟩
def ql2:V->V->V->Hp->(Hp->Prop)->Prop:=λo i v H Q=>∃ p xs k j,o=.ref p/\i=.int k/\H p=some (.lst xs)/\ixN xs.length k=some j/\Q (upd H p (.lst (xs.set j v)))
def qcl:qnZ X ql2:=by
 intro pins s σ H o i v ov iv u Q I ro ri rv h;obtain ⟨p,xs,k,j,rfl,rfl,hp,hj,q⟩:=h;cases ro;obtain ⟨t,rfl⟩:=ri;obtain ⟨its,n,r,ho,hz⟩:=I.lst hp;obtain ⟨h1,h2,h3,h4⟩:=NT hj;have hl:=r.length;have hn:=RA;have I':Inv X pins σ (upd H p (.lst (xs.set j v))) { s with heap:=s.heap.update p (Obj.mapSeq (·.setIfInBounds j u)) }:=
  I.lstUpd hp ho (K8 its n j u) (r.set rv j) (by rw [List.length_set];exact hz) s.toks
 by_cases h0:0<=k
 ·have hk:k.toNat=j:=by
   rw [seqIndex_of h0 h4] at h1;exact Option.some.inj h1
  exact PySem.W.ki_setAt ho h0 (by omega) (by rw [size_toArray,← hl];exact h4) (by rw [hk];exact ⟨_,I',q⟩)
 ·have hk:(k+(its.toArray.size:Int)).toNat=j:=by
   rw [seqIndex_neg (by omega) h3] at h1;rw [size_toArray,← hl];exact Option.some.inj h1
  exact PySem.W.ki_setBack ho (by omega) (by rw [size_toArray,← hl];exact h3) (by omega) (by rw [hk];exact ⟨_,I',q⟩)
def RT (lo hi:Option Int) (n:Nat):(sliceBounds lo hi none n).1=((HT.sIx n 0 lo:Nat):Int)/\(sliceBounds lo hi none n).2.1=((HT.sIx n n hi:Nat):Int)/\(sliceBounds lo hi none n).2.2=1:=by
 refine ⟨?_,?_,rfl⟩
 ·cases lo with
  |none=>simp [sliceBounds,HT.sIx]
  |some i=>
   simp only [sliceBounds,HT.sIx,Option.getD_none,show (1:Int) > 0 by decide,if_true];by_cases h:i<0
   ·simp only [h,if_true]<;>omega
   ·simp only [h,if_false]<;>omega
 ·cases hi with
  |none=>simp [sliceBounds,HT.sIx]
  |some i=>
   simp only [sliceBounds,HT.sIx,Option.getD_none,show (1:Int) > 0 by decide,if_true];by_cases h:i<0
   ·simp only [h,if_true]<;>omega
   ·simp only [h,if_false]<;>omega
def XR (its:List Value) (lo hi:Option Int):slicePick its.toArray lo hi none=((its.drop (HT.sIx its.length 0 lo)).take (HT.sIx its.length its.length hi-HT.sIx its.length 0 lo)).toArray:=by
 obtain ⟨h1,h2,h3⟩:=RT lo hi its.toArray.size;unfold slicePick;rw [h1,h2,h3];simp only [sliceRange_one,pick_run,size_toArray]<;>rfl
def qoS (K:Frg):V->Option Int->Option Int->Hp->VK->Prop:=λx lo hi H Q=>∃ a xs,x=.ref a/\SqL K H a xs/\∀ p,H p=none->Q (.ref p) (upd H p (.lst (qed xs lo hi)))
def qgb:SlR X (qoS X.K):=by
 intro pins s σ H x v vl vu lo hi sl Q I rx hs pl pu h;obtain ⟨a,xs,rfl,hx,q⟩:=h;cases rx;obtain ⟨its,r,ht,hz⟩:=I.list hx;have hlen:=r.length;refine ⟨"list",_,slot_list_getitem.lookup,ht.isList.typeIs,?_⟩;refine wpAny_getItem_list_slice ht.isList hs pl pu .none (by simp) ?_ (by rw [size_toArray]<;>omega);rw [XR,← hlen];refine ⟨.ref s.heap.objs.size,_,I.laid (t':=s.toks) (o:=.lst (qed xs lo hi)) (λb ob q=>Heap.get?_push_of_some _ q) (Nat.le_refl _) ?_,rfl,q _ (I.hok.fresh (Nat.le_refl _))⟩;exact ⟨Nat.le_trans (EV xs lo hi) hz,_,0,(r.drop (HT.sIx xs.length 0 lo)).take (HT.sIx xs.length xs.length hi-HT.sIx xs.length 0 lo),Heap.get?_push_size _ rfl⟩
def D8:V->Bool
 |.non=>true
 |.bl _=>true
 |.int _=>true
 |.str _=>true
 |_=>false
def eqV:V->V->Bool
 |.non,.non=>true
 |.bl a,.bl b=>a==b
 |.bl a,.int b=>(if a then 1 else 0)==b
 |.int a,.bl b=>a==(if b then 1 else 0)
 |.int a,.int b=>a==b
 |.str a,.str b=>a==b
 |_,_=>false
def qiK {A:Around} {s:Shared} {y x:V} {u v:Value} (ry:jk y u) (rx:jk x v) (fy:D8 y=true) (fx:D8 x=true):SeqAt.EqAt A s u v (eqV y x):=by
 cases y with
 |non=>
  cases ry;cases x with
  |non=>cases rx;exact SeqAt.EqAt.same _
  |bl b=>cases rx;exact SeqAt.EqAt.none_bool b
  |int b=>obtain ⟨t,rfl⟩:=rx;exact SeqAt.EqAt.none_int b t
  |str b=>obtain ⟨t,rfl⟩:=rx;exact SeqAt.EqAt.none_str b t
  |_=>exact absurd (show false=true from fx) Bool.false_ne_true
 |bl a=>
  cases ry;cases x with
  |non=>cases rx;exact SeqAt.EqAt.bool_none a
  |bl b=>cases rx;exact SeqAt.EqAt.bool_bool a b
  |int b=>obtain ⟨t,rfl⟩:=rx;exact SeqAt.EqAt.bool_int a b t
  |str b=>obtain ⟨t,rfl⟩:=rx;exact SeqAt.EqAt.bool_str a b t
  |_=>exact absurd (show false=true from fx) Bool.false_ne_true
 |int a=>
  obtain ⟨t',rfl⟩:=ry;cases x with
  |non=>cases rx;exact SeqAt.EqAt.int_none a t'
  |bl b=>cases rx;exact SeqAt.EqAt.int_bool a t' b
  |int b=>obtain ⟨t,rfl⟩:=rx;exact SeqAt.EqAt.int_int a t' b t
  |str b=>obtain ⟨t,rfl⟩:=rx;exact SeqAt.EqAt.int_str a t' b t
  |_=>exact absurd (show false=true from fx) Bool.false_ne_true
 |str a=>
  obtain ⟨t',rfl⟩:=ry;cases x with
  |non=>cases rx;exact SeqAt.EqAt.str_none a t'
  |bl b=>cases rx;exact SeqAt.EqAt.str_bool a t' b
  |int b=>obtain ⟨t,rfl⟩:=rx;exact SeqAt.EqAt.str_int a t' b t
  |str b=>obtain ⟨t,rfl⟩:=rx;exact SeqAt.EqAt.str_str a t' b t
  |_=>exact absurd (show false=true from fx) Bool.false_ne_true
 |_=>exact absurd (show false=true from fy) Bool.false_ne_true
def eqU (x:V) (u:Value):Bool:=match u with
 |.none=>eqV .non x
 |.bool b=>eqV (.bl b) x
 |.int i _=>eqV (.int i) x
 |.str z _=>eqV (.str z) x
 |_=>false
def qdy {x y:V} {u:Value} (r:jk y u) (f:D8 y=true):eqU x u=eqV y x:=by
 cases y with
 |non=>cases r;rfl
 |bl b=>cases r;rfl
 |int i=>obtain ⟨t,rfl⟩:=r;rfl
 |str z=>obtain ⟨t,rfl⟩:=r;rfl
 |_=>exact absurd (show false=true from f) Bool.false_ne_true
def DX {x:V}:∀ {xs:List V} {us:List Value},zj xs us->xs.all D8=true->us.any (eqU x)=xs.any λy=>eqV y x
 |_,_,.nil,_=>rfl
 |y::xs,u::us,.cons r t,f=>by
  rw [List.all_cons,Bool.and_eq_true] at f;rw [List.any_cons,List.any_cons,qdy r f.1,DX t f.2]
def YY {A:Around} {s:Shared} {x:V} {v:Value} (rx:jk x v) (fx:D8 x=true):∀ {xs:List V} {us:List Value},zj xs us->xs.all D8=true->∀ u∈us,SeqAt.EqAt A s u v (eqU x u)
 |_,_,.nil,_=>λu hu=>by cases hu
 |y::xs,u::us,.cons r t,f=>λu' hu=>by
  rw [List.all_cons,Bool.and_eq_true] at f;rcases mem_cons.mp hu with rfl|hu
  ·rw [qdy r f.1];exact qiK r rx f.1 fx
  ·exact YY rx fx t f.2 u' hu
def inV (x:V) (xs:List V):Bool:=xs.any λy=>eqV y x
def rIn (K:Frg) (neg:Bool):R2:=λx y H Q=>∃ p xs,y=.ref p/\(SqL K H p xs\/SqT K H p xs)/\D8 x=true/\xs.all D8=true/\Q (.bl (if neg then !inV x xs else inV x xs)) H
def qaw:OpR X (compareOp .In) (rIn X.K false):=by
 intro pins s σ H x y v u Q I rx ry h;obtain ⟨p,xs,rfl,hq,fx,fs,q⟩:=h;cases ry;rcases hq with hq|hq
 ·obtain ⟨its,r,pl,hz⟩:=I.list hq;refine SeqAt.in_listAt (eqU x) pl.isList (λw hw=>YY rx fx r fs w (by simpa using hw)) ⟨.bl _,H,I,rfl,?_⟩;rw [show its.toArray.any (eqU x)=its.any (eqU x) by simp,DX r fs];exact q
 ·obtain ⟨its,r,pl,hz⟩:=I.tuple hq;refine SeqAt.in_tupleAt (eqU x) pl (λw hw=>YY rx fx r fs w (by simpa using hw)) ⟨.bl _,H,I,rfl,?_⟩;rw [show its.toArray.any (eqU x)=its.any (eqU x) by simp,DX r fs];exact q
def C4:OpR X (compareOp .NotIn) (rIn X.K true):=by
 intro pins s σ H x y v u Q I rx ry h;obtain ⟨p,xs,rfl,hq,fx,fs,q⟩:=h;cases ry;rcases hq with hq|hq
 ·obtain ⟨its,r,pl,hz⟩:=I.list hq;refine SeqAt.notIn_listAt (eqU x) pl.isList (λw hw=>YY rx fx r fs w (by simpa using hw)) ⟨.bl _,H,I,rfl,?_⟩;rw [show its.toArray.any (eqU x)=its.any (eqU x) by simp,DX r fs];exact q
 ·obtain ⟨its,r,pl,hz⟩:=I.tuple hq;refine SeqAt.notIn_tupleAt (eqU x) pl (λw hw=>YY rx fx r fs w (by simpa using hw)) ⟨.bl _,H,I,rfl,?_⟩;rw [show its.toArray.any (eqU x)=its.any (eqU x) by simp,DX r fs];exact q
def RM:JM X (.type "list") (λxs H Q=>∃ p ys,xs=[.ref p]/\(SqL X.K H p ys\/SqT X.K H p ys)/\∀ l,H l=none->Q (.ref l) (upd H l (.lst ys))):=by
 intro pins s σ H xs us Q I r h;obtain ⟨p,ys,rfl,hq,q⟩:=h;obtain ⟨u,rfl,rx⟩:=W4 r;cases rx;have fin:∀ (its:List Value),zj ys its->ys.length<=sizeLine->∀ (h':Heap) (c':Nat),(∀ b o',s.heap.get? b=some o'->h'.get? b=some o') ->
   h'.get? s.heap.objs.size=some { cls:=.type "list",dict:=none,data:=.seq its.toArray c',slots:=#[] }->EP X pins σ Q (.ref s.heap.objs.size) { s with heap:=h' }:=λits r' hz h' c' kp e=>
  ⟨.ref s.heap.objs.size,_,I.laid (t':=s.toks) kp (Nat.le_refl _) (show Z5 X.prog X.w _ h' _ (.lst ys) from ⟨hz,its,c',r',e⟩),rfl,q _ (I.hok.fresh (Nat.le_refl _))⟩
 rcases hq with hq|hq
 ·obtain ⟨its,r',pl,hz⟩:=I.list hq;have hlen:=r'.length;obtain ⟨o,ho,hc,n,hd⟩:=pl.isList;exact call_list_seq p (.inl rfl) ho hc hd (λh' c' kp e=>fin its r' hz h' c' kp e) (by simp only [size_toArray]<;>omega)
 ·obtain ⟨its,r',pl,hz⟩:=I.tuple hq;have hlen:=r'.length;obtain ⟨o,ho,hc,n,hd⟩:=pl;exact call_list_seq p (.inr rfl) ho hc hd (λh' c' kp e=>fin its r' hz h' c' kp e) (by simp only [size_toArray]<;>omega)
def zo:JM X (.type "tuple") (λxs H Q=>∃ p ys,xs=[.ref p]/\((SqL X.K H p ys/\∀ l,H l=none->Q (.ref l) (upd H l (.tup ys)))\/(SqT X.K H p ys/\Q (.ref p) H))):=by
 intro pins s σ H xs us Q I r h;obtain ⟨p,ys,rfl,h⟩:=h;obtain ⟨u,rfl,rx⟩:=W4 r;cases rx;rcases h with ⟨hq,q⟩|⟨hq,q⟩
 ·obtain ⟨its,r',pl,hz⟩:=I.list hq;have hlen:=r'.length;refine call_tuple_list pl.isList (λh' kp=>?_) (by simp only [size_toArray]<;>omega);have I1:Inv X pins σ H { s with heap:=h' }:=I.kept (t':=s.toks) kp;have I2:Inv X pins σ (upd H h'.objs.size (.tup ys)) { s with heap:=h'.push { cls:=.type "tuple",data:=.seq its.toArray } }:=
   I1.laid (t':=s.toks) (λb o e=>Heap.get?_push_of_some _ e) (Nat.le_refl _) (show Z5 X.prog X.w _ _ _ (.tup ys) from ⟨hz,its,r',JH.new _ _⟩)
  exact ⟨.ref h'.objs.size,_,I2,rfl,q _ (I1.hok.fresh (Nat.le_refl _))⟩
 ·obtain ⟨its,r',pl,hz⟩:=I.tuple hq;exact call_tuple_same pl ⟨.ref p,H,I,rfl,q⟩
def tyV (K:Frg) (T:String) (x:V) (H:Hp):Prop:=match x with
 |.str _=>T="str"
 |.int _=>T="int"
 |.ref p=>(T="list"/\∃ xs,SqL K H p xs)\/(T="tuple"/\∃ o,K.lookup p=some o/\o.cls=.type "tuple"/\o.dict=none) ∨
   (T="dict"/\((∃ kvs,H p=some (.dK kvs))\/∃ kvs,H p=some (.dT kvs)))\/(T="set"/\∃ S n,H p=some (.set S n))
 |_=>False
def qkI {pins:List (Addr×Obj)} {σ:St} {H:Hp} {s:Shared} {T:String} {x:V} {v:Value} (I:Inv X pins σ H s) (r:jk x v) (ty:tyV X.K T x H) :
  s.TypeIs v T/\∀ a,v=.ref a->∃ ob,s.heap.get? a=some ob/\ob.dict=none:=by
 cases x with
 |str z=>
  obtain ⟨t,rfl⟩:=r;cases (show T="str" from ty);exact ⟨typeIs_str s z t,λ_ e=>nomatch e⟩
 |int i=>
  obtain ⟨t,rfl⟩:=r;cases (show T="int" from ty);exact ⟨typeIs_int s i t,λ_ e=>nomatch e⟩
 |ref p=>
  cases r;rcases ty with ⟨rfl,xs,hq⟩|⟨rfl,o,hk,hc,hd⟩|⟨rfl,hk⟩|⟨rfl,S,n,hk⟩
  ·obtain ⟨its,_,pl,_⟩:=I.list hq;refine ⟨pl.isList.typeIs,λa e=>?_⟩;cases e;obtain ⟨o,n,e,c,hd,_⟩:=pl;exact ⟨o,e,hd⟩
  ·refine ⟨⟨o,I.kIn p o hk,hc⟩,λa e=>?_⟩;cases e;exact ⟨o,I.kIn _ o hk,hd⟩
  ·have z:∃ o,s.heap.get? p=some o/\o.ExactDict:=by
    rcases hk with ⟨kvs,hk⟩|⟨kvs,hk⟩
    ·obtain ⟨_,_,_,_,o,_,_,e,ex,_⟩:=I.hok p _ hk;exact ⟨o,e,ex⟩
    ·obtain ⟨_,_,_,_,o,_,_,e,ex,_⟩:=I.hok p _ hk;exact ⟨o,e,ex⟩
   obtain ⟨o,e,ex⟩:=z;refine ⟨⟨o,e,ex.1⟩,λa e2=>?_⟩;cases e2;exact ⟨o,e,ex.2.1⟩
  ·obtain ⟨o,_,_,_,e,ex,_⟩:=I.hok p _ hk;refine ⟨⟨o,e,ex.1⟩,λa e2=>?_⟩;cases e2;exact ⟨o,e,ex.2.1⟩
 |_=>exact False.elim ty
def tBM (K:Frg) (T:String) (r:V->List V->Hp->VK->Prop) (to:TE) (t:TA):TE:=λσ H Q=>to σ H λx H1=>tyV K T x H1/\t σ H1 λxs H2=>r x xs H2 Q
variable {o e:Expr} {es:List Expr} {to:TE} {t:TA} {name:Str} {apos cpos:Pos} {T id:String} {r:V->List V->Hp->VK->Prop}
def qm2 (pa:PlainAttrs T) (slot:Slot T name id) (hty:typeOf (.builtin id)=pure (.type "method_descriptor")) (hm:MtR X id r) (ho:PE X o to) (ha:PA X (e::es) t)
  (hbase:attributeBase o name X.env (eval o X.env)=eval o X.env:=by rfl)
  (hfew:((backTo cpos (starEach (e::es) X.env)).all (λx=>!x.1)&&(backToKw cpos (keywordEach [] X.env)).all (λx=>x.1.isSome)
   && decide ((e::es).length+([]:List Keyword).length+(if ([]:List Keyword).isEmpty then 0 else 1)<30))=true:=by rfl)
  (hline:(apos.endLine==cpos.line)=true:=by rfl) (hs:starEach (e::es) X.env=(false,eval e X.env)::starEach es X.env:=by rfl) (hplain:(backTo cpos (starEach es X.env)).any (·.1)=false:=by rfl) :
  PE X (.Call (.Attribute o name apos) (e::es) [] cpos) (tBM X.K T r to t):=by
 intro pins s σ H Q I h;refine wpAny_Call_method_late hbase hfew hline rfl (thn (ho pins s σ H _ I h) λv s1 ⟨x,H1,I1,r1,ty,q1⟩=>?_);obtain ⟨h1,h2⟩:=qkI I1 r1 ty;refine ⟨T,id,pa,slot,hty,h1,h2,?_⟩;have hA:=ha cpos pins s1 σ H1 _ I1 q1;rw [hs] at hA ⊢;refine Calls.callWith_builtin (by show (false||(backTo cpos (starEach es X.env)).any (·.1))=false;rw [hplain]<;>rfl) (Calls.evalArgs_plain ?_);exact thn hA λus s2 ⟨vs,H2,I2,r2,q2⟩=>hm pins s2 σ H2 x vs v us Q I2 r1 r2 q2
end
def MtM (X:Cx) (id:String) (r:V->List V->Hp->VK->Prop):Prop:=
 ∀ (pins:List (Addr×Obj)) (s:Shared) (σ:St) (H:Hp) (x:V) (xs:List V) (v:Value) (us:List Value) (Q:VK),Inv X pins σ H s->jk x v->zj xs us->r x xs H Q ->
  wpAny (model X.prog X.w) X.A (call (.builtin id) (v::us)) (EP X pins σ Q) X.xe s
def zj.one:∀ {x:V} {us:List Value},zj [x] us->∃ u,us=[u]/\jk x u
 |_,_,.cons r .nil=>⟨_,rfl,r⟩
def zj.two:∀ {x y:V} {us:List Value},zj [x,y] us->∃ u v,us=[u,v]/\jk x u/\jk y v
 |_,_,_,.cons r (.cons q .nil)=>⟨_,_,rfl,r,q⟩
def zj.eraseIdx:∀ {xs:List V} {us:List Value} (i:Nat),zj xs us->zj (xs.eraseIdx i) (us.eraseIdx i)
 |_,_,_,.nil=>.nil
 |_,_,0,.cons _ t=>t
 |_,_,i+1,.cons r t=>.cons r (zj.eraseIdx i t)
def zj.reverse {xs:List V} {us:List Value} (h:zj xs us):zj xs.reverse us.reverse:=by
 induction h with
 |nil=>exact .nil
 |cons r t ih=>rw [List.reverse_cons,List.reverse_cons];exact zj.append ih (.cons r .nil)
section
variable {X:Cx} {pins:List (Addr×Obj)} {σ:St} {H:Hp} {s:Shared} {l b:Addr} {xs ys zs:List V}
def Inv.lset {its its':List Value} {n:Nat} {f:Array Value->Array Value} {t':Nat} (I:Inv X pins σ H s) (hH:H l=some (.lst xs))
  (e:s.heap.get? l=some { cls:=.type "list",data:=.seq its.toArray n }) (hf:f its.toArray=its'.toArray) (hv:zj ys its') (hz:ys.length<=sizeLine) :
  Inv X pins σ (upd H l (.lst ys)) { s with heap:=s.heap.update l (Obj.mapSeq f),toks:=t' }:=by
 have q:=PySem.IsL.update e f;rw [hf] at q;refine I.write (x:=l) (e:=l) (by rw [hH];exact trivial) (.inl rfl) (λb' u hb hu=>(Heap.get?_update_other s.heap (Obj.mapSeq f) (Ne.symm hb)).trans hu) ⟨_,q⟩ ?_;exact ⟨hz,its',_,hv,q⟩
def Inv.lnew {its:List Value} {t':Nat} (I:Inv X pins σ H s) (hv:zj ys its) (hz:ys.length<=sizeLine) :
  Inv X pins σ (upd H s.heap.objs.size (.lst ys)) { s with heap:=s.heap.push { cls:=.type "list",data:=.seq its.toArray },toks:=t' }:=
 I.laid (λ_ _ q=>Heap.get?_push_of_some _ q) (Nat.le_refl _) ⟨hz,its,0,hv,Heap.get?_push_size _ rfl⟩
def Inv.fresh (I:Inv X pins σ H s):H s.heap.objs.size=none:=I.hok.fresh (Nat.le_refl _)
def Inv.lstM (I:Inv X pins σ H s) (hH:H l=some (.lst xs)):xs.length<=sizeLine/\∃ (its:List Value) (n:Nat),zj xs its/\xs.length=its.length/\s.heap.get? l=some { cls:=.type "list",data:=.seq its.toArray n }:=by
 obtain ⟨z,its,n,r,e⟩:=I.hok l _ hH;exact ⟨z,its,n,r,r.length,e⟩
def qbq {n:Nat} (h:n<=sizeLine):Builtin.List.listTooLong n=false:=by
 unfold Builtin.List.listTooLong;exact decide_eq_false (by omega)
end
section
variable {X:Cx}
def N5:V->List V->Hp->VK->Prop:=λx vs H Q=>∃ l xs y,x=.ref l/\vs=[y]/\H l=some (.lst xs)/\xs.length<sizeLine/\Q .non (upd H l (.lst (xs++[y])))
def Y7:MtM X "list.append" N5:=by
 intro pins s σ H x vs v us Q I rx rv h;obtain ⟨l,xs,y,rfl,rfl,hH,hz,q⟩:=h;cases rx;obtain ⟨u,rfl,ru⟩:=rv.one;obtain ⟨z,its,n,r,hl,e⟩:=I.lstM hH;refine call_meets F.slot_list_append ⟨_,e,rfl⟩ F.entry_list_append (F.args_list_append_2 _ _) (PySem.list_append l its.toArray n u (by rw [size_toArray];omega)) ⟨e,?_⟩;refine ⟨.non,_,I.lset (its':=its++[u]) hH e (by simp) (r.append (.cons ru .nil)) ?_,rfl,q⟩;rw [length_append,List.length_singleton];omega
def qmY:R2:=λx y H Q=>∃ l b xs zs,x=.ref l/\y=.ref b/\H l=some (.lst xs)/\H b=some (.lst zs)/\xs.length+zs.length<=sizeLine/\∀ p,H p=none->Q (.ref p) (upd H p (.lst (xs++zs)))
def qdV:OpR X (binaryOp .Add) qmY:=by
 intro pins s σ H x y v u Q I rx ry h;obtain ⟨l,b,xs,zs,rfl,rfl,hH,hB,hz,q⟩:=h;cases rx;cases ry;obtain ⟨z,its,n,r,hl,e⟩:=I.lstM hH;obtain ⟨z2,its2,n2,r2,hl2,e2⟩:=I.lstM hB;refine PySem.P.add_list e e2 ?_ (by rw [size_toArray,size_toArray];omega);have ea:its.toArray++its2.toArray=(its++its2).toArray:=by simp
 rw [ea];exact ⟨.ref _,_,I.lnew (t':=s.toks) (r.append r2) (by rw [length_append];omega),rfl,q _ I.fresh⟩
end
section
variable {prog:Program} {w:World} {A:Around} {E:Value->Shared->Prop} {s:Shared}
end
section
variable {X:Cx}
end
end L2
namespace Att
open PySem PySem.W PySem.Calls PyProof.Rows
def EU {P:Params} {h:Heap}:∀ (ns:List Int) (vs:List Value),WellAll P h vs (ns.map WData.int)->IntsAre vs ns:=by
 intro ns;induction ns with
 |nil=>
  intro vs w;rw [List.map_nil] at w;cases w;exact .nil
 |cons n ns ih=>
  intro vs w;rw [map_cons] at w;cases w with
  |cons a b=>
   cases a;exact .cons _ _ (ih _ b)
def qaB {l:OpenLaw} {n:Nat} (hn:l.most=some n) {P:Params} {h:Heap} {args:List WData} {vals:List Value}
  (hpre:l.row.toRowW.claim.pre args=true) (hwl:WellAll P h vals args) :
  ∃ a vs ns,vals=[Value.ref a]/\args=[WData.list (ns.map WData.int)]/\h.get? a=some { cls:=.type "list",data:=.seq vs.toArray }/\IntsAre vs ns/\ns.length<=n:=by
 have hsh:WShape.hasAll [] args [.list .int]=true:=(pre_splitW hpre).1;have hc:l.pre.holds [] { args:=args }=true:=(pre_splitW hpre).2;obtain ⟨d,r,rfl,h1,h2⟩:=hasAllW_cons hsh;obtain rfl:=hasAllW_nil h2;obtain ⟨xs,rfl,h3⟩:=hasW_list h1;obtain ⟨ns,rfl⟩:=items_int h3;have hlen:ns.length<=n:=by
  unfold OpenLaw.pre at hc;have h4:(WTm.not (.lt (.lit (.int (n:Int))) (.len (.arg 0)))).holds [] { args:=[.list (ns.map .int)] }=true:=by
   have h4:=(holds_andW hc).1;rw [hn] at h4;exact h4
  have h5:=condW_of h4 (w_not (w_lt w_lit (w_len_list (w_arg rfl))));rw [length_map] at h5;refine Nat.le_of_not_lt λq=>?_;have q':(n:Int)<((ns.length:Nat):Int):=by omega
  first
   | (rw [decide_eq_true q'] at h5;exact absurd h5 (by decide))
   | (simp at h5;omega)
 cases hwl with
 |cons w1 w2=>
  cases w2;cases w1 with
  |list ho hall=>exact ⟨_,_,ns,rfl,rfl,ho,EU ns _ hall,hlen⟩
def qaa (l:OpenLaw) (args:List WData):l.row.toRowW.claim.post args (.bool true) args=true:=
 postW_of (r:=l.row.toRowW) (X:=(true==true))
  (show WShape.has [] (.bool true) .bool=true by first|rfl|decide|simp [WShape.has,WShape.arms,WShape.armsAll])
  (show (WTm.eq .res (.lit (.bool true))).value [] { args:=args,res:=some (.bool true),after:=args }=some (.bool (true==true)) from w_eq_bool (w_res rfl) w_lit) rfl
def RZ {l:OpenLaw} {n:Nat} {q:Program} {loose:List Str} {XP:(Str->Option Value)->Heap->Prop} {YP:World->Heap->Prop} {d:DefRec}
  (hn:l.most=some n) (hdf:d.params.defaults=[])
  (call:∀ (w:World) (s₀ s₁:Shared) (mg mb:Str->Option Value) (fa:Addr) (o:Obj) (pm cd doc:Value) (a:Addr) (vs:List Value) (ns:List Int),
   Ground q loose [] XP w s₀ mg mb s₁.heap->YP w s₁.heap ->
   s₁.heap.get? fa=some o->o.data=.func (docDef d.name d.params d.body d.scope pm cd doc)->s₁.heap.CodeRec cd d.name->mg d.name=some (.ref fa) ->
   s₁.heap.get? a=some { cls:=.type "list",data:=.seq vs.toArray }->IntsAre vs ns->ns.length<=n->s₁.gens=#[] ->
   codeAny (model l.prog w) callerA (.call (.ref fa) ⟨[.ref a],[]⟩) (λr s'=>r=.ok (.ret (.bool true))/\OldK s₁.heap s'.heap/\s'.os=s₁.os/\AllBare s'.gens) s₁) :
  WalkO q loose XP YP l.row.toRowW d [] (λf vs=>PySem.call f vs):=by
 intro w s₀ s₁ mg mb G Y fa o pm cd doc dV kV ho hd hcd hD hmg hg args vals as hpre hlay hrd hwl hlo;obtain rfl:dV=.none:=Dflts.none hD hdf;obtain rfl:kV=.none:=Dflts.noKw hD;obtain ⟨a,vs,ns,rfl,rfl,hobj,hints,hlen⟩:=qaB hn hpre hwl;refine enter_call (codeAny_mono (call w s₀ s₁ mg mb fa o pm cd doc a vs ns G Y ho (fd_plain hd) hcd hmg hobj hints hlen hg) λr s' hq=>?_);obtain ⟨rfl,h2,h3,h4⟩:=hq;exact ⟨.inl ⟨.bool true,.bool true,[],rfl,λ_=>rfl,.bool true,qaa l _,λ_=>⟨List.Pairwise.nil,λ_ hm=>(nomatch hm)⟩⟩,h2,h3,h4⟩
section
variable {prog:Program} {w:World} {A:Around} {E:Value->Shared->Prop} {s:Shared} {K:Frag}
end
end Att
namespace L2
open PySem PySem.Spec PyProof.Rows
def CC:∀ {vs:List Value} {ns:List Int},IntsAre vs ns->zj (ns.map V.int) vs
 |_,_,.nil=>.nil
 |_,_,.cons n t h=>.cons ⟨t,rfl⟩ (CC h)
def qlh (H:Hp):Prop:=∀ b,H b=none\/∃ o xs,H b=some (.frz o (.lst xs))
def qb7 {P:Program} {w:World} {K:Frg} {mg mb:Str->Option Value} {CX:CXT} {k:Nat} {fa a:Addr} {fd:FuncData} {x:Str} {sp:Sp} {s₁:Shared} {vs:List Value} {ns:List Int}
  (KX:K.In s₁.heap) (hns:s₁.heap.Ns mainGlobals mg) (hb:s₁.heap.Ns builtinsNs mb) (hbb:∀ x:Str,x≠"__name__" -> mb x=bootBuiltins x) (hlim:s₁.heap.NoLimit) (hg:s₁.gens=#[])
  (ha:s₁.heap.get? a=some { cls:=.type "list",data:=.seq vs.toArray }) (hi:IntsAre vs ns) (hl:ns.length<=sizeLine) (hr:Room k callerA)
  (F:∀ base:Heap,K.In base->base.Ns mainGlobals mg->FnOk P w K mg base CX k fa fd [x] sp) (hbind:∀ (s:Shared) (u:Value),BindsTo s fd ⟨[u],[]⟩ [(x,u)])
  (hsp:∀ H:Hp,qlh H->SqL K H a (ns.map V.int)->sp [.ref a] H (λv _=>v=.bl true) λ_ _ _=>False)
  (hCX:∀ H e s',CX [] H s₁ (λ_ _ _=>False) e s'->False) :
  codeAny (model P w) callerA (.call (.ref fa) ⟨[.ref a],[]⟩) (λr s'=>r=.ok (.ret (.bool true))/\OldK s₁.heap s'.heap/\s'.os=s₁.os/\AllBare s'.gens) s₁:=by
 have rv:=CC hi;have lenV:=hi.length
 -- from an abstract heap in which nothing but the script may be tracked
 have core:∀ H:Hp,qlh H->SqL K H a (ns.map V.int)->HOk P w H s₁.heap->(∀ b,H b≠none->b=a)->(H a≠none->K.lookup a=none) ->
   codeAny (model P w) callerA (.call (.ref fa) ⟨[.ref a],[]⟩) (λr s'=>r=.ok (.ret (.bool true))/\OldK s₁.heap s'.heap/\s'.os=s₁.os/\AllBare s'.gens) s₁:=by
  intro H hO hS hok hA hK;have base_of:∀ {b:Addr} {o:Obj},s₁.heap.get? b=some o->H b=none->(qcr s₁.heap H).get? b=some o:=λe n=>qbU e n;have noA:∀ {b:Addr} {o:Obj} {es:Array DictEntry} {ep:Nat},s₁.heap.get? b=some o->o.data=.dict es ep->H b=none:=λ{b o es ep} e d=>by
   cases q:H b with
   |none=>rfl
   |some u=>
    have e':b=a:=hA b (by rw [q];simp);subst e';rw [ha] at e;cases e;have d':Data.seq vs.toArray _=Data.dict es ep:=d;cases d'
  have nsK:∀ {b:Addr} {m:Str->Option Value},s₁.heap.Ns b m->(qcr s₁.heap H).Ns b m:=λ{b m} ⟨o,es,ep,e,d,r⟩=>⟨o,es,ep,base_of e (noA e d),d,r⟩
  have hKb:K.In (qcr s₁.heap H):=λb o e=>base_of (KX b o e) (by
   cases q:H b with
   |none=>rfl
   |some u=>
    have e':b=a:=hA b (by rw [q];simp);subst e';rw [hK (by rw [q];simp)] at e;cases e)
  have hM:Mod K mg (qcr s₁.heap H):=⟨hKb,nsK hns,⟨mb,nsK hb,hbb⟩,let ⟨mc,h1,h2⟩:=hlim;⟨mc,nsK h1,h2⟩⟩
  have e0:Env0 P w K mg (qcr s₁.heap H) callerA [] s₁ H:=⟨rfl,hM,λb o e=>qfu e,Nat.le_of_eq (qak _ _),trivial,λb hb=>absurd (show b∈([]:List Addr) from hb) (by simp),hok,.of_eq hg⟩
  refine codeAny_mono ((F _ hKb (nsK hns)).run callerA [] s₁ H ⟨[.ref a],[]⟩ [.ref a] [.ref a] _ _ hr e0 (hbind s₁ (.ref a)) (.cons rfl .nil) (hsp H hO hS)) λr s' h=>?_;cases r with
  |error e=>exact (hCX H e s' h).elim
  |ok fl=>
   cases fl with
   |next=>exact False.elim h
   |brk=>exact False.elim h
   |cont=>exact False.elim h
   |ret u=>
    obtain ⟨v,H',os,bare,un,hok',r',q⟩:=h;have q':v=.bl true:=q;subst q';obtain rfl:u=Value.bool true:=r';refine ⟨rfl,OldK.of_keep λb o e=>?_,os,bare⟩;cases q:H b with
    |none=>exact un.keep b o e q (by intro z;exact absurd (show b∈([]:List Addr) from z) (by simp)) (by simp)
    |some u=>
     rcases hO b with z|⟨ob,xs,z⟩
     ·rw [q] at z;cases z
     ·have z2:=un.frzs b ob _ z;obtain ⟨e1,_⟩:=hok b _ z;obtain ⟨e2,_⟩:=hok' b _ z2;rw [e] at e1;cases e1;exact e2
 cases hk:K.lookup a with
 |some o=>
  -- the script is one of the module's own objects
  have e:=KX a o hk;rw [ha] at e;cases e;refine core (λ_=>none) (λ_=>.inl rfl) (.inr ⟨_,vs.toArray,_,hk,rfl,rfl,rfl,by rw [size_toArray,lenV];exact hl,by simpa using rv⟩) (λb u z=>by have z':(none:Option HO)=some u:=z;cases z') (λb z=>absurd rfl z) λz=>absurd rfl z
 |none=>
  refine core (λb=>if b=a then some (.frz { cls:=.type "list",data:=.seq vs.toArray } (.lst (ns.map V.int))) else none) (λb=>?_) (.inl (.inr ⟨{ cls:=.type "list",data:=.seq vs.toArray },if_pos rfl⟩)) (λb u z=>?_) (λb z=>?_) λ_=>hk
  ·by_cases hb:b=a
   ·exact .inr ⟨_,_,if_pos hb⟩
   ·exact .inl (if_neg hb)
  ·by_cases hb:b=a
   ·have z':=(if_pos hb).symm.trans z;cases z';subst hb;exact ⟨ha,by rw [length_map];exact hl,vs,_,rv,ha⟩
   ·have z':=(if_neg hb).symm.trans z;cases z'
  ·by_cases hb:b=a
   ·exact hb
   ·exact absurd (if_neg hb) z
def qfd {l:PySem.W.OpenLaw} {n k:Nat} {q:Program} {loose:List Str} {XP:(Str->Option Value)->Heap->Prop} {YP:World->Heap->Prop} {d:DefRec} {K:Params->PySem.W.Frag} {CX:World->CXT} {sp:World->Sp} {x:Str}
  (hn:l.most=some n) (hn2:n<=sizeLine) (hdf:d.params.defaults=[]) (hr:Room k callerA)
  (hY:∀ (w:World) (h:Heap),YP w h->(K w.params).In h)
  (F:∀ (w:World) (mg:Str->Option Value) (fa:Addr) (h:Heap),(K w.params).In h->h.Ns mainGlobals mg->mg d.name=some (.ref fa) ->
   ∃ fd:FuncData,(∀ (s:Shared) (u:Value),BindsTo s fd ⟨[u],[]⟩ [(x,u)]) /\
    ∀ base:Heap,(K w.params).In base->base.Ns mainGlobals mg->FnOk l.prog w (K w.params) mg base (CX w) k fa fd [x] (sp w))
  (hsp:∀ (w:World) (H:Hp) (a:Addr) (ns:List Int),ns.length<=n->qlh H->SqL (K w.params) H a (ns.map V.int)->sp w [.ref a] H (λv _=>v=.bl true) λ_ _ _=>False)
  (hCX:∀ (w:World) (H:Hp) (s:Shared) (e:Value) (s':Shared),CX w [] H s (λ_ _ _=>False) e s'->False) :
  PySem.W.WalkO q loose XP YP l.row.toRowW d [] (λf vs=>PySem.call f vs):=by
 refine Att.RZ hn hdf λw s₀ s₁ mg mb fa o pm cd doc a vs ns G Y ho hd hcd hmg hobj hints hlen hg=>?_;have KX:=hY w _ Y;obtain ⟨fd,hb,hF⟩:=F w mg fa _ KX G.T.g hmg;exact qb7 KX G.T.g G.T.b G.T.builtins G.T.nolimit hg hobj hints (Nat.le_trans hlen hn2) hr hF hb (λH hO hS=>hsp w H a ns hlen hO hS) λH e s'=>hCX w H s₁ e s'
def ZX (s:Stmt):Arguments:=match s with
 |.FunctionDef _ a _ _ _ _ _ _ _ _=>a
 |_=>{ posonlyargs:=[],args:=[],vararg:=none,kwonlyargs:=[],kw_defaults:=[],kwarg:=none,defaults:=[] }
def jg (s:Stmt):List Stmt:=match s with
 |.FunctionDef _ _ b _ _ _ _ _ _ _=>b
 |_=>[]
def qi (s:Stmt):Scope:=match s with
 |.FunctionDef _ _ _ _ _ _ sc _ _ _=>sc
 |_=>{ kind:=.function,names:=[],isGenerator:=false,isCoroutine:=false }
abbrev CX0:CXT:=λ_ _ _ _ _ _=>False
abbrev E0:XK:=λ_ _ _=>False
def qmF {X:Cx}:qaO CX0 X E0:=λ_ _ _ _ _ _ _ h=>h.elim
structure Fun (K:Frg) (x qual:Str) (st:Stmt) (f:Addr) (fd:FuncData):Prop where
 ex:∃ (oc:Value) (od:Option Addr) (kV doc pm:Value) (an:Option Addr) (cdv ct:Value) (osl:Array (Option Value)),
  fd=PySem.W.fnOf x qual (ZX st) (jg st) (qi st) .none kV doc pm an cdv ct/\K.lookup f=some ⟨oc,od,.func fd,osl⟩/\PySem.W.codeIn K cdv qual=true
 kp:PySem.W.keepIn K (.ref f)=true
section
variable {P:Program} {w:World} {K:Frg} {mg:Str->Option Value} {base:Heap}
def Fun.ok {x qual:Str} {st:Stmt} {f:Addr} {fd:FuncData} {N ps:List Str} {k:Nat} {sp:Sp} (F:Fun K x qual st f fd) (S:FnScope N ps (qi st)) (len:∀ vs H Q E,sp vs H Q E->vs.length=ps.length)
  (hbody:∀ (cdv:Value) (A:Around) (outer:List Env) (s:Shared) (H:Hp) (vs:List V) (Q:VK) (E:XK),Room k (A.deeper (envOfC qual (qi st) s.heap.objs.size f cdv))->sp vs H Q E ->
   ∃ t,PSs (qa8 CX0 P w K mg base N qual (qi st) f cdv A outer s H E).nox (jg st) t/\t { nx:=λ_ H'=>Q .non H',rt:=Q } (EX N vs) H):FnOk P w K mg base CX0 (k+1) f fd ps sp:=by
 obtain ⟨oc,od,kV,doc,pm,an,cdv,ct,osl,rfl,lk,hcd⟩:=F.ex;refine qnA lk hcd S len λA outer s H vs Q E hr hsp=>?_;obtain ⟨t,h,q⟩:=hbody cdv A outer s H vs Q E hr hsp;exact ⟨t,h.nox,q⟩
def Fun.binds {x qual:Str} {st:Stmt} {f:Addr} {fd:FuncData} {ps:List Str} (F:Fun K x qual st f fd)
  (h:∀ (kV doc pm:Value) (an:Option Addr) (cdv ct:Value) (us:List Value),us.length=ps.length->bindArgs (PySem.W.fnOf x qual (ZX st) (jg st) (qi st) .none kV doc pm an cdv ct) ⟨us,[]⟩=pure (ps.zip us)):zJ K fd ps []:=by
 obtain ⟨oc,od,kV,doc,pm,an,cdv,ct,osl,rfl,lk,hcd⟩:=F.ex;exact .all (h kV doc pm an cdv ct)
def qjG {x qual:Str} {st:Stmt} {f:Addr} {oc:Value} {od an:Option Addr} {osl:Array (Option Value)} {kV doc pm cdv ct:Value} (l:K.lookup f=some ⟨oc,od,.func (PySem.W.fnOf x qual (ZX st) (jg st) (qi st) .none kV doc pm an cdv ct),osl⟩)
  (c:PySem.W.codeIn K cdv qual=true) (k:PySem.W.keepIn K (.ref f)=true):Fun K x qual st f (PySem.W.fnOf x qual (ZX st) (jg st) (qi st) .none kV doc pm an cdv ct):=⟨⟨oc,od,kV,doc,pm,an,cdv,ct,osl,rfl,l,c⟩,k⟩
end
section
variable {X:Cx}
end
def qle {A B:Prop} (h:B):if false=true then A else B:=by
 rw [if_neg Bool.false_ne_true];exact h
def qk7 {A B:Prop} (h:A):if true=true then A else B:=by
 rw [if_pos rfl];exact h
end L2
set_option maxHeartbeats 4000000
namespace L3
open PySem PySem.Spec PyProof.Rows L2
set_option genInjectivity true in
inductive T where
 |non|bl (b:Bool)|int (i:Int)|str (x:Str)|tup (xs:List T)|ref (a:Addr)
inductive O where
 |lst (xs:List T)
 |frz (xs:List T)
 |dct (kvs:List (Int×T))
 |exn (C:Addr)
 |tab (ks:List Str) (xs:List T)
abbrev Gp:=Addr->Option O
def gu (G:Gp) (a:Addr) (o:O):Gp:=λb=>if b=a then some o else G b
def qL {G:Gp} {a:Addr} {o:O}:gu G a o a=some o:=by unfold gu;rw [if_pos rfl]
def jF {G:Gp} {a b:Addr} {o:O} (h:b≠a):gu G a o b=G b:=by unfold gu;rw [if_neg h]
mutual
inductive Rp (K:Frg) (H:Hp):T->V->Prop
 |non:Rp K H .non .non
 |bl (b:Bool):Rp K H (.bl b) (.bl b)
 |int (i:Int):Rp K H (.int i) (.int i)
 |str (x:Str):Rp K H (.str x) (.str x)
 |ref (a:Addr):Rp K H (.ref a) (.ref a)
 |tup {xs:List T} {a:Addr} {vs:List V}:SqT K H a vs->Rps K H xs vs->Rp K H (.tup xs) (.ref a)
inductive Rps (K:Frg) (H:Hp):List T->List V->Prop
 |nil:Rps K H [] []
 |cons {x:T} {v:V} {xs:List T} {vs:List V}:Rp K H x v->Rps K H xs vs->Rps K H (x::xs) (v::vs)
end
def IsX (a C:Addr) (h:Heap):Prop:=∃ o vs,h.get? a=some o/\o.cls=.ref C/\o.data=.fields vs
def OR (K:Frg) (H:Hp) (a:Addr):O->Prop
 |.lst xs=>∃ vs,H a=some (.lst vs)/\Rps K H xs vs
 |.frz xs=>∃ vs,(∃ o,H a=some (.frz o (.lst vs)))/\Rps K H xs vs
 |.dct kvs=>∃ vs,H a=some (.dK ((kvs.map λp=>(Sum.inl p.1:Key)).zip vs))/\Rps K H (kvs.map λp=>p.2) vs
 |.exn C=>H a=some (.ext (IsX a C))
 |.tab ks xs=>∃ vs,H a=some (.dK ((ks.map λk=>(Sum.inr k:Key)).zip vs))/\Rps K H xs vs
def HR (K:Frg) (G:Gp) (H:Hp):Prop:=∀ a o,G a=some o->OR K H a o
def Kp (G:Gp) (H:Hp) (G':Gp) (H':Hp):Prop:=∀ a o,H a=some o->G a=none->H' a=some o/\G' a=none
def Kp.refl {G:Gp} {H:Hp}:Kp G H G H:=λ_ _ h g=>⟨h,g⟩
def Kp.trans {G G1 G2:Gp} {H H1 H2:Hp} (a:Kp G H G1 H1) (b:Kp G1 H1 G2 H2):Kp G H G2 H2:=λx o h g=>
 let ⟨h1,g1⟩:=a x o h g;b x o h1 g1
section
variable {K:Frg} {G G':Gp} {H H':Hp}
def HR.noneT (hr:HR K G H) {a:Addr} {vs:List V} (h:Rd H a (.tup vs)):G a=none:=by
 cases e:G a with
 |none=>rfl
 |some o=>
  have q:=hr a o e;cases o with
  |lst xs=>
   obtain ⟨us,q1,_⟩:=q;rcases h with h|⟨ob,h⟩<;>(rw [q1] at h;cases h)
  |frz xs=>
   obtain ⟨us,⟨o1,q1⟩,_⟩:=q;rcases h with h|⟨ob,h⟩<;>(rw [q1] at h;cases h)
  |dct kvs=>
   obtain ⟨us,q1,_⟩:=q;rcases h with h|⟨ob,h⟩<;>(rw [q1] at h;cases h)
  |exn C=>
   have q1:H a=some (.ext (IsX a C)):=q;rcases h with h|⟨ob,h⟩<;>(rw [q1] at h;cases h)
  |tab ks xs=>
   obtain ⟨us,q1,_⟩:=q;rcases h with h|⟨ob,h⟩<;>(rw [q1] at h;cases h)
def EH (hr:HR K G H) (k:Kp G H G' H') {a:Addr} {vs:List V} (h:SqT K H a vs):SqT K H' a vs:=by
 rcases h with h|h
 ·have g:=hr.noneT h;rcases h with h|⟨o,h⟩
  ·exact .inl (.inl (k a _ h g).1)
  ·exact .inl (.inr ⟨o,(k a _ h g).1⟩)
 ·exact .inr h
mutual
def Rp.keep (hr:HR K G H) (k:Kp G H G' H'):∀ {x:T} {v:V},Rp K H x v->Rp K H' x v
 |_,_,.non=>.non
 |_,_,.bl b=>.bl b
 |_,_,.int i=>.int i
 |_,_,.str x=>.str x
 |_,_,.ref a=>.ref a
 |_,_,.tup h hs=>.tup (EH hr k h) (Rps.keep hr k hs)
def Rps.keep (hr:HR K G H) (k:Kp G H G' H'):∀ {x:List T} {v:List V},Rps K H x v->Rps K H' x v
 |_,_,.nil=>.nil
 |_,_,.cons a b=>.cons (Rp.keep hr k a) (Rps.keep hr k b)
end
def Rps.length:∀ {xs:List T} {vs:List V},Rps K H xs vs->xs.length=vs.length
 |_,_,.nil=>rfl
 |_,_,.cons _ b=>by simp [Rps.length b]
def Rps.get:∀ {xs:List T} {vs:List V} {i:Nat} {x:T},Rps K H xs vs->xs[i]?=some x->∃ v,vs[i]?=some v/\Rp K H x v
 |_,_,_,_,.nil,e=>by simp at e
 |_,_,0,_,.cons r _,e=>by simp at e;subst e;exact ⟨_,rfl,r⟩
 |_,_,i+1,x,.cons _ t,e=>by
  obtain ⟨u,h1,h2⟩:=Rps.get (i:=i) (x:=x) t (by simpa using e);exact ⟨u,by simpa using h1,h2⟩
def Rps.append:∀ {xs ys:List T} {vs us:List V},Rps K H xs vs->Rps K H ys us->Rps K H (xs++ys) (vs++us)
 |_,_,_,_,.nil,s=>s
 |_,_,_,_,.cons r t,s=>.cons r (Rps.append t s)
def Rps.take:∀ {xs:List T} {vs:List V} (n:Nat),Rps K H xs vs->Rps K H (xs.take n) (vs.take n)
 |_,_,0,_=>.nil
 |_,_,_+1,.nil=>.nil
 |_,_,n+1,.cons r t=>.cons r (Rps.take n t)
def Rps.drop:∀ {xs:List T} {vs:List V} (n:Nat),Rps K H xs vs->Rps K H (xs.drop n) (vs.drop n)
 |_,_,0,r=>r
 |_,_,_+1,.nil=>.nil
 |_,_,n+1,.cons _ t=>Rps.drop n t
def Rps.set {x:T} {v:V} (r:Rp K H x v):∀ {xs:List T} {vs:List V} (i:Nat),Rps K H xs vs->Rps K H (xs.set i x) (vs.set i v)
 |_,_,_,.nil=>.nil
 |_,_,0,.cons _ t=>.cons r t
 |_,_,i+1,.cons q t=>.cons q (Rps.set r i t)
def Rps.ints:∀ (ns:List Int),Rps K H (ns.map T.int) (ns.map V.int)
 |[]=>.nil
 |n::r=>.cons (.int n) (Rps.ints r)
def Kp.laid {p:Addr} {ho:HO} (hp:H p=none):Kp G H G (upd H p ho):=λa o h g=>⟨by rw [qq (qo h hp)];exact h,g⟩
def HR.free (hr:HR K G H) {p:Addr} (hp:H p=none):G p=none:=by
 cases e:G p with
 |none=>rfl
 |some o=>
  have q:=hr p o e;cases o with
  |lst xs=>obtain ⟨us,q1,_⟩:=q;rw [hp] at q1;cases q1
  |frz xs=>obtain ⟨us,⟨o1,q1⟩,_⟩:=q;rw [hp] at q1;cases q1
  |dct kvs=>obtain ⟨us,q1,_⟩:=q;rw [hp] at q1;cases q1
  |exn C=>have q1:H p=some (.ext (IsX p C)):=q;rw [hp] at q1;cases q1
  |tab ks xs=>obtain ⟨us,q1,_⟩:=q;rw [hp] at q1;cases q1
def OR.keep (hr:HR K G H) (k:Kp G H G' H') {a:Addr} {o:O} (h:OR K H a o) (e:∀ u,H a=some u->H' a=some u):OR K H' a o:=by
 cases o with
 |lst xs=>obtain ⟨vs,h1,h2⟩:=h;exact ⟨vs,e _ h1,h2.keep hr k⟩
 |frz xs=>obtain ⟨vs,⟨o,h1⟩,h2⟩:=h;exact ⟨vs,⟨o,e _ h1⟩,h2.keep hr k⟩
 |dct kvs=>obtain ⟨vs,h1,h2⟩:=h;exact ⟨vs,e _ h1,h2.keep hr k⟩
 |exn C=>exact e _ h
 |tab ks xs=>obtain ⟨vs,h1,h2⟩:=h;exact ⟨vs,e _ h1,h2.keep hr k⟩
def HR.laid (hr:HR K G H) {p:Addr} {ho:HO} (hp:H p=none):HR K G (upd H p ho):=λa o e=>
 (hr a o e).keep hr (Kp.laid hp) λu h=>by rw [qq (qo h hp)];exact h
def Kp.newL {p:Addr} {ho:HO} {o':O} (hp:H p=none):Kp G H (gu G p o') (upd H p ho):=λa o h g=>
 ⟨by rw [qq (qo h hp)];exact h,by rw [jF (qo h hp)];exact g⟩
def HR.newL (hr:HR K G H) {p:Addr} {xs:List T} {vs:List V} (hp:H p=none) (r:Rps K H xs vs):HR K (gu G p (.lst xs)) (upd H p (.lst vs)):=λa o e=>by
 by_cases ha:a=p
 ·subst ha;rw [qL] at e;cases e;exact ⟨vs,qJ,r.keep hr (Kp.laid hp)⟩
 ·rw [jF ha] at e;exact (hr a o e).keep hr (Kp.laid hp) λu h=>by rw [qq ha];exact h
def Kp.wr {p:Addr} {ho:HO} {o o':O} (g:G p=some o):Kp G H (gu G p o') (upd H p ho):=λa ob h ga=>by
 have ha:a≠p:=by intro e;subst e;rw [g] at ga;cases ga
 exact ⟨by rw [qq ha];exact h,by rw [jF ha];exact ga⟩
def HR.wr (hr:HR K G H) {p:Addr} {ys xs:List T} {vs:List V} (g:G p=some (.lst ys)) (r:Rps K H xs vs):HR K (gu G p (.lst xs)) (upd H p (.lst vs)):=λa o e=>by
 have k:Kp G H (gu G p (.lst xs)) (upd H p (.lst vs)):=Kp.wr g;by_cases ha:a=p
 ·subst ha;rw [qL] at e;cases e;exact ⟨vs,qJ,r.keep hr k⟩
 ·rw [jF ha] at e;exact (hr a o e).keep hr k λu h=>by rw [qq ha];exact h
end
abbrev St3:=List (Option T)
structure Rel (K:Frg) (τ:St3) (G:Gp) (σ:L2.St) (H:Hp):Prop where
 hp:HR K G H
 len:τ.length=σ.length
 st:∀ (i:Nat) (t:T),τ[i]?=some (some t)->∃ v,σ[i]?=some (some v)/\Rp K H t v
def Rel.next {K:Frg} {τ:St3} {G G':Gp} {σ:L2.St} {H H':Hp} (r:Rel K τ G σ H) (hr:HR K G' H') (k:Kp G H G' H'):Rel K τ G' σ H':=
 ⟨hr,r.len,λi t e=>let ⟨v,h1,h2⟩:=r.st i t e;⟨v,h1,h2.keep r.hp k⟩⟩
def Rel.set {K:Frg} {τ:St3} {G:Gp} {σ:L2.St} {H:Hp} {t:T} {v:V} (r:Rel K τ G σ H) (i:Nat) (h:Rp K H t v):Rel K (τ.set i (some t)) G (σ.set i (some v)) H:=by
 refine ⟨r.hp,by simp [r.len],λj u e=>?_⟩;by_cases hij:i=j
 ·subst hij;rw [List.getElem?_set_self'] at e;have hl:i<τ.length:=by
   cases q:τ[i]? with
   |none=>rw [q] at e;cases e
   |some z=>exact (List.getElem?_eq_some_iff.mp q).1
  rw [getElem?_eq_getElem hl] at e;have e':t=u:=by simpa using e
  subst e';exact ⟨v,by rw [List.getElem?_set_self (by rw [← r.len];exact hl)],h⟩
 ·rw [List.getElem?_set_ne hij] at e;obtain ⟨w,h1,h2⟩:=r.st j u e;exact ⟨w,by rw [List.getElem?_set_ne hij];exact h1,h2⟩
abbrev Q3:=T->Gp->Prop
abbrev TE3:=St3->Gp->Q3->Prop
abbrev TT3:=St3->Gp->(Bool->Gp->Prop)->Prop
abbrev TA3:=St3->Gp->(List T->Gp->Prop)->Prop
def Aft (K:Frg) (G:Gp) (H:Hp) (q:Q3) (Q:VK):Prop:=∀ x G',q x G'->∀ v H',Rp K H' x v->HR K G' H'->Kp G H G' H'->Q v H'
def qli (K:Frg) (G:Gp) (H:Hp) (q:Bool->Gp->Prop) (Q:Bool->Hp->Prop):Prop:=∀ x G',q x G'->∀ H',HR K G' H'->Kp G H G' H'->Q x H'
def qoZ (K:Frg) (G:Gp) (H:Hp) (q:List T->Gp->Prop) (Q:List V->Hp->Prop):Prop:=∀ x G',q x G'->∀ v H',Rps K H' x v->HR K G' H'->Kp G H G' H'->Q v H'
def lE (K:Frg) (t:TE3):TE:=λσ H Q=>∃ τ G q,Rel K τ G σ H/\t τ G q/\Aft K G H q Q
def lT (K:Frg) (t:TT3):TT:=λσ H Q=>∃ τ G q,Rel K τ G σ H/\t τ G q/\qli K G H q Q
def lA (K:Frg) (t:TA3):TA:=λσ H Q=>∃ τ G q,Rel K τ G σ H/\t τ G q/\qoZ K G H q Q
abbrev E3 (X:Cx) (e:Expr) (t:TE3):Prop:=PE X e (lE X.K t)
abbrev C3 (X:Cx) (e:Expr) (t:TT3):Prop:=PT X e (lT X.K t)
abbrev W3 (X:Cx) (e:Expr) (t:TT3):Prop:=PW X e (lT X.K t)
abbrev A3 (X:Cx) (es:List Expr) (t:TA3):Prop:=PA X es (lA X.K t)
def Aft.back {K:Frg} {G G1:Gp} {H H1:Hp} {q:Q3} {Q:VK} (a:Aft K G H q Q) (k:Kp G H G1 H1):Aft K G1 H1 q Q:=λx G' h v H' r hr k'=>a x G' h v H' r hr (k.trans k')
def qli.back {K:Frg} {G G1:Gp} {H H1:Hp} {q:Bool->Gp->Prop} {Q:Bool->Hp->Prop} (a:qli K G H q Q) (k:Kp G H G1 H1):qli K G1 H1 q Q:=λx G' h H' hr k'=>a x G' h H' hr (k.trans k')
def U3 {X:Cx} {e:Expr} {t t':TE} (h:PE X e t) (w:∀ σ H Q,t' σ H Q->t σ H Q):PE X e t':=λpins s σ H Q I q=>h pins s σ H Q I (w σ H Q q)
def qlR {X:Cx} {e:Expr} {t t':TT} (h:PT X e t) (w:∀ σ H Q,t' σ H Q->t σ H Q):PT X e t':=λpins s σ H Q I q=>h pins s σ H Q I (w σ H Q q)
def qog {X:Cx} {e:Expr} {t t':TT} (h:PW X e t) (w:∀ σ H Q,t' σ H Q->t σ H Q):PW X e t':=λwh pins s σ H Q I q=>h wh pins s σ H Q I (w σ H Q q)
def qom {X:Cx} {e:List Expr} {t t':TA} (h:PA X e t) (w:∀ σ H Q,t' σ H Q->t σ H Q):PA X e t':=λpos pins s σ H Q I q=>h pos pins s σ H Q I (w σ H Q q)
def zl {K:Frg} {ta:TE3} {τ:St3} {G:Gp} {σ:L2.St} {H:Hp} {q:Q3} {Q:VK} (r:Rel K τ G σ H) (h:ta τ G q)
  (n:∀ x G1,q x G1->∀ v H1,Rp K H1 x v->HR K G1 H1->Kp G H G1 H1->Rel K τ G1 σ H1->Q v H1):lE K ta σ H Q:=
 ⟨τ,G,q,r,h,λx G1 hq v H1 rx hr k=>n x G1 hq v H1 rx hr k (r.next hr k)⟩
def WT {K:Frg} {ta:TT3} {τ:St3} {G:Gp} {σ:L2.St} {H:Hp} {q:Bool->Gp->Prop} {Q:Bool->Hp->Prop} (r:Rel K τ G σ H) (h:ta τ G q)
  (n:∀ x G1,q x G1->∀ H1,HR K G1 H1->Kp G H G1 H1->Rel K τ G1 σ H1->Q x H1):lT K ta σ H Q:=
 ⟨τ,G,q,r,h,λx G1 hq H1 hr k=>n x G1 hq H1 hr k (r.next hr k)⟩
def QR {K:Frg} {ta:TA3} {τ:St3} {G:Gp} {σ:L2.St} {H:Hp} {q:List T->Gp->Prop} {Q:List V->Hp->Prop} (r:Rel K τ G σ H) (h:ta τ G q)
  (n:∀ x G1,q x G1->∀ v H1,Rps K H1 x v->HR K G1 H1->Kp G H G1 H1->Rel K τ G1 σ H1->Q v H1):lA K ta σ H Q:=
 ⟨τ,G,q,r,h,λx G1 hq v H1 rx hr k=>n x G1 hq v H1 rx hr k (r.next hr k)⟩
section
variable {X:Cx} {a b c:Expr} {ta tb tc:TE3} {pos:Pos}
def v3 (i:Nat):TE3:=λτ G q=>match τ[i]? with|some (some t)=>q t G|_=>False
def qnw (i:Nat) {x:Str} {pos:Pos} (hN:X.N[i]?=some x:=by rfl) (hv:Vis X.env.scope x:=by first|exact Or.inl rfl|exact Or.inr (Or.inl rfl)|exact Or.inr (Or.inr rfl)) (hd:(x==("__debug__" : Str))=false:=by decide)
  (hcd:(x==("__classdict__" : Str))=false:=by decide):E3 X (.Name x pos) (v3 i):=by
 refine U3 (qiT (i:=i) hN hv hd hcd) λσ H Q ⟨τ,G,q,r,h,af⟩=>?_;unfold v3 at h;split at h
 ·rename_i t e;obtain ⟨v,e2,rv⟩:=r.st i t e;exact ⟨v,e2,af t G h v H rv r.hp Kp.refl⟩
 ·exact h.elim
def c3 (t:T):TE3:=λ_ G q=>q t G
def e_c {t:T} {v:V} {e:Expr} (h:PE X e (tC v)) (hr:∀ H,Rp X.K H t v):E3 X e (c3 t):=U3 h λσ H Q ⟨τ,G,q,r,h,af⟩=>af t G h v H (hr H) r.hp Kp.refl
def qni {i:Int} {j pos}:E3 X (.Constant (.int i) j pos) (c3 (.int i)):=e_c qjN λ_=>.int i
def qoR {b:Bool} {j pos}:E3 X (.Constant (.bool b) j pos) (c3 (.bl b)):=e_c qma λ_=>.bl b
def qmR {j pos}:E3 X (.Constant .none j pos) (c3 .non):=e_c qg9 λ_=>.non
def qlx {x:Str} {j pos}:E3 X (.Constant (.str x) j pos) (c3 (.str x)):=e_c qgB λ_=>.str x
def n3:TE3:=λ_ _ _=>False
abbrev R3:=T->T->Gp->Q3->Prop
def DI (K:Frg) (r3:R3) (r:R2):Prop:=∀ x y v u G H q Q,HR K G H->Rp K H x v->Rp K H y u->r3 x y G q->Aft K G H q Q->r v u H Q
def o3 (r:R3) (ta tb:TE3):TE3:=λτ G q=>ta τ G λx G1=>tb τ G1 λy G2=>r x y G2 q
def qb2 {K:Frg} {r3:R3} {r:R2} (hr:DI K r3 r) {σ:L2.St} {H:Hp} {Q:VK} (h:lE K (o3 r3 ta tb) σ H Q):tOp r (lE K ta) (lE K tb) σ H Q:=by
 obtain ⟨τ,G,q,rl,h,af⟩:=h;refine zl rl h λx G1 h1 v H1 rx hr1 k1 rl1=>zl rl1 h1 λy G2 h2 u H2 ry hr2 k2 rl2=>?_;exact hr x y v u G2 H2 q Q hr2 (rx.keep hr1 k2) ry h2 (af.back (k1.trans k2))
def qbK {op:Operator} {r3:R3} {r:R2} (ho:OpR X (binaryOp op) r) (hr:DI X.K r3 r) (ha:E3 X a ta) (hb:E3 X b tb):E3 X (.BinOp a op b pos) (o3 r3 ta tb):=
 U3 (qnI ho ha hb) λ_ _ _ h=>qb2 hr h
def qlY {op:CmpOp} {r3:R3} {r:R2} (ho:OpR X (compareOp op) r) (hr:DI X.K r3 r) (ha:E3 X a ta) (hb:E3 X b tb) (hm:behindInMarks op b=false):E3 X (.Compare a [op] [b] pos) (o3 r3 ta tb):=
 U3 (qfN ho ha hb hm) λ_ _ _ h=>qb2 hr h
def tb3 (t:TE3):TT3:=λτ G q=>t τ G λx G'=>match x with|.bl k=>q k G'|_=>False
def qj4 {K:Frg} {t:TE3} {t2:TE} (hw:∀ σ H Q,lE K t σ H Q->t2 σ H Q) {σ:L2.St} {H:Hp} {Q:Bool->Hp->Prop} (h:lT K (tb3 t) σ H Q):qjy t2 σ H Q:=by
 obtain ⟨τ,G,q,rl,h,af⟩:=h;refine hw _ _ _ (zl rl h λx G1 h1 v H1 rx hr1 k1 rl1=>?_);cases x with
 |bl k=>cases rx;exact ⟨k,rfl,af k G1 h1 H1 hr1 k1⟩
 |_=>exact h1.elim
def qmK {op:CmpOp} {r3:R3} {r:R2} (ho:OpR X (compareOp op) r) (hr:DI X.K r3 r) (ha:E3 X a ta) (hb:E3 X b tb) (hm:behindInMarks op b=false):C3 X (.Compare a [op] [b] pos) (tb3 (o3 r3 ta tb)):=
 qlR (qeP ho ha hb hm) λ_ _ _ h=>qj4 (λ_ _ _=>qb2 hr) h
def ch3 (r r':R3) (ta tb tc:TE3):TE3:=λτ G q=>ta τ G λx G1=>tb τ G1 λy G2=>r x y G2 λz G3=>match z with
 |.bl k=>if k=true then tc τ G3 λw G4=>r' y w G4 q else q (.bl false) G3
 |_=>False
def qmA {K:Frg} {r3 r3':R3} {r r':R2} (hr:DI K r3 r) (hr':DI K r3' r') {σ:L2.St} {H:Hp} {Q:VK} (h:lE K (ch3 r3 r3' ta tb tc) σ H Q):qc9 r r' (lE K ta) (lE K tb) (lE K tc) σ H Q:=by
 obtain ⟨τ,G,q,rl,h,af⟩:=h;refine zl rl h λx G1 h1 v H1 rx hr1 k1 rl1=>zl rl1 h1 λy G2 h2 u H2 ry hr2 k2 rl2=>?_;refine hr x y v u G2 H2 _ _ hr2 (rx.keep hr1 k2) ry h2 λz G3 h3 w H3 rz hr3 k3=>?_;cases z with
 |bl k=>
  cases rz;refine ⟨k,rfl,?_⟩;cases k with
  |false=>
   rw [if_neg Bool.false_ne_true];rw [show (match T.bl false with|.bl k=>if k=true then tc τ G3 λw G4=>r3' y w G4 q else q (.bl false) G3|_=>False)=q (.bl false) G3 from by simp] at h3;exact af _ G3 h3 _ H3 (.bl false) hr3 ((k1.trans k2).trans k3)
  |true=>
   rw [if_pos rfl];refine zl (rl2.next hr3 k3) (show tc τ G3 λw G4=>r3' y w G4 q from by simpa using h3) λw G4 h4 w' H4 rw' hr4 k4 rl4=>?_;exact hr' y w _ _ G4 H4 q Q hr4 ((ry.keep hr2 k3).keep hr3 k4) rw' h4 (af.back (((k1.trans k2).trans k3).trans k4))
 |_=>exact h3.elim
def qfz {op op':CmpOp} {r3 r3':R3} {r r':R2} (ho:OpR X (compareOp op) r) (hr:DI X.K r3 r) (ho':OpR X (compareOp op') r') (hr':DI X.K r3' r') (ha:E3 X a ta) (hb:E3 X b tb) (hc:E3 X c tc)
  (hm:lastMarks [op,op'] [b,c]=false:=by with_unfolding_all rfl):E3 X (.Compare a [op,op'] [b,c] pos) (ch3 r3 r3' ta tb tc):=
 U3 (qbS ho ho' ha hb hc hm) λ_ _ _ h=>qmA hr hr' h
def qos (K:Frg) (r3:T->Gp->Q3->Prop) (r:V->Hp->VK->Prop):Prop:=∀ x v G H q Q,HR K G H->Rp K H x v->r3 x G q->Aft K G H q Q->r v H Q
def u3 (r:T->Gp->Q3->Prop) (ta:TE3):TE3:=λτ G q=>ta τ G λx G1=>r x G1 q
def qox {op:UnaryOp} {r3:T->Gp->Q3->Prop} {r:V->Hp->VK->Prop} (ho:UnR X (unaryOp op) r) (hr:qos X.K r3 r) (ha:E3 X a ta):E3 X (.UnaryOp op a pos) (u3 r3 ta):=
 U3 (qnj ho ha) λ_ _ _ ⟨τ,G,q,rl,h,af⟩=>zl rl h λx G1 h1 v H1 rx hr1 k1 rl1=>hr x v G1 H1 q _ hr1 rx h1 (af.back k1)
def qcj:T->Gp->Q3->Prop:=λx G q=>match x with|.int i=>q (.int (-i)) G|_=>False
def qeH {K:Frg}:qos K qcj (rU λi=>.int (-i)):=λx v G H q Q hr rx h af=>by
 cases x with
 |int i=>cases rx;exact ⟨i,rfl,af _ G h _ H (.int _) hr Kp.refl⟩
 |_=>exact h.elim
def iI (f:Int->Int->Int):R3:=λx y G q=>match x,y with|.int i,.int j=>q (.int (f i j)) G|_,_=>False
def iC (C:Int->Int->Prop) (f:Int->Int->Int):R3:=λx y G q=>match x,y with|.int i,.int j=>C i j/\q (.int (f i j)) G|_,_=>False
def iB (f:Int->Int->Bool):R3:=λx y G q=>match x,y with|.int i,.int j=>q (.bl (f i j)) G|_,_=>False
def qc0 {K:Frg} {f:Int->Int->Int}:DI K (iI f) (rI0 λi j=>.int (f i j)):=λx y v u G H q Q hr rx ry h af=>by
 cases x<;>try exact h.elim
 cases y<;>try exact h.elim
 cases rx;cases ry;exact ⟨_,_,rfl,rfl,af _ G h _ H (.int _) hr Kp.refl⟩
def T3 {K:Frg} {C:Int->Int->Prop} {f:Int->Int->Int}:DI K (iC C f) (rI C λi j=>.int (f i j)):=λx y v u G H q Q hr rx ry h af=>by
 cases x<;>try exact h.elim
 cases y<;>try exact h.elim
 cases rx;cases ry;exact ⟨_,_,rfl,rfl,h.1,af _ G h.2 _ H (.int _) hr Kp.refl⟩
def DG {K:Frg} {f:Int->Int->Bool}:DI K (iB f) (rI0 λi j=>.bl (f i j)):=λx y v u G H q Q hr rx ry h af=>by
 cases x<;>try exact h.elim
 cases y<;>try exact h.elim
 cases rx;cases ry;exact ⟨_,_,rfl,rfl,af _ G h _ H (.bl _) hr Kp.refl⟩
def qmo (ha:E3 X a ta) (hb:E3 X b tb):E3 X (.BinOp a .Sub b pos) (o3 (iI (·-·)) ta tb):=qbK qju qc0 ha hb
def qmk (ha:E3 X a ta) (hb:E3 X b tb):E3 X (.BinOp a .Mult b pos) (o3 (iC EC (·*·)) ta tb):=qbK qiQ T3 ha hb
def ql5 (ha:E3 X a ta) (hb:E3 X b tb):E3 X (.BinOp a .Mod b pos) (o3 (iC (λ_ j=>0<j) (·%·)) ta tb):=qbK qgu T3 ha hb
def qmp (ha:E3 X a ta) (hb:E3 X b tb):E3 X (.BinOp a .FloorDiv b pos) (o3 (iC Q7 (·/·)) ta tb):=qbK qeA T3 ha hb
def qlX (ha:E3 X a ta) (hb:E3 X b tb):E3 X (.BinOp a .Pow b pos) (o3 (iC qhO (λi j=>i ^ j.toNat)) ta tb):=qbK qgz T3 ha hb
def ql7 (ha:E3 X a ta) (hb:E3 X b tb):E3 X (.BinOp a .BitXor b pos) (o3 (iI Builtin.bitXor) ta tb):=qbK qgv qc0 ha hb
def qmI (ha:E3 X a ta):E3 X (.UnaryOp .USub a pos) (u3 qcj ta):=qox qgM qeH ha
def U8:T->T->Option Bool
 |.non,.non=>some true|.non,.int _=>some false|.int _,.non=>some false|.non,.bl _=>some false|.bl _,.non=>some false|.non,.str _=>some false|.str _,.non=>some false
 |.int i,.int j=>some (decide (i=j))|.bl i,.bl j=>some (decide (i=j))|.str i,.str j=>some (decide (i=j))
 |.int _,.str _=>some false|.str _,.int _=>some false|.bl _,.str _=>some false|.str _,.bl _=>some false
 |_,_=>none
def KJ {K:Frg} {H:Hp} {x y:T} {v u:V} {k:Bool} (rx:Rp K H x v) (ry:Rp K H y u) (h:U8 x y=some k):qnm v u=true/\decide (v=u)=k:=by
 cases rx<;>cases ry<;>simp [U8] at h<;>subst h<;>refine ⟨rfl,?_⟩<;>simp
def qf7 (neg:Bool):R3:=λx y G q=>match y with|.non=>q (.bl (match x with|.non=>!neg|_=>neg)) G|_=>False
def qgK {K:Frg} {H:Hp} {x:T} {v:V} (rx:Rp K H x v):decide (v=.non)=(match x with|.non=>true|_=>false):=by
 cases rx<;>simp
def XE {K:Frg}:DI K (qf7 false) (λx y H Q=>y=.non/\Q (.bl (decide (x=.non))) H):=λx y v u G H q Q hr rx ry h af=>by
 cases y<;>try exact h.elim
 cases ry;refine ⟨rfl,?_⟩;rw [qgK rx];refine af _ G h _ H ?_ hr Kp.refl;cases x<;>exact .bl _
variable {tA tB:TT3} {j8:List Expr}
def qk6 (t u:TT3):TT3:=λτ G q=>t τ G λk G1=>if k=true then u τ G1 q else q false G1
def or3 (t u:TT3):TT3:=λτ G q=>t τ G λk G1=>if k=true then q true G1 else u τ G1 q
def D7 (t:TT3):TT3:=λτ G q=>t τ G λk G1=>q (!k) G1
def qgA (ha:C3 X a tA):W3 X (.BoolOp .And [a] pos) tA:=qfe ha
def ql8 (ha:C3 X a tA):W3 X (.BoolOp .Or [a] pos) tA:=qi1 ha
def qnr (ha:C3 X a tA) (hb:W3 X (.BoolOp .And (b::j8) pos) tB):W3 X (.BoolOp .And (a::b::j8) pos) (qk6 tA tB):=
 qog (qhz ha hb) λ_ _ _ ⟨τ,G,q,rl,h,af⟩=>WT rl h λk G1 h1 H1 hr1 k1 rl1=>by
  cases k with
  |true=>rw [if_pos rfl] at h1 ⊢;exact ⟨τ,G1,q,rl1,h1,af.back k1⟩
  |false=>rw [if_neg Bool.false_ne_true] at h1 ⊢;exact af _ G1 h1 H1 hr1 k1
def qoX (ha:C3 X a tA) (hb:W3 X (.BoolOp .Or (b::j8) pos) tB):W3 X (.BoolOp .Or (a::b::j8) pos) (or3 tA tB):=
 qog (qmn ha hb) λ_ _ _ ⟨τ,G,q,rl,h,af⟩=>WT rl h λk G1 h1 H1 hr1 k1 rl1=>by
  cases k with
  |true=>rw [if_pos rfl] at h1 ⊢;exact af _ G1 h1 H1 hr1 k1
  |false=>rw [if_neg Bool.false_ne_true] at h1 ⊢;exact ⟨τ,G1,q,rl1,h1,af.back k1⟩
def qly (ha:C3 X a tA):C3 X (.UnaryOp .Not a pos) (D7 tA):=
 qlR (qj7 ha) λ_ _ _ ⟨τ,G,q,rl,h,af⟩=>WT rl h λk G1 h1 H1 hr1 k1 rl1=>af _ G1 h1 H1 hr1 k1
def qnC {e:Expr} {t:TE3} (h:E3 X e t) (he:∀ whole,isTrue e X.env whole=(do let v←whole;standAt e.pos;holding [v] (truthy v)):=by intro _;rfl):C3 X e (tb3 t):=
 qlR (qkd h he) λ_ _ _ h=>qj4 (λ_ _ _ h=>h) h
def ZM (ta tb:TE3):TE3:=λτ G q=>ta τ G λx G1=>match x with|.bl k=>if k=true then tb τ G1 q else q (.bl false) G1|_=>False
def LO (ta:TE3):TE3:=λτ G q=>ta τ G λx G1=>match x with|.bl k=>q (.bl (!k)) G1|_=>False
def qms {op} (h:E3 X a ta):E3 X (.BoolOp op [a] pos) ta:=qjQ h
def qna (ha:E3 X a ta) (hb:E3 X (.BoolOp .And (b::j8) pos) tb):E3 X (.BoolOp .And (a::b::j8) pos) (ZM ta tb):=
 U3 (qiZ ha hb) λ_ _ _ ⟨τ,G,q,rl,h,af⟩=>zl rl h λx G1 h1 v H1 rx hr1 k1 rl1=>by
  cases x with
  |bl k=>
   cases rx;refine ⟨k,rfl,?_⟩;cases k with
   |true=>rw [if_pos rfl];exact ⟨τ,G1,q,rl1,(show tb τ G1 q from by simpa using h1),af.back k1⟩
   |false=>rw [if_neg Bool.false_ne_true];exact af _ G1 (by simpa using h1) _ H1 (.bl false) hr1 k1
  |_=>exact h1.elim
def qlP (ha:E3 X a ta):E3 X (.UnaryOp .Not a pos) (LO ta):=
 U3 (qh2 ha) λ_ _ _ ⟨τ,G,q,rl,h,af⟩=>zl rl h λx G1 h1 v H1 rx hr1 k1 rl1=>by
  cases x with
  |bl k=>cases rx;exact ⟨k,rfl,af _ G1 h1 _ H1 (.bl _) hr1 k1⟩
  |_=>exact h1.elim
def if3 (t:TT3) (ta tb:TE3):TE3:=λτ G q=>t τ G λk G1=>if k=true then ta τ G1 q else tb τ G1 q
def qo0 {c:Expr} (hc:C3 X c tA) (ha:E3 X a ta) (hb:E3 X b tb):E3 X (.IfExp c a b pos) (if3 tA ta tb):=
 U3 (qbO hc ha hb) λ_ _ _ ⟨τ,G,q,rl,h,af⟩=>WT rl h λk G1 h1 H1 hr1 k1 rl1=>by
  cases k with
  |true=>rw [if_pos rfl] at h1 ⊢;exact ⟨τ,G1,q,rl1,h1,af.back k1⟩
  |false=>rw [if_neg Bool.false_ne_true] at h1 ⊢;exact ⟨τ,G1,q,rl1,h1,af.back k1⟩
variable {e:Expr} {es:List Expr} {te:TE3} {t:TA3}
def ql:TA3:=λ_ G q=>q [] G
def qc (ta:TE3) (tr:TA3):TA3:=λτ G q=>ta τ G λx G1=>tr τ G1 λxs G2=>q (x::xs) G2
def ql9:A3 X [] ql:=qom T9 λ_ H _ ⟨τ,G,q,rl,h,af⟩=>af _ G h _ H .nil rl.hp Kp.refl
def qkG (ha:E3 X e te) (hr:A3 X es t) (hs:starEach (e::es) X.env=(false,eval e X.env)::starEach es X.env:=by rfl):A3 X (e::es) (qc te t):=
 qom (YU ha hr hs) λ_ _ _ ⟨τ,G,q,rl,h,af⟩=>zl rl h λx G1 h1 v H1 rx hr1 k1 rl1=>QR rl1 h1 λxs G2 h2 vs H2 rs hr2 k2 rl2=>
  af _ G2 h2 _ H2 (.cons (rx.keep hr1 k2) rs) hr2 (k1.trans k2)
def WC (t:TA3):TE3:=λτ G q=>t τ G λxs G1=>xs.length<=sizeLine/\q (.tup xs) G1
def RN (t:TA3):TE3:=λτ G q=>t τ G λxs G1=>xs.length<=sizeLine/\∀ p,G1 p=none->q (.ref p) (gu G1 p (.lst xs))
def qnx {x1} (h:A3 X es t):E3 X (.Tuple es x1 pos) (WC t):=
 U3 (qdb h) λ_ _ _ ⟨τ,G,q,rl,h,af⟩=>QR rl h λxs G1 h1 vs H1 rs hr1 k1 rl1=>⟨by rw [← rs.length];exact h1.1,λp hp=>
  af _ G1 h1.2 _ _ (.tup (SqT.of qJ) (rs.keep hr1 (Kp.laid hp))) (hr1.laid hp) (k1.trans (Kp.laid hp))⟩
def qm0 (h:A3 X es t):E3 X (.List es pos) (RN t):=
 U3 (qjJ h) λ_ _ _ ⟨τ,G,q,rl,h,af⟩=>QR rl h λxs G1 h1 vs H1 rs hr1 k1 rl1=>⟨by rw [← rs.length];exact h1.1,λp hp=>
  af _ _ (h1.2 p (hr1.free hp)) _ _ (.ref p) (hr1.newL hp rs) (k1.trans (Kp.newL hp))⟩
def LB (K:Frg) (r3:List T->Gp->Q3->Prop) (r:List V->Hp->VK->Prop):Prop:=∀ xs vs G H q Q,HR K G H->Rps K H xs vs->r3 xs G q->Aft K G H q Q->r vs H Q
def cb3 (r:List T->Gp->Q3->Prop) (t:TA3):TE3:=λτ G q=>t τ G λxs G1=>r xs G1 q
def qke {K:Frg} {r3:List T->Gp->Q3->Prop} {r:List V->Hp->VK->Prop} (hr:LB K r3 r) {σ:L2.St} {H:Hp} {Q:VK} (h:lE K (cb3 r3 t) σ H Q):tCB r (lA K t) σ H Q:=by
 obtain ⟨τ,G,q,rl,h,af⟩:=h;exact QR rl h λxs G1 h1 vs H1 rs hr1 k1 rl1=>hr xs vs G1 H1 q Q hr1 rs h1 (af.back k1)
def qfv {x:Str} {p:Pos} {id:String} {r3:List T->Gp->Q3->Prop} {r:List V->Hp->VK->Prop} (hc:JM X (.builtin id) r) (hr:LB X.K r3 r) (hg:Gl X x) (hm:X.mg x=none) (hv:bootBuiltins x=some (.builtin id)) (ha:A3 X (e::es) t) (hn:x≠"__name__" := by decide) (hdb:(x==("__debug__" : Str))=false:=by decide)
  (he:starEach (e::es) X.env=(false,eval e X.env)::starEach es X.env:=by rfl) (hpl:(backTo pos (starEach es X.env)).any (·.1)=false:=by rfl):E3 X (.Call (.Name x p) (e::es) [] pos) (cb3 r3 t):=
 U3 (XQ hc hg hm hv ha hn hdb he hpl) λ_ _ _ h=>qke hr h
def qcb {x:Str} {p:Pos} {ty:String} {r3:List T->Gp->Q3->Prop} {r:List V->Hp->VK->Prop} (hc:JM X (.type ty) r) (hr:LB X.K r3 r) (hg:Gl X x) (hm:X.mg x=none) (hv:bootBuiltins x=some (.type ty)) (ha:A3 X (e::es) t) (hn:x≠"__name__" := by decide) (hdb:(x==("__debug__" : Str))=false:=by decide)
  (he:starEach (e::es) X.env=(false,eval e X.env)::starEach es X.env:=by rfl) (hpl:(backTo pos (starEach es X.env)).any (·.1)=false:=by rfl):E3 X (.Call (.Name x p) (e::es) [] pos) (cb3 r3 t):=
 U3 (N7 hc hg hm hv ha hn hdb he hpl) λ_ _ _ h=>qke hr h
end
def getL (G:Gp) (p:Addr):Option (List T):=match G p with|some (.lst xs)=>some xs|some (.frz xs)=>some xs|_=>none
section
variable {K:Frg} {G G':Gp} {H H':Hp}
def zK (hr:HR K G H) {p:Addr} {xs:List T} (h:getL G p=some xs):∃ vs,SqL K H p vs/\Rps K H xs vs:=by
 unfold getL at h;split at h
 ·rename_i ys e;cases h;obtain ⟨vs,h1,h2⟩:=hr p _ e;exact ⟨vs,SqL.of h1,h2⟩
 ·rename_i ys e;cases h;obtain ⟨vs,⟨o,h1⟩,h2⟩:=hr p _ e;exact ⟨vs,.inl (.inr ⟨o,h1⟩),h2⟩
 ·cases h
def HR.lst (hr:HR K G H) {p:Addr} {xs:List T} (h:G p=some (.lst xs)):∃ vs,H p=some (.lst vs)/\Rps K H xs vs:=hr p _ h
def Rps.atI {xs:List T} {vs:List V} {i:Int} {x:T} (r:Rps K H xs vs) (h:atI xs i=some x):∃ v,L2.atI vs i=some v/\Rp K H x v:=by
 unfold L2.atI at h ⊢;rw [← r.length];cases e:ixN xs.length i with
 |none=>rw [e] at h;cases h
 |some j=>
  rw [e] at h;exact r.get (by simpa using h)
end
def ix3:R3:=λx y G q=>match x,y with
 |.tup xs,.int i=>(match atI xs i with|some z=>q z G|none=>False)
 |.ref p,.int i=>(match getL G p with|some xs=>(match atI xs i with|some z=>q z G|none=>False)|none=>False)
 |_,_=>False
section
variable {X:Cx} {a b c e:Expr} {es:List Expr} {ta tb tc te:TE3} {t:TA3} {pos:Pos}
def qhd {K:Frg}:DI K ix3 (rIx K):=λx y v u G H q Q hr rx ry h af=>by
 cases x<;>try exact h.elim
 case tup xs=>
  cases y<;>try exact h.elim
  case int i=>
   unfold ix3 at h;simp only at h;split at h
   ·rename_i z e;cases ry;cases rx with
    |tup hs rs=>
     obtain ⟨w,e2,rw'⟩:=rs.atI e;exact .inr (.inl ⟨_,_,i,w,rfl,rfl,hs,e2,af z G h w H rw' hr Kp.refl⟩)
   ·exact h.elim
 case ref p=>
  cases y<;>try exact h.elim
  case int i=>
   unfold ix3 at h;simp only at h;split at h
   ·rename_i xs e0;split at h
    ·rename_i z e;cases ry;cases rx;obtain ⟨vs,hs,rs⟩:=zK hr e0;obtain ⟨w,e2,rw'⟩:=rs.atI e;exact .inl ⟨p,vs,i,w,rfl,rfl,hs,e2,af z G h w H rw' hr Kp.refl⟩
    ·exact h.elim
   ·exact h.elim
def qoy (ha:E3 X a ta) (hb:E3 X b tb) (hs:R0 b:=by intro _ _;rfl):E3 X (.Subscript a b pos) (o3 ix3 ta tb):=U3 (qmD qgR ha hb hs) λ_ _ _ h=>qb2 qhd h
def V3 {α:Type} (xs:List α) (lo hi:Option Int):List α:=(xs.drop (HT.sIx xs.length 0 lo)).take (HT.sIx xs.length xs.length hi-HT.sIx xs.length 0 lo)
def Rps.cut {K:Frg} {H:Hp} {xs:List T} {vs:List V} (r:Rps K H xs vs) (lo hi:Option Int):Rps K H (V3 xs lo hi) (qed vs lo hi):=by
 unfold V3 qed;rw [r.length];exact (r.drop _).take _
abbrev TO3:=St3->Gp->(Option Int->Gp->Prop)->Prop
def lO (K:Frg) (t:TO3):TO:=λσ H Q=>∃ τ G q,Rel K τ G σ H/\t τ G q/\∀ x G',q x G'->∀ H',HR K G' H'->Kp G H G' H'->Q x H'
abbrev P3 (X:Cx) (e:Option Expr) (t:TO3):Prop:=PO X e (lO X.K t)
def np3:TO3:=λ_ G q=>q none G
def sp3 (t:TE3):TO3:=λτ G q=>t τ G λx G1=>match x with|.int i=>q (some i) G1|_=>False
def qok {X:Cx} {e:Option Expr} {t t':TO} (h:PO X e t) (w:∀ σ H Q,t' σ H Q->t σ H Q):PO X e t':=λpins s σ H Q I q=>h pins s σ H Q I (w σ H Q q)
def qkf:P3 X none np3:=qok qeU λ_ H _ ⟨τ,G,q,rl,h,af⟩=>af none G h H rl.hp Kp.refl
def qjT (h:E3 X e te):P3 X (some e) (sp3 te):=qok (qfw h) λ_ _ _ ⟨τ,G,q,rl,h,af⟩=>zl rl h λx G1 h1 v H1 rx hr1 k1 rl1=>by
 cases x<;>try exact h1.elim
 cases rx;exact ⟨_,rfl,af _ G1 h1 H1 hr1 k1⟩
def qaT {K:Frg} {H:Hp} {xs:List T} {vs:List V} (r:Rps K H xs vs):vs=[]↔xs=[]:=by
 cases r<;>simp
def V1:R3:=λx y G q=>match x,y with
 |.tup xs,.tup ys=>xs≠[]/\xs.length+ys.length<=sizeLine/\q (.tup (xs++ys)) G
 |.ref a,.ref b=>(match G a,G b with|some (.lst xs),some (.lst ys)=>xs.length+ys.length<=sizeLine/\∀ p,G p=none->q (.ref p) (gu G p (.lst (xs++ys)))|_,_=>False)
 |.int i,.int j=>q (.int (i+j)) G
 |_,_=>False
def XB {K:Frg}:DI K V1 (λx y H Q=>(rI0 (λi j=>.int (i+j)) x y H Q\/qeq K x y H Q)\/qmY x y H Q):=λx y v u G H q Q hr rx ry h af=>by
 cases x<;>try exact h.elim
 case int i=>
  cases y<;>try exact h.elim
  cases rx;cases ry;exact .inl (.inl ⟨_,_,rfl,rfl,af _ G h _ H (.int _) hr Kp.refl⟩)
 case tup xs=>
  cases y<;>try exact h.elim
  case tup ys=>
   obtain ⟨h1,h2,h3⟩:=h;cases rx with
   |tup hs rs=>
    cases ry with
    |tup hs' rs'=>
     refine .inl (.inr ⟨_,_,_,_,rfl,rfl,hs,hs',λz=>h1 ((qaT rs).mp z),by rw [← rs.length,← rs'.length];exact h2,λz=>?_,λz p hp=>?_⟩)
     ·have e:=(qaT rs').mp z;subst e;rw [List.append_nil] at h3;exact af _ G h3 _ H (.tup hs rs) hr Kp.refl
     ·exact af _ G h3 _ _ (.tup (SqT.of qJ) ((rs.append rs').keep hr (Kp.laid hp))) (hr.laid hp) (Kp.laid hp)
 case ref a=>
  cases y<;>try exact h.elim
  case ref b=>
   unfold V1 at h;simp only at h;split at h
   ·rename_i xs ys e1 e2;cases rx;cases ry;obtain ⟨vs,g1,r1⟩:=hr.lst e1;obtain ⟨us,g2,r2⟩:=hr.lst e2;refine .inr ⟨a,b,vs,us,rfl,rfl,g1,g2,by rw [← r1.length,← r2.length];exact h.1,λp hp=>?_⟩;exact af _ _ (h.2 p (hr.free hp)) _ _ (.ref p) (hr.newL hp (r1.append r2)) (Kp.newL hp)
   ·exact h.elim
def qgD (ha:E3 X a ta) (hb:E3 X b tb):E3 X (.BinOp a .Add b pos) (o3 V1 ta tb):=qbK ((qcF.or qaW).or qdV) XB ha hb
def DY:T->Bool
 |.non=>true|.bl _=>true|.int _=>true|.str _=>true|_=>false
def eqF:T->T->Bool
 |.non,.non=>true
 |.bl a,.bl b=>a==b
 |.bl a,.int b=>(if a then 1 else 0)==b
 |.int a,.bl b=>a==(if b then 1 else 0)
 |.int a,.int b=>a==b
 |.str a,.str b=>a==b
 |_,_=>false
def SI {K:Frg} {H:Hp} {x:T} {v:V} (r:Rp K H x v) (h:DY x=true):D8 v=true:=by
 cases r<;>first|rfl|(cases h)
def W0 {K:Frg} {H:Hp}:∀ {x:List T} {v:List V},Rps K H x v->x.all DY=true->v.all D8=true
 |_,_,.nil,_=>rfl
 |_,_,.cons a b,h=>by
  rw [List.all_cons,Bool.and_eq_true] at h ⊢;exact ⟨SI a h.1,W0 b h.2⟩
def qkb {K:Frg} {H:Hp} {x y:T} {v u:V} (r:Rp K H x v) (s:Rp K H y u) (h:DY x=true) (h':DY y=true):eqV v u=eqF x y:=by
 cases r<;>first|(cases h;done)|(cases s<;>first|rfl|(cases h';done))
def NB {K:Frg} {H:Hp} {x:T} {v:V} (r:Rp K H x v) (h:DY x=true):∀ {ys:List T} {us:List V},Rps K H ys us->ys.all DY=true->inV v us=ys.any λy=>eqF y x
 |_,_,.nil,_=>rfl
 |_,_,.cons a b,h'=>by
  rw [List.all_cons,Bool.and_eq_true] at h';unfold inV;rw [List.any_cons,List.any_cons,qkb a r h'.1 h];congr 1;exact NB r h b h'.2
def in3 (neg:Bool):R3:=λx y G q=>DY x=true/\match y with
 |.tup ys=>ys.all DY=true/\q (.bl (if neg then !(ys.any λy=>eqF y x) else (ys.any λy=>eqF y x))) G
 |.ref p=>(match getL G p with|some ys=>ys.all DY=true/\q (.bl (if neg then !(ys.any λy=>eqF y x) else (ys.any λy=>eqF y x))) G|none=>False)
 |_=>False
def qdA {K:Frg} {neg:Bool}:DI K (in3 neg) (rIn K neg):=λx y v u G H q Q hr rx ry h af=>by
 obtain ⟨hf,h⟩:=h;cases y<;>try exact h.elim
 case tup ys=>
  cases ry with
  |tup hs rs=>
   refine ⟨_,_,rfl,.inr hs,SI rx hf,W0 rs h.1,?_⟩;rw [NB rx hf rs h.1];exact af _ G h.2 _ H (.bl _) hr Kp.refl
 case ref p=>
  simp only at h;split at h
  ·rename_i ys e;cases ry;obtain ⟨us,hs,rs⟩:=zK hr e;refine ⟨_,_,rfl,.inl hs,SI rx hf,W0 rs h.1,?_⟩;rw [NB rx hf rs h.1];exact af _ G h.2 _ H (.bl _) hr Kp.refl
  ·exact h.elim
def V2:List T->Gp->Q3->Prop:=λxs G q=>match xs with
 |[.tup ys]=>q (.int ys.length) G
 |[.str y]=>y.length<=sizeLine/\q (.int y.length) G
 |[.ref p]=>(match getL G p with|some ys=>q (.int ys.length) G|none=>False)
 |_=>False
def CL {K:Frg} {H:Hp} {x:T} {vs:List V} (r:Rps K H [x] vs):∃ v,vs=[v]/\Rp K H x v:=by
 cases r with
 |cons a b=>cases b;exact ⟨_,rfl,a⟩
def qk4 {K:Frg} {H:Hp} {x y:T} {vs:List V} (r:Rps K H [x,y] vs):∃ v u,vs=[v,u]/\Rp K H x v/\Rp K H y u:=by
 cases r with
 |cons a b=>cases b with|cons c d=>cases d;exact ⟨_,_,rfl,a,c⟩
def zp {K:Frg}:LB K V2 (λxs H Q=>∃ x n,xs=[x]/\qof K x H n/\Q (.int n) H):=λxs vs G H q Q hr rs h af=>by
 unfold V2 at h;split at h
 ·obtain ⟨v,rfl,r⟩:=CL rs;cases r with
  |tup hs r2=>exact ⟨_,_,rfl,.inr ⟨_,hs,rfl⟩,by rw [← r2.length];exact af _ G h _ H (.int _) hr Kp.refl⟩
 ·obtain ⟨v,rfl,r⟩:=CL rs;cases r;exact ⟨_,_,rfl,⟨h.1,rfl⟩,af _ G h.2 _ H (.int _) hr Kp.refl⟩
 ·obtain ⟨v,rfl,r⟩:=CL rs;split at h
  ·rename_i ys e;cases r;obtain ⟨us,hs,r2⟩:=zK hr e;exact ⟨_,_,rfl,.inl ⟨_,hs,rfl⟩,by rw [← r2.length];exact af _ G h _ H (.int _) hr Kp.refl⟩
  ·exact h.elim
 ·exact h.elim
def qkt:List T->Gp->Q3->Prop:=λxs G q=>match xs with|[.int i]=>q (.int (if i<0 then -i else i)) G|_=>False
def NZ {K:Frg}:LB K qkt (λxs H Q=>∃ i,xs=[.int i]/\Q (.int (if i<0 then -i else i)) H):=λxs vs G H q Q hr rs h af=>by
 unfold qkt at h;split at h
 ·obtain ⟨v,rfl,r⟩:=CL rs;cases r;exact ⟨_,rfl,af _ G h _ H (.int _) hr Kp.refl⟩
 ·exact h.elim
def qhi:List T->Gp->Q3->Prop:=λxs G q=>match xs with|[.int i,.int j]=>q (.int (if j<i then j else i)) G|_=>False
def qeN {K:Frg}:LB K qhi (λxs H Q=>∃ i j,xs=[.int i,.int j]/\Q (.int (if j<i then j else i)) H):=λxs vs G H q Q hr rs h af=>by
 unfold qhi at h;split at h
 ·obtain ⟨v,u,rfl,r,r'⟩:=qk4 rs;cases r;cases r';exact ⟨_,_,rfl,af _ G h _ H (.int _) hr Kp.refl⟩
 ·exact h.elim
def JG:List T->Gp->Q3->Prop:=λxs G q=>match xs with
 |[.tup ys]=>q (.tup ys) G
 |[.ref p]=>(match getL G p with|some ys=>q (.tup ys) G|none=>False)
 |_=>False
def jU {K:Frg}:LB K JG (λxs H Q=>∃ p ys,xs=[.ref p]/\((SqL K H p ys/\∀ l,H l=none->Q (.ref l) (upd H l (.tup ys)))\/(SqT K H p ys/\Q (.ref p) H))):=λxs vs G H q Q hr rs h af=>by
 unfold JG at h;split at h
 ·obtain ⟨v,rfl,r⟩:=CL rs;cases r with
  |tup hs r2=>exact ⟨_,_,rfl,.inr ⟨hs,af _ G h _ H (.tup hs r2) hr Kp.refl⟩⟩
 ·obtain ⟨v,rfl,r⟩:=CL rs;split at h
  ·rename_i ys e;cases r;obtain ⟨us,hs,r2⟩:=zK hr e;exact ⟨_,_,rfl,.inl ⟨hs,λl hl=>af _ G h _ _ (.tup (SqT.of qJ) (r2.keep hr (Kp.laid hl))) (hr.laid hl) (Kp.laid hl)⟩⟩
  ·exact h.elim
 ·exact h.elim
def qaD:List T->Gp->Q3->Prop:=λxs G q=>match xs with
 |[.tup ys]=>∀ p,G p=none->q (.ref p) (gu G p (.lst ys))
 |[.ref p]=>(match getL G p with|some ys=>∀ p,G p=none->q (.ref p) (gu G p (.lst ys))|none=>False)
 |_=>False
def qbI {K:Frg}:LB K qaD (λxs H Q=>∃ p ys,xs=[.ref p]/\(SqL K H p ys\/SqT K H p ys)/\∀ l,H l=none->Q (.ref l) (upd H l (.lst ys))):=λxs vs G H q Q hr rs h af=>by
 unfold qaD at h;split at h
 ·obtain ⟨v,rfl,r⟩:=CL rs;cases r with
  |tup hs r2=>exact ⟨_,_,rfl,.inr hs,λl hl=>af _ _ (h l (hr.free hl)) _ _ (.ref l) (hr.newL hl r2) (Kp.newL hl)⟩
 ·obtain ⟨v,rfl,r⟩:=CL rs;split at h
  ·rename_i ys e;cases r;obtain ⟨us,hs,r2⟩:=zK hr e;exact ⟨_,_,rfl,.inl hs,λl hl=>af _ _ (h l (hr.free hl)) _ _ (.ref l) (hr.newL hl r2) (Kp.newL hl)⟩
  ·exact h.elim
 ·exact h.elim
def qfx:T->List T->Gp->Q3->Prop:=λx xs G q=>match x,xs with
 |.ref l,[y]=>(match G l with|some (.lst ys)=>ys.length<sizeLine/\q .non (gu G l (.lst (ys++[y])))|_=>False)
 |_,_=>False
def qk9 (K:Frg) (r3:T->List T->Gp->Q3->Prop) (r:V->List V->Hp->VK->Prop):Prop:=∀ x xs v vs G H q Q,HR K G H->Rp K H x v->Rps K H xs vs->r3 x xs G q->Aft K G H q Q->r v vs H Q
def qfo {K:Frg}:qk9 K qfx N5:=λx xs v vs G H q Q hr rx rs h af=>by
 unfold qfx at h;split at h
 ·rename_i l y;split at h
  ·rename_i ys e1;cases rx;obtain ⟨u,rfl,r⟩:=CL rs;obtain ⟨vs,g1,r1⟩:=hr.lst e1;exact ⟨l,vs,u,rfl,rfl,g1,by rw [← r1.length];exact h.1,af _ _ h.2 _ _ .non (hr.wr e1 (r1.append (.cons r .nil))) (Kp.wr e1)⟩
  ·exact h.elim
 ·exact h.elim
def bm3 (r:T->List T->Gp->Q3->Prop) (to:TE3) (t:TA3):TE3:=λτ G q=>to τ G λx G1=>(match x with|.ref p=>(getL G1 p).isSome=true|_=>False)/\t τ G1 λxs G2=>r x xs G2 q
def qny {o:Expr} {to:TE3} {name:Str} {apos cpos:Pos} {id:String} {r3:T->List T->Gp->Q3->Prop} {r:V->List V->Hp->VK->Prop} (slot:Slot "list" name id) (hty:typeOf (.builtin id)=pure (.type "method_descriptor")) (hm:MtR X id r) (hr:qk9 X.K r3 r) (ho:E3 X o to) (ha:A3 X (e::es) t)
  (hbase:attributeBase o name X.env (eval o X.env)=eval o X.env:=by rfl)
  (hfew:((backTo cpos (starEach (e::es) X.env)).all (λx=>!x.1)&&(backToKw cpos (keywordEach [] X.env)).all (λx=>x.1.isSome)
   && decide ((e::es).length+([]:List Keyword).length+(if ([]:List Keyword).isEmpty then 0 else 1)<30))=true:=by rfl)
  (hline:(apos.endLine==cpos.line)=true:=by rfl) (hs:starEach (e::es) X.env=(false,eval e X.env)::starEach es X.env:=by rfl) (hplain:(backTo cpos (starEach es X.env)).any (·.1)=false:=by rfl) :
  E3 X (.Call (.Attribute o name apos) (e::es) [] cpos) (bm3 r3 to t):=
 U3 (qm2 PySem.F.plainAttrs_list slot hty hm ho ha hbase hfew hline hs hplain) λ_ _ _ ⟨τ,G,q,rl,h,af⟩=>zl rl h λx G1 h1 v H1 rx hr1 k1 rl1=>by
  obtain ⟨hp,h1⟩:=h1;cases x<;>try exact hp.elim
  case ref p=>
   cases rx;have hp':(getL G1 p).isSome=true:=hp;obtain ⟨ys,e⟩:=Option.isSome_iff_exists.mp hp';obtain ⟨us,hs,r2⟩:=zK hr1 e;exact ⟨.inl ⟨rfl,us,hs⟩,QR rl1 h1 λxs G2 h2 vs H2 rs hr2 k2 rl2=>hr _ xs _ vs G2 H2 q _ hr2 (.ref p) rs h2 (af.back (k1.trans k2))⟩
def qbx {o:Expr} {to:TE3} {apos cpos:Pos} (ho:E3 X o to) (ha:A3 X [e] t)
  (hbase:attributeBase o "append" X.env (eval o X.env)=eval o X.env:=by rfl)
  (hfew:((backTo cpos (starEach [e] X.env)).all (λx=>!x.1)&&(backToKw cpos (keywordEach [] X.env)).all (λx=>x.1.isSome)
   && decide (([e]:List Expr).length+([]:List Keyword).length+(if ([]:List Keyword).isEmpty then 0 else 1)<30))=true:=by rfl)
  (hline:(apos.endLine==cpos.line)=true:=by rfl) (hs:starEach [e] X.env=(false,eval e X.env)::starEach [] X.env:=by rfl) (hplain:(backTo cpos (starEach [] X.env)).any (·.1)=false:=by rfl) :
  E3 X (.Call (.Attribute o "append" apos) [e] [] cpos) (bm3 qfx to t):=qny PySem.F.slot_list_append PySem.F.type_list_append Y7 qfo ho ha hbase hfew hline hs hplain
end
def tyT (G:Gp):T->Option String
 |.non=>some "NoneType" |.bl _=>some "bool" |.int _=>some "int" |.str _=>some "str" |.tup _=>some "tuple"
 |.ref p=>if (getL G p).isSome then some "list" else none
def qZ (t c:String):Bool:=t==c||(t == "bool" && c == "int")
def W2 (K:Frg):∀ t∈["NoneType","bool","int","str","tuple","list"],∀ c∈["bool","int","str","tuple","list"],PySem.W.kitOne K (.type t) (.type c)=some (qZ t c):=by
 intro t ht c hc;simp only [mem_cons,not_mem_nil,or_false] at ht hc;rcases ht with rfl|rfl|rfl|rfl|rfl|rfl<;>rcases hc with rfl|rfl|rfl|rfl|rfl<;>kernel_rfl
section
variable {X:Cx} {a b c e:Expr} {es:List Expr} {ta tb tc te:TE3} {t:TA3} {pos:Pos}
def TyS (K:Frg) (H:Hp) (x:V) (t:String):Prop:=match x with
 |.non=>t="NoneType" |.bl _=>t="bool" |.int _=>t="int" |.str _=>t="str"
 |.ref a=>(t="tuple"/\∃ vs,SqT K H a vs)\/(t="list"/\∃ vs,SqL K H a vs)
 |_=>False
def TyS.mem {K:Frg} {H:Hp} {x:V} {t:String} (h:TyS K H x t):t∈["NoneType","bool","int","str","tuple","list"]:=by
 cases x<;>simp [TyS] at h<;>first|(subst h;decide)|(rcases h with ⟨rfl,_⟩|⟨rfl,_⟩<;>decide)
def TyS.kitx {pins:List (Addr×Obj)} {σ:L2.St} {H:Hp} {s:Shared} {x:V} {u:Value} {t:String} (I:Inv X pins σ H s) (rx:jk x u) (h:TyS X.K H x t) :
  ∃ HH:Heap->Prop,PySem.W.KitX X.K u (.type t) HH/\HH s.heap/\u≠.builtin "__main__.__loader__#opaque" := by
 cases x with
 |non=>cases (show u=Value.none from rx);cases (show t=_ from h);exact ⟨_,PySem.W.kitx_none,True.intro,λz=>nomatch z⟩
 |bl y=>cases (show u=Value.bool y from rx);cases (show t=_ from h);exact ⟨_,PySem.W.kitx_bool,True.intro,λz=>nomatch z⟩
 |int i=>obtain ⟨tk,q⟩:=(show ∃ t,u=Value.int i t from rx);cases q;cases (show t=_ from h);exact ⟨_,PySem.W.kitx_int,True.intro,λz=>nomatch z⟩
 |str y=>obtain ⟨tk,q⟩:=(show ∃ t,u=Value.str y t from rx);cases q;cases (show t=_ from h);exact ⟨_,PySem.W.kitx_str,True.intro,λz=>nomatch z⟩
 |ref a=>
  cases (show u=Value.ref a from rx);rcases (show (t="tuple"/\∃ vs,SqT X.K H a vs)\/(t="list"/\∃ vs,SqL X.K H a vs) from h) with ⟨rfl,vs,hs⟩|⟨rfl,vs,hs⟩
  ·obtain ⟨its,_,p,_⟩:=I.tuple hs;obtain ⟨o,h1,h2,_⟩:=p;exact ⟨_,PySem.W.kitx_tuple,⟨o,h1,h2⟩,λz=>nomatch z⟩
  ·obtain ⟨its,_,p,_⟩:=I.list hs;obtain ⟨o,n,h1,h2,_⟩:=p;exact ⟨_,PySem.W.kitx_list,⟨o,h1,h2⟩,λz=>nomatch z⟩
 |_=>exact False.elim h
abbrev jY:List String:=["bool","int","str","tuple","list"]
def qb9:JM X (.builtin "isinstance") (λxs H Q=>∃ x t c,xs=[x,.ty c]/\TyS X.K H x t/\c∈jY/\Q (.bl (qZ t c)) H):=by
 intro pins s σ H xs us Q I r h;obtain ⟨x,t,c,rfl,ht,hc,q⟩:=h;obtain ⟨u,w,rfl,rx,rc⟩:=K1 r;cases (show w=Value.type c from rc);obtain ⟨HH,kx,hh,ne⟩:=ht.kitx I rx;exact PySem.W.kia_one kx I.kIn hh (W2 X.K t ht.mem c hc) ne λtk=>⟨.bl _,H,I.tok tk,rfl,q⟩
def qbF (K:Frg) {t c d:String} (ht:t∈["NoneType","bool","int","str","tuple","list"]) (hc:c∈jY) (hd:d∈jY):PySem.W.kitAny K (.type t) [.type c,.type d]=some (qZ t c||qZ t d):=by
 unfold PySem.W.kitAny;rw [W2 K t ht c hc];cases qZ t c with
 |true=>rfl
 |false=>
  show PySem.W.kitAny K (.type t) [.type d]=_;unfold PySem.W.kitAny;rw [W2 K t ht d hd];cases qZ t d<;>rfl
def MU:JM X (.builtin "isinstance") (λxs H Q=>∃ x t c d p,xs=[x,.ref p]/\H p=some (.tup [.ty c,.ty d])/\TyS X.K H x t/\c∈jY/\d∈jY/\Q (.bl (qZ t c||qZ t d)) H):=by
 intro pins s σ H xs us Q I r h;obtain ⟨x,t,c,d,p,rfl,hp,ht,hc,hd,q⟩:=h;obtain ⟨u,w,rfl,rx,rc⟩:=K1 r;cases (show w=Value.ref p from rc);obtain ⟨HH,kx,hh,ne⟩:=ht.kitx I rx;obtain ⟨_,its,rv,⟨o,ho,hcl,n,hda,_⟩⟩:=(show Z5 X.prog X.w H s.heap p (.tup [.ty c,.ty d]) from I.hok p _ hp)
 obtain ⟨u1,u2,rfl,r1,r2⟩:=K1 rv;cases (show u1=Value.type c from r1);cases (show u2=Value.type d from r2);obtain ⟨cl,dd,da,sl⟩:=o;cases (show cl=_ from hcl);cases (show da=_ from hda);exact PySem.W.kia_tup kx I.kIn hh ho (qbF X.K ht.mem hc hd) ne λtk=>⟨.bl _,H,I.tok tk,rfl,q⟩
def qc7 {K:Frg} {G:Gp} {H:Hp} (hr:HR K G H) {x:T} {v:V} {t:String} (r:Rp K H x v) (h:tyT G x=some t):TyS K H v t:=by
 cases r with
 |non=>cases h;rfl
 |bl _=>cases h;rfl
 |int _=>cases h;rfl
 |str _=>cases h;rfl
 |tup hs rs=>cases h;exact .inl ⟨rfl,_,hs⟩
 |ref a=>
  have h:(if (getL G a).isSome then some "list" else none)=some t:=h;split at h
  ·rename_i e;cases h;obtain ⟨ys,e⟩:=Option.isSome_iff_exists.mp e;obtain ⟨us,hs,_⟩:=zK hr e;exact .inr ⟨rfl,us,hs⟩
  ·cases h
def YW (f:String->Bool) (te:TE3):TE3:=λτ G q=>te τ G λx G1=>match tyT G1 x with|some t=>q (.bl (f t)) G1|none=>False
def qmP {tn:Str} {ty:String} {p p2:Pos} (he:E3 X e te) (hg:Gl X "isinstance") (hm:X.mg "isinstance" = none) (hg2:Gl X tn) (hm2:X.mg tn=none) (hv:bootBuiltins tn=some (.type ty)) (hmem:ty∈jY:=by decide) (hn:tn≠"__name__" := by decide) (hdb:(tn==("__debug__" : Str))=false:=by decide)
  (hs:starEach [e,.Name tn p2] X.env=(false,eval e X.env)::starEach [.Name tn p2] X.env:=by rfl) (hs2:starEach [.Name tn p2] X.env=(false,eval (.Name tn p2) X.env)::starEach [] X.env:=by rfl) (hpl:(backTo pos (starEach [.Name tn p2] X.env)).any (·.1)=false:=by rfl) :
  E3 X (.Call (.Name "isinstance" p) [e,.Name tn p2] [] pos) (YW (λt=>qZ t ty) te):=
 U3 (XQ qb9 hg hm PyProof.Rows.boot_isinstance (YU he (YU (S4 (v:=.ty ty) hg2 hm2 hv rfl hn hdb) T9 hs2) hs) (by decide) (by decide) hs hpl)
  λ_ _ _ ⟨τ,G,q,rl,h,af⟩=>zl rl h λx G1 h1 v H1 rx hr1 k1 rl1=>by
   split at h1
   ·rename_i t e1;exact ⟨_,t,ty,rfl,qc7 hr1 rx e1,hmem,af _ G1 h1 _ H1 (.bl _) hr1 k1⟩
   ·exact h1.elim
def qgS {tn tn':Str} {ty ty':String} {p p2 p3 p4:Pos} {x1} (he:E3 X e te) (hg:Gl X "isinstance") (hm:X.mg "isinstance" = none) (hg2:Gl X tn) (hm2:X.mg tn=none) (hv:bootBuiltins tn=some (.type ty)) (hg3:Gl X tn') (hm3:X.mg tn'=none) (hv3:bootBuiltins tn'=some (.type ty'))
  (hmem:ty∈jY:=by decide) (hn:tn≠"__name__" := by decide) (hdb:(tn==("__debug__" : Str))=false:=by decide) (hmem3:ty'∈jY:=by decide) (hn3:tn'≠"__name__" := by decide) (hdb3:(tn'==("__debug__" : Str))=false:=by decide)
  (hs:starEach [e,.Tuple [.Name tn p2,.Name tn' p3] x1 p4] X.env=(false,eval e X.env)::starEach [.Tuple [.Name tn p2,.Name tn' p3] x1 p4] X.env:=by rfl) (hs2:starEach [.Tuple [.Name tn p2,.Name tn' p3] x1 p4] X.env=(false,eval (.Tuple [.Name tn p2,.Name tn' p3] x1 p4) X.env)::starEach [] X.env:=by rfl)
  (hs3:starEach [.Name tn p2,.Name tn' p3] X.env=(false,eval (.Name tn p2) X.env)::starEach [.Name tn' p3] X.env:=by rfl) (hs4:starEach [.Name tn' p3] X.env=(false,eval (.Name tn' p3) X.env)::starEach [] X.env:=by rfl)
  (hpl:(backTo pos (starEach [.Tuple [.Name tn p2,.Name tn' p3] x1 p4] X.env)).any (·.1)=false:=by rfl) :
  E3 X (.Call (.Name "isinstance" p) [e,.Tuple [.Name tn p2,.Name tn' p3] x1 p4] [] pos) (YW (λt=>qZ t ty||qZ t ty') te):=
 U3 (XQ MU hg hm PyProof.Rows.boot_isinstance (YU he (YU (qdb (YU (S4 (v:=.ty ty) hg2 hm2 hv rfl hn hdb) (YU (S4 (v:=.ty ty') hg3 hm3 hv3 rfl hn3 hdb3) T9 hs4) hs3)) T9 hs2) hs) (by decide) (by decide) hs hpl)
  λ_ _ _ ⟨τ,G,q,rl,h,af⟩=>zl rl h λx G1 h1 v H1 rx hr1 k1 rl1=>by
   refine ⟨by show 2<=sizeLine;decide,λpp hp=>?_⟩;split at h1
   ·rename_i t e1;have hr2:=hr1.laid (ho:=.tup [.ty ty,.ty ty']) hp;have kk:Kp G1 H1 G1 (upd H1 pp (.tup [.ty ty,.ty ty'])):=Kp.laid hp;exact ⟨_,t,ty,ty',pp,rfl,qJ,qc7 hr2 (rx.keep hr1 kk) e1,hmem,hmem3,af _ G1 h1 _ _ (.bl _) hr2 (k1.trans kk)⟩
   ·exact h1.elim
structure Ends3 where
 nx:St3->Gp->Prop
 rt:Q3
 bk:St3->Gp->Prop:=λ_ _=>False
 ct:St3->Gp->Prop:=λ_ _=>False
abbrev TS3:=Ends3->St3->Gp->Prop
def qcM (K:Frg) (G:Gp) (H:Hp) (q:St3->Gp->Prop) (Q:L2.St->Hp->Prop):Prop:=∀ τ G',q τ G'->∀ σ H',Rel K τ G' σ H'->Kp G H G' H'->Q σ H'
structure AftD (K:Frg) (G:Gp) (H:Hp) (d:Ends3) (D:Ends):Prop where
 nx:qcM K G H d.nx D.nx
 rt:Aft K G H d.rt D.rt
 bk:qcM K G H d.bk D.bk
 ct:qcM K G H d.ct D.ct
def qcM.back {K:Frg} {G G1:Gp} {H H1:Hp} {q:St3->Gp->Prop} {Q:L2.St->Hp->Prop} (a:qcM K G H q Q) (k:Kp G H G1 H1):qcM K G1 H1 q Q:=λx G' h v H' r k'=>a x G' h v H' r (k.trans k')
def AftD.back {K:Frg} {G G1:Gp} {H H1:Hp} {d:Ends3} {D:Ends} (a:AftD K G H d D) (k:Kp G H G1 H1):AftD K G1 H1 d D:=⟨a.nx.back k,a.rt.back k,a.bk.back k,a.ct.back k⟩
def lS (K:Frg) (t:TS3):TS:=λD σ H=>∃ τ G d,Rel K τ G σ H/\t d τ G/\AftD K G H d D
abbrev S3 (X:Cx) (st:Stmt) (t:TS3):Prop:=PS X st (lS X.K t)
abbrev B3 (X:Cx) (st:List Stmt) (t:TS3):Prop:=PSs X st (lS X.K t)
def qa6 {X:Cx} {st:Stmt} {t t':TS} (h:PS X st t) (w:∀ D σ H,t' D σ H->t D σ H):PS X st t':=λpins s σ H D I q=>h pins s σ H D I (w D σ H q)
def qhn {X:Cx} {st:List Stmt} {t t':TS} (h:PSs X st t) (w:∀ D σ H,t' D σ H->t D σ H):PSs X st t':=λpins s σ H D I q=>h pins s σ H D I (w D σ H q)
variable {st:Stmt} {j8:List Stmt} {t1 t2:TS3} {tA:TT3}
def za:TS3:=λd τ G=>d.nx τ G
def qY (t u:TS3):TS3:=λd τ G=>t { d with nx:=u d } τ G
def qmG:B3 X [] za:=qhn qf6 λ_ σ H ⟨τ,G,d,rl,h,af⟩=>af.nx τ G h σ H rl Kp.refl
def qkz (h1:S3 X st t1) (h2:B3 X j8 t2):B3 X (st::j8) (qY t1 t2):=qhn (qcp h1 h2) λD σ H ⟨τ,G,d,rl,h,af⟩=>
 ⟨τ,G,{ d with nx:=t2 d },rl,h,⟨λτ' G' h' σ' H' rl' k'=>⟨τ',G',d,rl',h',af.back k'⟩,af.rt,af.bk,af.ct⟩⟩
def qnD (h1:S3 X st t1):B3 X [st] t1:=qf2 h1
def NC (te:TE3):TS3:=λd τ G=>te τ G λ_ G1=>d.nx τ G1
def qg3 (he:E3 X e te) (hs:swapsWith e none pos.line X.env=pure false:=by rfl):S3 X (.Expr e pos) (NC te):=qa6 (qga he hs) λ_ σ H ⟨τ,G,d,rl,h,af⟩=>
 zl rl h λx G1 h1 v H1 rx hr1 k1 rl1=>af.nx τ G1 h1 σ H1 rl1 k1
def zz (te:TE3):TS3:=λd τ G=>te τ G d.rt
def qmS (he:E3 X e te):S3 X (.Return (some e) pos) (zz te):=qa6 (qkV he) λ_ σ H ⟨τ,G,d,rl,h,af⟩=>⟨τ,G,d.rt,rl,h,af.rt⟩
def QB (c:TT3) (t u:TS3):TS3:=λd τ G=>c τ G λk G1=>if k=true then t d τ G1 else u d τ G1
def qo5 {c:Expr} {ba bb:List Stmt} (hc:C3 X c tA) (ha:B3 X ba t1) (hb:B3 X bb t2):S3 X (.If c ba bb pos) (QB tA t1 t2):=qa6 (qlK hc ha hb) λ_ σ H ⟨τ,G,d,rl,h,af⟩=>
 WT rl h λk G1 h1 H1 hr1 k1 rl1=>by
  cases k with
  |true=>rw [if_pos rfl] at h1 ⊢;exact ⟨τ,G1,d,rl1,h1,af.back k1⟩
  |false=>rw [if_neg Bool.false_ne_true] at h1 ⊢;exact ⟨τ,G1,d,rl1,h1,af.back k1⟩
def qlk:TS3:=λ_ _ _=>False
def qfJ {sts:List Stmt}:B3 X sts qlk:=λ_ _ _ _ _ _ ⟨_,_,_,_,h,_⟩=>h.elim
abbrev TG3:=T->St3->Gp->(St3->Gp->Prop)->Prop
abbrev RV:=List T->St3->Gp->(St3->Gp->Prop)->Prop
def lG (K:Frg) (t:TG3):TG:=λv σ H Q=>∃ x τ G q,Rp K H x v/\Rel K τ G σ H/\t x τ G q/\qcM K G H q Q
def lGs (K:Frg) (t:RV):TGs:=λv σ H Q=>∃ x τ G q,Rps K H x v/\Rel K τ G σ H/\t x τ G q/\qcM K G H q Q
abbrev G3 (X:Cx) (e:Expr) (t:TG3):Prop:=PG X e (lG X.K t)
abbrev Gs3 (X:Cx) (es:List Expr) (t:RV):Prop:=PGs X es (lGs X.K t)
def qmi {X:Cx} {e:Expr} {t t':TG} (h:PG X e t) (w:∀ v σ H Q,t' v σ H Q->t v σ H Q):PG X e t':=λpins s σ H v u Q I r q=>h pins s σ H v u Q I r (w v σ H Q q)
def qh1 {X:Cx} {e:List Expr} {t t':TGs} (h:PGs X e t) (w:∀ v σ H Q,t' v σ H Q->t v σ H Q):PGs X e t':=λpins s σ H v u Q I r q=>h pins s σ H v u Q I r (w v σ H Q q)
def gn3 (i:Nat):TG3:=λx τ G q=>q (τ.set i (some x)) G
def qiE {i:Nat} {x:Str} (hN:X.N.Nodup) (hi:X.N[i]?=some x:=by rfl) (hx:Loc X.env.scope x:=by first|exact Or.inl rfl|exact Or.inr rfl) (hf:X.fn x=true\/X.env.scope.names.lookup x=some .local:=by first|exact .inl rfl|exact .inr rfl):G3 X (.Name x pos) (gn3 i):=
 qmi (qfB hN hi hx hf) λv σ H Q ⟨x,τ,G,q,rx,rl,h,af⟩=>af _ G h _ H (rl.set i rx) Kp.refl
def U9:RV:=λxs τ G q=>match xs with|[]=>q τ G|_=>False
def zk (t:TG3) (u:RV):RV:=λxs τ G q=>match xs with|x::r=>t x τ G λτ' G'=>u r τ' G' q|[]=>False
def ql6:Gs3 X [] U9:=qh1 qfr λv σ H Q ⟨x,τ,G,q,rx,rl,h,af⟩=>by
 cases rx with
 |nil=>exact ⟨rfl,af _ G h _ H rl Kp.refl⟩
 |cons _ _=>exact h.elim
def qkH {tg:TG3} {tgs:RV} (h1:G3 X e tg) (h2:Gs3 X es tgs) (hs:(assignEach (e::es) X.env).map (·.2)=assign e X.env::(assignEach es X.env).map (·.2):=by rfl):Gs3 X (e::es) (zk tg tgs):=qh1 (qbl h1 h2 hs) λv σ H Q ⟨x,τ,G,q,rx,rl,h,af⟩=>by
 cases rx with
 |nil=>exact h.elim
 |cons r rs=>exact ⟨_,_,rfl,_,τ,G,_,r,rl,h,λτ' G' h' σ' H' rl' k'=>⟨_,τ',G',q,rs.keep rl.hp k',rl',h',af.back k'⟩⟩
def EA (n:Nat) (t:RV):TG3:=λx τ G q=>match x with|.tup xs=>xs.length=n/\t xs τ G q|_=>False
def qlN {k:Nat} {tgs:RV} {n:Nat} (hc:X.calm=true) (h:Gs3 X es tgs) (hn:(assignEach es X.env).length=n:=by rfl) (hst:(assignEach es X.env).findIdx? (·.1)=none:=by rfl):G3 X (.Tuple es k pos) (EA n tgs):=
 qmi (qht hc h hn hst) λv σ H Q ⟨x,τ,G,q,rx,rl,h,af⟩=>by
  cases x<;>try exact h.elim
  case tup xs=>
   cases rx with
   |tup hs rs=>exact ⟨_,_,rfl,hs,by rw [← rs.length];exact h.1,_,τ,G,q,rs,rl,h.2,af⟩
def qcQ:T->T->T->Gp->(Gp->Prop)->Prop:=λo i v G q=>match o,i with
 |.ref p,.int k=>(match G p with|some (.lst xs)=>(match ixN xs.length k with|some j=>q (gu G p (.lst (xs.set j v)))|none=>False)|_=>False)
 |_,_=>False
def UF (to ti:TE3):TG3:=λx τ G q=>to τ G λo G1=>ti τ G1 λi G2=>qcQ o i x G2 λG3=>q τ G3
def qlI {o i : Expr} {to ti : TE3} (ho : E3 X o to) (hi : E3 X i ti) (ha : ∀ v,assign (.Subscript o i pos) X.env v = (do
      let ov←holding [v] (eval o X.env)
      let iv←holding [v,ov] (eval i X.env)
      standAt pos
      holding [v,ov,iv] (setItem ov iv v)
      release [v,ov,iv] []):=by intro _;rfl):G3 X (.Subscript o i pos) (UF to ti):=
  qmi (qh4 ho hi qcl ha) λv σ H Q ⟨x,τ,G,q,rx,rl,h,af⟩=>zl rl h λy G1 h1 u H1 ry hr1 k1 rl1=>zl rl1 h1 λz G2 h2 w H2 rz hr2 k2 rl2=>by
    have rx2:=(rx.keep rl.hp k1).keep hr1 k2;have ry2:=ry.keep hr1 k2;unfold qcQ at h2;split at h2
    · rename_i p k;split at h2
      · rename_i xs e;split at h2
        · rename_i j ej;cases ry2;cases rz;obtain ⟨vs,g1,r1⟩:=hr2.lst e;have kk:Kp G2 H2 (gu G2 p (.lst (xs.set j x))) (upd H2 p (.lst (vs.set j v))):=Kp.wr e;exact ⟨p,vs,k,j,rfl,rfl,g1,by rw [← r1.length];exact ej,af τ _ h2 σ _ (rl2.next (hr2.wr e (r1.set rx2 j)) kk) ((k1.trans k2).trans kk)⟩
        · exact h2.elim
      · exact h2.elim
    · exact h2.elim
def zQ (te:TE3) (g:TG3):TS3:=λd τ G=>te τ G λx G1=>g x τ G1 d.nx
def qlS {tg e:Expr} {g:TG3} (he:E3 X e te) (hg:G3 X tg g) (hs:swapsWithSole [tg] e pos.line X.env=pure false:=by rfl) (hw:swappedStores [tg] e X.env=pure none:=by rfl)
  (h1:(assignEach [tg] X.env).map (·.2)=[assign tg X.env]:=by rfl):S3 X (.Assign [tg] e pos) (zQ te g):=qa6 (qg4 he hg hs hw h1) λ_ σ H ⟨τ,G,d,rl,h,af⟩=>
 zl rl h λx G1 h1 v H1 rx hr1 k1 rl1=>⟨x,τ,G1,d.nx,rx,rl1,h1,af.nx.back k1⟩
def qnO (i:Nat) {x:Str} {e:Expr} {pos':Pos} (hN:X.N.Nodup) (he:E3 X e te) (hi:X.N[i]?=some x:=by rfl) (hx:Loc X.env.scope x:=by first|exact Or.inl rfl|exact Or.inr rfl) (hs:swapsWith e (some (.Name x pos')) pos.line X.env=pure false:=by rfl) (hf:X.fn x=true\/X.env.scope.names.lookup x=some .local:=by first|exact .inl rfl|exact .inr rfl) :
  S3 X (.Assign [.Name x pos'] e pos) (zQ te (gn3 i)):=qa6 (qj6 hN hi hx he hs hf) λ_ σ H ⟨τ,G,d,rl,h,af⟩=>
 zl rl h λx G1 h1 v H1 rx hr1 k1 rl1=>af.nx _ G1 h1 _ H1 (rl1.set i rx) k1
def MO (i j:Nat) (ta:TA3):TS3:=λd τ G=>ta τ G λxs G1=>match xs with|[x,y]=>d.nx ((τ.set i (some x)).set j (some y)) G1|_=>False
def qm4 {i j:Nat} {x y:Str} {a b:Expr} {tt:TA3} {px py pt:Pos} {kt k2 pt2} (hc:X.calm=true) (hN:X.N.Nodup) (hi:X.N[i]?=some x) (hj:X.N[j]?=some y) (hij:i≠j)
  (hx:X.env.scope.names.lookup x=some .local) (hy:X.env.scope.names.lookup y=some .local) (ha:A3 X [a,b] tt)
  (hw:swappedStores [.Tuple [.Name x px,.Name y py] kt pt] (.Tuple [a,b] k2 pt2) X.env=pure (some [x,y]):=by rfl)
  (hs:swapsWithSole [.Tuple [.Name x px,.Name y py] kt pt] (.Tuple [a,b] k2 pt2) pos.line X.env=pure false:=by rfl) :
  S3 X (.Assign [.Tuple [.Name x px,.Name y py] kt pt] (.Tuple [a,b] k2 pt2) pos) (MO i j tt):=qa6 (qk1 hc hN hi hj hij hx hy ha hw hs) λ_ σ H ⟨τ,G,d,rl,h,af⟩=>
 QR rl h λxs G1 h1 vs H1 rs hr1 k1 rl1=>by
  split at h1
  ·obtain ⟨v,u,rfl,r,r'⟩:=qk4 rs;exact ⟨v,u,rfl,af.nx _ G1 h1 _ H1 ((rl1.set i r).set j r') k1⟩
  ·exact h1.elim
end
abbrev TI3:=St3->Gp->(List T->(Gp->Prop)->Gp->Prop)->Prop
def qe7 (K:Frg) (J:It) (items:List T) (stay:Gp->Prop) (G0:Gp) (H0:Hp):Prop:=∀ G H,HR K G H->Kp G0 H0 G H->stay G ->
 (∀ i x,items[i]?=some x->J.go i H)/\(∀ i x v H',items[i]?=some x->J.yld i H v H'->Rp K H' x v/\HR K G H'/\Kp G H G H')/\J.stop items.length H
def lI (K:Frg) (wi:TI3):TI:=λσ H R=>∃ τ G r,Rel K τ G σ H/\wi τ G r/\∀ items stay G',r items stay G'->∀ J H',HR K G' H'->Kp G H G' H'->qe7 K J items stay G' H'->R J H'
abbrev I3 (X:Cx) (tg iter:Expr) (wi:TI3):Prop:=PI X tg iter (lI X.K wi)
def qgh {X:Cx} {tg e:Expr} {t t':TI} (h:PI X tg e t) (w:∀ σ H R,t' σ H R->t σ H R):PI X tg e t':=λpins s σ H R I q=>h pins s σ H R I (w σ H R q)
section
variable {X:Cx} {a b c e l tg:Expr} {es:List Expr} {ta tb tc te:TE3} {t:TA3} {pos:Pos}
def qjF {tl:TE} (hl:PE X l tl):PI X tg l (λσ H R=>tl σ H λx H1=>∃ a,x=.ref a/\(((∃ xs,SqL X.K H1 a xs)/\R (Itl X.K a) H1)\/((∃ xs,SqT X.K H1 a xs)/\R (Itt X.K a) H1))):=by
 intro pins s σ H R I h;refine thn (hl pins s σ H _ I h) λv s1 ⟨x,H1,I1,r1,q1⟩=>?_;obtain ⟨a,e,⟨⟨xs,hq⟩,q⟩|⟨⟨xs,hq⟩,q⟩⟩:=q1
 ·subst e;cases r1;obtain ⟨its,rv,p,hz⟩:=I1.list hq;refine wpAny_pyIter_list p.isList ?_;refine ⟨s1.heap.objs.size,[s1.heap.objs.size],_,_,H1,rfl,I1.kept (t':=s1.toks) λb o e=>Heap.get?_push_of_some _ e,qae a _,⟨_,Heap.get?_push_size _ rfl,rfl,rfl⟩,λb hb=>?_,q⟩;have e:b=s1.heap.objs.size:=by simpa using hb
  subst e;exact I1.fpOk (Nat.le_refl _) (I1.hok.fresh (Nat.le_refl _))
 ·subst e;cases r1;obtain ⟨its,rv,p,hz⟩:=I1.tuple hq;refine wpAny_pyIter_tuple (show s1.heap.IsTuple a its.toArray from p) ?_;refine ⟨s1.heap.objs.size,[s1.heap.objs.size],_,_,H1,rfl,I1.kept (t':=s1.toks) λb o e=>Heap.get?_push_of_some _ e,K9 a _,⟨_,Heap.get?_push_size _ rfl,rfl,rfl⟩,λb hb=>?_,q⟩;have e:b=s1.heap.objs.size:=by simpa using hb
  subst e;exact I1.fpOk (Nat.le_refl _) (I1.hok.fresh (Nat.le_refl _))
def XD (tl:TE3):TI3:=λτ G r=>tl τ G λx G1=>match x with
 |.tup xs=>r xs (λ_=>True) G1
 |.ref p=>(match getL G1 p with|some xs=>r xs (λG=>getL G p=some xs) G1|none=>False)
 |_=>False
def qjt {K:Frg} {p:Addr} {xs:List T} {G0:Gp} {H0:Hp}:qe7 K (Itl K p) xs (λG=>getL G p=some xs) G0 H0:=by
 intro G H hr _ hs;obtain ⟨vs,sq,rs⟩:=zK hr hs;refine ⟨λi x hi=>?_,λi x v H' hi y=>?_,⟨vs,sq,by rw [rs.length];exact Nat.le_refl _⟩⟩
 ·obtain ⟨v,hv,_⟩:=rs.get hi;exact ⟨vs,v,sq,hv⟩
 ·obtain ⟨e,y⟩:=y;subst e;obtain ⟨w,hw,rw'⟩:=rs.get hi;have e2:=(y vs sq).symm.trans hw;cases e2;exact ⟨rw',hr,Kp.refl⟩
def qkO {K:Frg} {p:Addr} {xs:List T} {vs:List V} {G0:Gp} {H0:Hp} (hr0:HR K G0 H0) (sq0:SqT K H0 p vs) (rs0:Rps K H0 xs vs):qe7 K (Itt K p) xs (λ_=>True) G0 H0:=by
 intro G H hr k _;have sq:=EH hr0 k sq0;have rs:=rs0.keep hr0 k;refine ⟨λi x hi=>?_,λi x v H' hi y=>?_,⟨vs,sq,by rw [rs.length];exact Nat.le_refl _⟩⟩
 ·obtain ⟨v,hv,_⟩:=rs.get hi;exact ⟨vs,v,sq,hv⟩
 ·obtain ⟨e,y⟩:=y;subst e;obtain ⟨w,hw,rw'⟩:=rs.get hi;have e2:=(y vs sq).symm.trans hw;cases e2;exact ⟨rw',hr,Kp.refl⟩
def qnL (hl:E3 X l te):I3 X tg l (XD te):=qgh (qjF hl) λσ H R ⟨τ,G,r,rl,h,af⟩=>zl rl h λx G1 h1 v H1 rx hr1 k1 rl1=>by
 cases x<;>try exact h1.elim
 case tup xs=>
  cases rx with
  |tup hs rs=>exact ⟨_,rfl,.inr ⟨⟨_,hs⟩,af _ _ G1 h1 _ H1 hr1 k1 (qkO hr1 hs rs)⟩⟩
 case ref p=>
  simp only at h1;split at h1
  ·rename_i xs e0;cases rx;obtain ⟨vs,hs,rs⟩:=zK hr1 e0;exact ⟨_,rfl,.inl ⟨⟨_,hs⟩,af _ _ G1 h1 _ H1 hr1 k1 qjt⟩⟩
  ·exact h1.elim
def NR (lo:Int) (n:Nat):List T:=(List.range n).map λ(i:Nat)=>T.int (lo+(i:Int))
def qk0 {K:Frg} {lo:Int} {n:Nat} {G0:Gp} {H0:Hp}:qe7 K (Itr lo n) (NR lo n) (λ_=>True) G0 H0:=by
 intro G H hr k _;have hl:(NR lo n).length=n:=by simp [NR]
 refine ⟨λi x hi=>?_,λi x v H' hi y=>?_,(show n<=(NR lo n).length by rw [hl];exact Nat.le_refl n)⟩
 ·have:=(List.getElem?_eq_some_iff.mp hi).1;rw [hl] at this;exact this
 ·obtain ⟨e,y⟩:=y;subst e;subst y;have h1:=(List.getElem?_eq_some_iff.mp hi).1;rw [hl] at h1;unfold NR at hi;rw [getElem?_map,List.getElem?_range h1] at hi;have e:T.int (lo+(i:Int))=x:=by simpa using hi
  subst e;exact ⟨.int _,hr,Kp.refl⟩
def ZO (ta:TA3):TI3:=λτ G r=>ta τ G λxs G1=>match xs with
 |[.int j]=>(-(2 ^ 62)<=j/\j<2 ^ 62)/\r (NR 0 j.toNat) (λ_=>True) G1
 |[.int i,.int j]=>(-(2 ^ 62)<=i/\i<2 ^ 62/\-(2 ^ 62)<=j/\j<2 ^ 62)/\r (NR i (j-i).toNat) (λ_=>True) G1
 |_=>False
def qbv {p:Pos} (hg:Gl X "range") (hm:X.mg "range" = none) (ha:A3 X [a] t) (hs:starEach [a] X.env=[(false,eval a X.env)]:=by rfl) (h1:∀ τ G q,t τ G q->t τ G λxs G=>q xs G/\xs.length=1):I3 X tg (.Call (.Name "range" p) [a] [] pos) (ZO t):=
 qgh (MC hg hm ha hs) λσ H R ⟨τ,G,r,rl,h,af⟩=>QR rl (h1 _ _ _ h) λxs G1 h1 vs H1 rs hr1 k1 rl1=>by
  obtain ⟨h1,hl⟩:=h1;simp only at h1;split at h1
  ·obtain ⟨v,rfl,r1⟩:=CL rs;cases r1;exact ⟨_,rfl,h1.1.1,h1.1.2,af _ _ G1 h1.2 _ H1 hr1 k1 qk0⟩
  ·simp at hl
  ·exact h1.elim
def XX (stay:Gp->Prop) (g:TG3) (tb:TS3) (d:Ends3):List T->St3->Gp->Prop
 |[],τ,G=>stay G/\d.nx τ G
 |x::r,τ,G=>stay G/\g x τ G λτ2 G2=>tb { d with nx:=XX stay g tb d r,ct:=XX stay g tb d r,bk:=d.nx } τ2 G2
def S6 (wi:TI3) (g:TG3) (tb:TS3):TS3:=λd τ G=>wi τ G λitems stay G1=>XX stay g tb d items τ G1
def qlu {iter:Expr} {body:List Stmt} {wi:TI3} {g:TG3} {tb:TS3} (hp:PassesOwn (model X.prog X.w) X.A X.env X.xe) (hc:X.calm=true) (hi:I3 X tg iter wi) (hg:G3 X tg g) (hb:B3 X body tb)
  (hs:∀ x,foldedSetIterable iter X.env x=pure x:=by intro _;rfl):S3 X (.For tg iter body [] pos) (S6 wi g tb):=
 qa6 (qkQ hp hc hi hg hb hs) λD σ H ⟨τ,G,d,rl,h,af⟩=>by
  refine ⟨τ,G,_,rl,h,λitems stay G1 h1 J H1 hr1 k1 ok=>?_⟩;refine ⟨λi m σ' H'=>m=items.length-i/\i<=items.length/\∃ τ' G',Rel X.K τ' G' σ' H'/\Kp G1 H1 G' H'/\XX stay g tb d (items.drop i) τ' G',⟨_,rfl,Nat.zero_le _,τ,G1,rl.next hr1 k1,Kp.refl,by simpa using h1⟩,?_⟩;rintro i m σ' H' ⟨rfl,hi,τ',G',rl',k',h'⟩;by_cases hlt:i<items.length
  ·rw [List.drop_eq_getElem_cons hlt] at h';obtain ⟨hst,h'⟩:=h';obtain ⟨go,yld,_⟩:=ok G' H' rl'.hp k' hst;have hx:items[i]?=some items[i]:=getElem?_eq_getElem hlt;refine .inr ⟨go i _ hx,λσ2 H2=>∃ τ2 G2,Rel X.K τ2 G2 σ2 H2/\Kp G1 H1 G2 H2/\XX stay g tb d (items.drop (i+1)) τ2 G2,λσ2 H2 h2=>⟨_,by omega,rfl,hlt,h2⟩,λv H2 y=>?_⟩;obtain ⟨rv,hr2,k2⟩:=yld i _ v H2 hx y;have k3:Kp G1 H1 G' H2:=k'.trans k2;refine ⟨_,τ',G',_,rv,rl'.next hr2 k2,h',λτ3 G3 h3 σ3 H3 rl3 k4=>?_⟩;have k5:Kp G H G3 H3:=(k1.trans k3).trans k4;refine ⟨τ3,G3,_,rl3,h3,⟨λτ4 G4 h4 σ4 H4 rl4 k6=>⟨τ4,G4,rl4,(k3.trans k4).trans k6,h4⟩,af.rt.back k5,af.nx.back k5,λτ4 G4 h4 σ4 H4 rl4 k6=>⟨τ4,G4,rl4,(k3.trans k4).trans k6,h4⟩⟩⟩
  ·have e:i=items.length:=by omega
   subst e;rw [List.drop_length] at h';obtain ⟨_,_,stop⟩:=ok G' H' rl'.hp k' h'.1;exact .inl ⟨stop,af.nx τ' G' h'.2 σ' H' rl' (k1.trans k')⟩
def qaR {stay:Gp->Prop} {g:TG3} {tb:TS3} {d:Ends3} (items:List T) (Pv:Nat->St3->Gp->Prop) {τ:St3} {G:Gp} (h0:Pv 0 τ G) (hst:∀ i τ G,i<=items.length->Pv i τ G->stay G)
  (hs:∀ i x τ G (nx:St3->Gp->Prop),items[i]?=some x->Pv i τ G->(∀ τ G,Pv (i+1) τ G->nx τ G)->g x τ G λτ2 G2=>tb { d with nx:=nx,ct:=nx,bk:=d.nx } τ2 G2)
  (hd:∀ τ G,Pv items.length τ G->d.nx τ G):XX stay g tb d items τ G:=by
 have key:∀ (r:List T) (i:Nat) τ G,items.drop i=r->i<=items.length->Pv i τ G->XX stay g tb d r τ G:=by
  intro r;induction r with
  |nil=>
   intro i τ G e hi p;have:i=items.length:=by have:=congrArg List.length e;simp at this;omega
   subst this;exact ⟨hst _ τ G hi p,hd τ G p⟩
  |cons x r ih=>
   intro i τ G e hi p;have hl:i<items.length:=by
    apply Classical.byContradiction;intro z;rw [List.drop_eq_nil_of_le (by omega)] at e;cases e
   have e':=List.drop_eq_getElem_cons hl;rw [e] at e';injection e' with e1 e2;refine ⟨hst i τ G hi p,hs i x τ G _ (by rw [getElem?_eq_getElem hl,e1]) p λτ2 G2 p2=>ih (i+1) τ2 G2 e2.symm hl p2⟩
 exact key items 0 τ G (by simp) (Nat.zero_le _) h0
def KS (c:TT3) (tb:TS3):TS3:=λd τ G=>∃ W:Nat->St3->Gp->Prop,(∃ m,W m τ G)/\∀ m τ G,W m τ G ->
 c τ G λb G1=>if b=true then ∃ N:St3->Gp->Prop,(∀ τ' G',N τ' G'->∃ m',m'<m/\W m' τ' G')/\tb { d with nx:=N,ct:=N,bk:=d.nx } τ G1 else d.nx τ G1
def qeZ {c:Expr} {body:List Stmt} {tc:TT3} {tb:TS3} (hp:PassesOwn (model X.prog X.w) X.A X.env X.xe) (hc:C3 X c tc) (hb:B3 X body tb):S3 X (.While c body [] pos) (KS tc tb):=
 qa6 (qbV hp hc hb) λD σ H ⟨τ,G,d,rl,⟨W,⟨m0,w0⟩,turn⟩,af⟩=>by
  refine ⟨λm σ' H'=>∃ τ' G',Rel X.K τ' G' σ' H'/\Kp G H G' H'/\W m τ' G',⟨m0,τ,G,rl,Kp.refl,w0⟩,?_⟩;rintro m σ' H' ⟨τ',G',rl',k',w'⟩;refine WT rl' (turn m τ' G' w') λb G1 h1 H1 hr1 k1 rl1=>?_;cases b with
  |true=>
   rw [if_pos rfl] at h1 ⊢;obtain ⟨N,hN,h1⟩:=h1;refine ⟨λσ2 H2=>∃ τ2 G2,Rel X.K τ2 G2 σ2 H2/\Kp G H G2 H2/\N τ2 G2,λσ2 H2 ⟨τ2,G2,r2,k2,n2⟩=>?_,τ',G1,_,rl1,h1,⟨λτ2 G2 h2 σ2 H2 r2 k2=>⟨τ2,G2,r2,(k'.trans k1).trans k2,h2⟩,af.rt.back (k'.trans k1),af.nx.back (k'.trans k1),λτ2 G2 h2 σ2 H2 r2 k2=>⟨τ2,G2,r2,(k'.trans k1).trans k2,h2⟩⟩⟩;obtain ⟨m',hm,w2⟩:=hN τ2 G2 n2;exact ⟨m',hm,τ2,G2,r2,k2,w2⟩
  |false=>
   rw [if_neg Bool.false_ne_true] at h1 ⊢;exact af.nx τ' G1 h1 σ' H1 rl1 (k'.trans k1)
abbrev Sp3:=List T->Gp->Q3->Prop
def lSp (K:Frg) (sp:Sp3):Sp:=λvs H Q _=>∃ ts G q,HR K G H/\Rps K H ts vs/\sp ts G q/\Aft K G H q Q
def Fn3 (P:Program) (w:World) (K:Frg) (mg:Str->Option Value) (base:Heap) (k:Nat) (x:Str) (sp:Sp3):Prop:=
 ∃ f fd ps,FnOk P w K mg base CX0 k f fd ps (lSp K sp)/\zJ K fd ps []/\PySem.W.keepIn K (.ref f)=true/\mg x=some (.ref f)
def Fn3.mono {P:Program} {w:World} {K:Frg} {mg:Str->Option Value} {base:Heap} {j k:Nat} {x:Str} {sp:Sp3} (F:Fn3 P w K mg base j x sp) (h:j<=k):Fn3 P w K mg base k x sp:=
 let ⟨f,fd,ps,a,b,c,d⟩:=F;⟨f,fd,ps,a.mono h,b,c,d⟩
def Fn3.imp {P:Program} {w:World} {K:Frg} {mg:Str->Option Value} {base:Heap} {k:Nat} {x:Str} {sp sp':Sp3} (F:Fn3 P w K mg base k x sp) (h:∀ ts G q,sp' ts G q->sp ts G q):Fn3 P w K mg base k x sp':=
 let ⟨f,fd,ps,a,b,c,d⟩:=F;⟨f,fd,ps,a.imp λvs H Q E ⟨ts,G,q,h1,h2,h3,h4⟩=>⟨ts,G,q,h1,h2,h _ _ _ h3,h4⟩,b,c,d⟩
def qjk {k:Nat} {x:Str} {p:Pos} {sp:Sp3} (F:Fn3 X.prog X.w X.K X.mg X.base k x sp) (hr:Room k X.A) (hg:Gl X x) (ha:A3 X (e::es) t) (hdb:(x==("__debug__" : Str))=false:=by decide)
  (he:starEach (e::es) X.env=(false,eval e X.env)::starEach es X.env:=by rfl) (hpl:(backTo pos (starEach es X.env)).any (·.1)=false:=by rfl):E3 X (.Call (.Name x p) (e::es) [] pos) (cb3 sp t):=by
 obtain ⟨f,fd,ps,F,b,kp,m⟩:=F;refine U3 (qfh F hr hg m kp b .nil qmF ha hdb he hpl) λσ H Q ⟨τ,G,q,rl,h,af⟩=>QR rl h λxs G1 h1 vs H1 rs hr1 k1 rl1=>?_;rw [List.append_nil];exact ⟨xs,G1,q,hr1,rs,h1,af.back k1⟩
def qE (N:List Str) (ts:List T):St3:=ts.map some++List.replicate (N.length-ts.length) none
def CI {K:Frg} {N:List Str} {G:Gp} {H:Hp} {ts:List T} {vs:List V} (hr:HR K G H) (rs:Rps K H ts vs):Rel K (qE N ts) G (L2.EX N vs) H:=by
 refine ⟨hr,by simp [qE,L2.EX,rs.length],λi t e=>?_⟩;unfold qE at e;by_cases hi:i<ts.length
 ·rw [List.getElem?_append_left (by simpa using hi),getElem?_map] at e;cases q:ts[i]? with
  |none=>rw [q] at e;cases e
  |some z=>
   rw [q] at e;have e':z=t:=by simpa using e
   subst e';obtain ⟨v,hv,r⟩:=rs.get q;refine ⟨v,?_,r⟩;unfold L2.EX;rw [List.getElem?_append_left (by rw [length_map,← rs.length];exact hi),getElem?_map,hv];rfl
 ·rw [List.getElem?_append_right (by simpa using hi),List.getElem?_replicate] at e;split at e<;>cases e
def qiL {P:Program} {w:World} {K:Frg} {mg:Str->Option Value} {base:Heap} {x qual:Str} {st:Stmt} {f:Addr} {fd:FuncData} {N ps:List Str} {k:Nat} {sp:Sp3} {t3:TS3} (F:Fun K x qual st f fd) (S:FnScope N ps (qi st)) (bd:zJ K fd ps []) (hm:mg x=some (.ref f))
  (body:∀ (cdv:Value) (A:Around) (outer:List Env) (s:Shared) (H:Hp) (E:XK),Room k (A.deeper (envOfC qual (qi st) s.heap.objs.size f cdv)) ->
   B3 (qa8 CX0 P w K mg base N qual (qi st) f cdv A outer s H E).nox (jg st) t3)
  (read:∀ ts G q,sp ts G q->ts.length=ps.length/\t3 { nx:=λ_ G'=>q .non G',rt:=q } (qE N ts) G):Fn3 P w K mg base (k+1) x sp:=by
 refine ⟨f,fd,ps,F.ok S (λvs H Q E ⟨ts,G,q,h1,h2,h3,h4⟩=>by rw [← h2.length];exact (read ts G q h3).1) λcdv A outer s H vs Q E hr ⟨ts,G,q,h1,h2,h3,h4⟩=>?_,bd,F.kp,hm⟩;refine ⟨_,body cdv A outer s H E hr,qE N ts,G,_,CI h1 h2,(read ts G q h3).2,⟨λτ' G' h' σ' H' rl' k'=>h4 _ G' h' _ H' .non rl'.hp k',h4,λ_ _ z=>z.elim,λ_ _ z=>z.elim⟩⟩
def qcA (xs:List T):Option Bool:=match xs with
 |[]=>some true
 |.bl k::r=>(match qcA r with|some j=>some (k&&j)|none=>none)
 |_=>none
def qmT (xs:List T):Option Bool:=match xs with
 |[]=>some false
 |.bl k::r=>(match qmT r with|some j=>some (k||j)|none=>none)
 |_=>none
def qbY {P:Program} {w:World} {A:Around} {its:List Value} {ks:List Bool} (h:its=ks.map Value.bool):TruthOf P w A (λi v=>its.toArray[i]?=some v) (λi=>ks.getD i true):=by
 intro i v s Q E hp hq;subst h;have hp':ks[i]?.map Value.bool=some v:=by simpa using hp
 cases e:ks[i]? with
 |none=>rw [e] at hp';cases hp'
 |some k=>
  rw [e] at hp';cases hp';have:ks.getD i true=k:=by rw [getD_eq_getElem?_getD,e];rfl
  have hq:Q (ks.getD i true) s:=hq;rw [this] at hq;exact wpAny_truthy_bool hq
def WI:∀ {ks:List Bool} {us:List Value},zj (ks.map V.bl) us->us=ks.map Value.bool
 |[],_,r=>by cases r;rfl
 |k::ks,_,r=>by
  cases r with
  |cons a b=>rw [show _=Value.bool k from a,WI b];rfl
def qaC (ks:List Bool):((List.range ks.length).all λi=>ks.getD i true)=ks.all id:=by
 induction ks with
 |nil=>rfl
 |cons k ks ih=>
  rw [length_cons,List.range_succ_eq_map,List.all_cons,List.all_map,List.all_cons];congr 1
def ju (hc:X.calm=true):JM X (.builtin "all") (λxs H Q=>∃ (p:Addr) (ks:List Bool),xs=[.ref p]/\SqL X.K H p (ks.map V.bl)/\Q (.bl (ks.all id)) H):=by
 intro pins s σ H xs us Q I r h;obtain ⟨p,ks,rfl,hq,q⟩:=h;obtain ⟨u,rfl,rp⟩:=W4 r;cases (show u=Value.ref p from rp);obtain ⟨its,rv,pl,hz⟩:=I.list hq;have hb:=WI rv;have hlen:its.length=ks.length:=by rw [hb];simp
 have hp:p<s.heap.objs.size:=by obtain ⟨o,n,e,_⟩:=pl;exact Heap.lt_size e
 refine call_all_walk (wpAny_pyIter_list pl.isList ⟨s.heap.objs.size,_,_,_,_,_,λi=>ks.getD i true,rfl,Walks.list (A:=X.A.in1) (show X.A.in1.handled=none from I.ok.hd hc) s.heap.objs.size p (Nat.ne_of_lt hp) its.toArray,⟨⟨_,Heap.get?_push_size _ rfl,rfl,rfl⟩,?_⟩,qbY hb,λh' tk hk=>?_⟩)
 ·obtain ⟨o,n,e,c,_,d⟩:=pl;exact ⟨o,Heap.get?_push_of_some _ e,c,n,d⟩
 ·refine ⟨.bl _,H,?_,rfl,by rw [size_toArray,hlen,qaC];exact q⟩;exact I.kept (h':=h') (t':=tk) λb o e=>hk b o (by simp;exact Nat.ne_of_lt (Heap.lt_size e)) (Heap.get?_push_of_some _ e)
end
def D9 (env:Env):List (Str×NameKind)->List (Str×Addr)->List (Str×Addr)
 |[],cs=>cs
 | (n,k)::r,cs=>if k=.free then D9 env r ((n,(env.cells.lookup n).getD 0)::cs) else D9 env r cs
def ZW {scope:Scope} {env:Env} (h:∀ y∈scope.names,y.2=.free->∃ c,env.cells.lookup y.1=some c):closureFor scope env=pure (D9 env scope.names []):=by
 have key:∀ (l:List (Str×NameKind)) (cs:List (Str×Addr)),(∀ y∈l,y.2=.free->∃ c,env.cells.lookup y.1=some c) ->
   (forIn l cs λ(x:Str×NameKind) (r:List (Str×Addr))=>if (x.2==NameKind.free)=true then (do let a←cellOf env x.1;pure (ForInStep.yield ((x.1,a)::r))) else pure (ForInStep.yield r))=(pure (D9 env l cs):Sem _):=by
  intro l;induction l with
  |nil=>intro cs _;rfl
  |cons y r ih=>
   intro cs hl;obtain ⟨n,k⟩:=y;rw [List.forIn_cons];by_cases hk:k=.free
   ·subst hk;obtain ⟨c,hc⟩:=hl (n,.free) List.mem_cons_self rfl;have e:cellOf env n=pure c:=by unfold cellOf;rw [show List.lookup n env.cells=some c from hc]
    simp only [beq_self_eq_true,if_true];rw [e,pure_bind,pure_bind];show forIn r ((n,c)::cs) _=_;rw [ih _ λz hz=>hl z (List.mem_cons_of_mem _ hz)];show _=(pure (if NameKind.free=NameKind.free then D9 env r ((n,(env.cells.lookup n).getD 0)::cs) else D9 env r cs):Sem _);rw [if_pos rfl,show List.lookup n env.cells=some c from hc];rfl
   ·have hb:(k==NameKind.free)=false:=by cases k<;>first|rfl|exact absurd rfl hk
    simp only [hb,Bool.false_eq_true,if_false];rw [pure_bind];show forIn r cs _=_;rw [ih _ λz hz=>hl z (List.mem_cons_of_mem _ hz)];show _=(pure (if k=NameKind.free then D9 env r ((n,(env.cells.lookup n).getD 0)::cs) else D9 env r cs):Sem _);rw [if_neg hk]
 have:=key scope.names [] h;unfold closureFor;refine Eq.trans ?_ this;exact bind_pure (m:=Sem) _
def YT {env:Env}:∀ (l:List (Str×NameKind)) (cs:List (Str×Addr)) (x:Str) (c:Addr),(∀ y∈l,y.2=.free->∃ c,env.cells.lookup y.1=some c) ->
  (∀ x c,cs.lookup x=some c->env.cells.lookup x=some c)->(D9 env l cs).lookup x=some c->env.cells.lookup x=some c
 |[],_,_,_,_,h,e=>h _ _ e
 | (n,k)::r,cs,x,c,hl,h,e=>by
  unfold D9 at e;split at e
  ·rename_i hk;refine YT r _ x c (λy hy=>hl y (List.mem_cons_of_mem _ hy)) (λx c e=>?_) e;rw [List.lookup_cons] at e;split at e
   ·rename_i hx;have hx':x=n:=by simpa using hx
    subst hx';obtain ⟨d,hd⟩:=hl (x,k) List.mem_cons_self hk;have hd:List.lookup x env.cells=some d:=hd;rw [hd] at e ⊢;exact e
   ·exact h _ _ e
  ·exact YT r cs x c (λy hy=>hl y (List.mem_cons_of_mem _ hy)) h e
def EJ {env:Env}:∀ (l:List (Str×NameKind)) (cs:List (Str×Addr)) (x:Str),((x,NameKind.free)∈l\/∃ c,cs.lookup x=some c)->∃ c,(D9 env l cs).lookup x=some c
 |[],_,_,h=>by
  rcases h with h|h
  ·simp at h
  ·exact h
 | (n,k)::r,cs,x,h=>by
  unfold D9;have put:∀ d:Addr,(x=n\/∃ c,cs.lookup x=some c)->∃ c,((n,d)::cs).lookup x=some c:=λd z=>by
   rw [List.lookup_cons];cases hx:x==n with
   |true=>exact ⟨d,rfl⟩
   |false=>
    rcases z with z|z
    ·rw [z] at hx;simp at hx
    ·exact z
  split
  ·rename_i hk;refine EJ r _ x ?_;rcases h with h|h
   ·rcases mem_cons.mp h with e|e
    ·cases e;exact .inr (put _ (.inl rfl))
    ·exact .inl e
   ·exact .inr (put _ (.inr h))
  ·rename_i hk;refine EJ r _ x ?_;rcases h with h|h
   ·rcases mem_cons.mp h with e|e
    ·cases e;exact absurd rfl hk
    ·exact .inl e
   ·exact .inr h
def X7 {env:Env}:∀ (l:List (Str×NameKind)) (cs:List (Str×Addr)) (x:Str) (c:Addr),(D9 env l cs).lookup x=some c->(x,NameKind.free)∈l\/cs.lookup x=some c
 |[],_,_,_,e=>.inr e
 | (n,k)::r,cs,x,c,e=>by
  unfold D9 at e;split at e
  ·rename_i hk;rcases X7 r _ x c e with z|z
   ·exact .inl (List.mem_cons_of_mem _ z)
   ·rw [List.lookup_cons] at z;split at z
    ·rename_i hx;have hx':x=n:=by simpa using hx
     subst hx';subst hk;exact .inl List.mem_cons_self
    ·exact .inr z
  ·rcases X7 r cs x c e with z|z
   ·exact .inl (List.mem_cons_of_mem _ z)
   ·exact .inr z
def US {α:Type}:∀ (xs ys:List (Str×α)) (x:Str),(xs++ys).lookup x=(match xs.lookup x with|some c=>some c|none=>ys.lookup x)
 |[],ys,x=>rfl
 | (n,c)::xs,ys,x=>by
  rw [cons_append,List.lookup_cons,List.lookup_cons];cases x==n with
  |true=>rfl
  |false=>exact US xs ys x
def jf:∀ (l:List (Str×NameKind)) {n:Nat} {acc:List (Str×Addr)},cellsFrom n l acc=cellsFrom n l []++acc
 |[],_,_=>rfl
 | (x,k)::r,n,acc=>by
  unfold cellsFrom;split
  ·rw [jf r (acc:=(x,n)::acc),jf r (acc:=[(x,n)]),List.append_assoc];rfl
  ·exact jf r
def ZL:∀ (l:List (Str×NameKind)) (n:Nat) (acc:List (Str×Addr)) (x:Str) (c:Addr),(x,c)∈cellsFrom n l acc->(x,NameKind.cell)∈l\/(x,c)∈acc
 |[],_,_,_,_,h=>.inr h
 | (y,k)::r,n,acc,x,c,h=>by
  unfold cellsFrom at h;split at h
  ·rename_i hk;have hk:k=.cell:=by simpa using hk
   rcases ZL r _ _ x c h with z|z
   ·exact .inl (List.mem_cons_of_mem _ z)
   ·rcases mem_cons.mp z with e|e
    ·cases e;subst hk;exact .inl List.mem_cons_self
    ·exact .inr e
  ·rcases ZL r _ _ x c h with z|z
   ·exact .inl (List.mem_cons_of_mem _ z)
   ·exact .inr z
def jS:∀ (l:List (Str×NameKind)) (n:Nat) (acc:List (Str×Addr)) (x:Str),((x,NameKind.cell)∈l\/∃ c,acc.lookup x=some c)->∃ c,(cellsFrom n l acc).lookup x=some c
 |[],_,_,_,h=>by
  rcases h with h|h
  ·simp at h
  ·exact h
 | (y,k)::r,n,acc,x,h=>by
  unfold cellsFrom;have put:(x=y\/∃ c,acc.lookup x=some c)->∃ c,((y,n)::acc).lookup x=some c:=λz=>by
   rw [List.lookup_cons];cases hx:x==y with
   |true=>exact ⟨n,rfl⟩
   |false=>
    rcases z with z|z
    ·rw [z] at hx;simp at hx
    ·exact z
  split
  ·refine jS r _ _ x ?_;rcases h with h|h
   ·rcases mem_cons.mp h with e|e
    ·cases e;exact .inr (put (.inl rfl))
    ·exact .inl e
   ·exact .inr (put (.inr h))
  ·rename_i hk;refine jS r _ _ x ?_;rcases h with h|h
   ·rcases mem_cons.mp h with e|e
    ·cases e;exact absurd rfl hk
    ·exact .inl e
   ·exact .inr h
def jG {M:Model} {A:Around} {E:Value->Shared->Prop} {s:Shared} {scope:Scope} {globals:Addr} {cl:List (Str×Addr)} {qual:Str} {env:Env} {Q:Env->Shared->Prop}
  (hQ:∀ h₁:Heap,h₁.Ns s.heap.objs.size (λ_=>none)->(∀ b o,s.heap.get? b=some o->h₁.get? b=some o)->CellsOk h₁ (s.heap.objs.size+1) (cellsFrom (s.heap.objs.size+1) scope.names [])->Q (newEnv scope s.heap.objs.size globals (cellsFrom (s.heap.objs.size+1) scope.names cl) qual none .none (some env) builtinsNs) { s with heap:=h₁ }) :
  wpAny M A (newFunctionEnv scope globals cl [] qual none .none (some env)) Q E s:=by
 simp only [newFunctionEnv,Option.isSome_some,if_true];refine wpAny_bind (wpAny_alloc ?_);refine wpAny_bind (wpAny_layCells _ (λname kind cells=>by cases hkc:kind==NameKind.cell<;>simp [hkc]) _ _ _ _ ?_);have ok:=cellsFrom_ok scope.names (s.heap.push { cls:=.type "dict",data:=.dict #[] }) (s.heap.objs.size+1) [] ⟨λ_ _ hm=>(nomatch hm),List.Pairwise.nil⟩ (by rw [Heap.size_push];exact Nat.le_refl _);rw [Heap.size_push] at ok;rw [show ({ s with heap:=s.heap.push { cls:=.type "dict",data:=.dict #[] } }:Shared).heap.objs.size=s.heap.objs.size+1 from Heap.size_push ..];rw [List.forIn_nil];refine wpAny_bind (wpAny_pure (wpAny_pure ?_));exact hQ _ ((Heap.Ns.new s.heap (.type "dict")).keeps (pushCells_keeps _ _)) (λb o e=>pushCells_keeps _ _ b o (Heap.get?_push_of_some _ e)) ok
def qj (X:Cx) (N':List Str) (scope:Scope) (s:Shared) (H:Hp) (fp:List Addr):Cx where
 prog:=X.prog
 w:=X.w
 K:=X.K
 mg:=X.mg
 base:=X.base
 A:=X.A
 N:=N'
 s₀:=s
 H₀:=H
 env:=compEnvC scope (cellsFrom (s.heap.objs.size+1) scope.names (D9 X.env scope.names [])) s.heap.objs.size X.env
 outer:=X.stack
 stack:=X.stack
 ex:=fp
 fn:=λx=>scope.names.lookup x==some .cell
 calm:=true
 pn:=[]
 xe:=λ_ _=>False
def LX (outer inner:Scope):Bool:=(inner.kind==.function)&&inner.names.all λy=>
 (y.2 != .cell||inner.names.lookup y.1==some .cell)&&(y.2 != .local||inner.names.lookup y.1==some .local)&&(y.2 != .free||(inner.names.lookup y.1==some .free&&(outer.names.lookup y.1==some .cell||outer.names.lookup y.1==some .free)))
def cap {α:Type} (m:List (Option Nat)) (σ:List (Option α)):List (Option α):=m.map λo=>match o with|some j=>(σ[j]?).join|none=>none
def YK (N N':List Str) (scope:Scope) (m:List (Option Nat)):Bool:=(m.length==N'.length)&&(m.zip N').all λp=>match p.1 with
 |none=>true
 |some j=>N[j]?==some p.2&&scope.names.lookup p.2==some .free
def qaP {α:Type} {m:List (Option Nat)} {σ:List (Option α)} {i:Nat} {v:α} (h:(cap m σ)[i]?=some (some v)):∃ j,m[i]?=some (some j)/\σ[j]?=some (some v):=by
 unfold cap at h;rw [getElem?_map] at h;cases e:m[i]? with
 |none=>rw [e] at h;cases h
 |some o=>
  rw [e] at h;cases o with
  |none=>cases h
  |some j=>
   refine ⟨j,rfl,?_⟩;have h':(σ[j]?).join=some v:=by simpa using h
   cases q:σ[j]? with
   |none=>rw [q] at h';cases h'
   |some z=>rw [q] at h';exact congrArg some h'
def qa2 {N N':List Str} {scope:Scope} {m:List (Option Nat)} (h:YK N N' scope m=true) {i j:Nat} {x:Str} (e:m[i]?=some (some j)) (hx:N'[i]?=some x):N[j]?=some x/\scope.names.lookup x=some .free:=by
 unfold YK at h;rw [Bool.and_eq_true] at h;have hm:(some j,x)∈m.zip N':=mem_of_getElem? (i:=i) (List.getElem?_zip_eq_some.mpr ⟨e,hx⟩);have:=List.all_eq_true.mp h.2 _ hm;simp only [Bool.and_eq_true,beq_iff_eq] at this;exact this
def qer {N N':List Str} {scope:Scope} {m:List (Option Nat)} {α:Type} (σ:List (Option α)) (h:YK N N' scope m=true):(cap m σ).length=N'.length:=by
 unfold YK at h;rw [Bool.and_eq_true] at h;unfold cap;rw [length_map];simpa using h.1
structure ScFacts (outer inner:Scope):Prop where
 kind:inner.kind=.function
 own:∀ y∈inner.names,y.2=.cell->inner.names.lookup y.1=some .cell
 loc:∀ y∈inner.names,y.2=.local->inner.names.lookup y.1=some .local
 free:∀ y∈inner.names,y.2=.free->inner.names.lookup y.1=some .free/\(outer.names.lookup y.1=some .cell\/outer.names.lookup y.1=some .free)
def UE {outer inner:Scope} (h:LX outer inner=true):ScFacts outer inner:=by
 unfold LX at h;rw [Bool.and_eq_true] at h;have ha:=List.all_eq_true.mp h.2;refine ⟨by simpa using h.1,λy hy e=>?_,λy hy e=>?_,λy hy e=>?_⟩
 ·have:=ha y hy;rw [e] at this;simpa using this
 ·have:=ha y hy;rw [e] at this;simpa using this
 ·have:=ha y hy;rw [e] at this;simpa using this
def QM {scope:Scope} {env:Env} {x:Str} {k:NameKind} (h:(relabel scope env).names.lookup x=some k):scope.names.lookup x=some k\/(k=.cell/\scope.names.lookup x=some .free):=by
 have key:∀ (l:List (Str×NameKind)),(l.map λ(n,k)=>if (k==NameKind.free&&env.scope.kind==.function&&env.kindOf n==some .cell) then (n,NameKind.cell) else (n,k)).lookup x=some k->l.lookup x=some k\/(k=.cell/\l.lookup x=some .free):=by
  intro l;induction l with
  |nil=>intro h;simp at h
  |cons y r ih=>
   intro h;obtain ⟨n,j⟩:=y;rw [map_cons] at h;dsimp only at h;by_cases hc:(j==NameKind.free&&env.scope.kind==.function&&env.kindOf n==some .cell)=true
   ·rw [if_pos hc,List.lookup_cons] at h;rw [List.lookup_cons];cases hx:x==n with
    |true=>
     rw [hx] at h;have hk:NameKind.cell=k:=by simpa using h
     have hj:j=.free:=by simp only [Bool.and_eq_true,beq_iff_eq] at hc;exact hc.1.1
     exact .inr ⟨hk.symm,by rw [hj]⟩
    |false=>rw [hx] at h;exact ih h
   ·rw [if_neg hc,List.lookup_cons] at h;rw [List.lookup_cons];cases hx:x==n with
    |true=>rw [hx] at h;exact .inl h
    |false=>rw [hx] at h;exact ih h
 exact key scope.names h
def PF (X:Cx) (ifs:List Expr) (t:TT):Prop:=
 ∀ (pins:List (Addr×Obj)) (s:Shared) (σ:L2.St) (H:Hp) (Q:Bool->Hp->Prop),Inv X pins σ H s->t σ H Q ->
  wpAny (model X.prog X.w) X.A (forIn ifs true λc r=>if r=true then do let ok←isTrue c X.env (eval c X.env);pure (ForInStep.yield ok) else pure (ForInStep.yield r)) (TP X pins σ Q) X.xe s
def qgs {X:Cx}:PF X [] (λ_ H Q=>Q true H):=λ_ _ _ H _ I h=>wpAny_tests_nil ⟨H,I,h⟩
def qiX {X:Cx} {c:Expr} {t:TT} (h:PT X c t):PF X [c] t:=λpins s σ H Q I q=>wpAny_tests_one (h pins s σ H Q I q)
section
variable {X:Cx} {pins:List (Addr×Obj)} {σ:L2.St} {H:Hp} {s:Shared}
def XN {N':List Str} {scope:Scope} {fp:List Addr} {m:List (Option Nat)} {h1:Heap} {mm:Str->Option Value} (hc:X.calm=true) (I:Inv X pins σ H s) (sc:ScFacts X.env.scope scope) (hcap:YK X.N N' scope m=true)
  (hfp:∀ b∈fp,C7 X pins H b) (hob:∀ b∈fp,∃ o,s.heap.get? b=some o) (hns:h1.Ns s.heap.objs.size mm) (hk:∀ b o,s.heap.get? b=some o->h1.get? b=some o) (hown:CellsOk h1 (s.heap.objs.size+1) (cellsFrom (s.heap.objs.size+1) scope.names [])) :
  Inv (qj X N' scope s H fp) [] (cap m σ) H { s with heap:=h1 }:=by
 have hcl:∀ y∈scope.names,y.2=.free->∃ c,X.env.cells.lookup y.1=some c:=λy hy e=>by
  rcases (sc.free y hy e).2 with z|z
  ·exact I.ok.has y.1 (.inl z)
  ·exact I.ok.has y.1 (.inr z)
 have cl:∀ x c,(D9 X.env scope.names []).lookup x=some c->X.env.cells.lookup x=some c:=λx c e=>YT scope.names [] x c hcl (λ_ _ z=>by simp at z) e;have clt:∀ x c,(D9 X.env scope.names []).lookup x=some c->c<s.heap.objs.size:=λx c e=>by
  obtain ⟨v,q⟩:=I.cell x c (cl x c e);exact q.lt
 -- a cell of the block: its own,or one from around
 have cs:∀ x c,(cellsFrom (s.heap.objs.size+1) scope.names (D9 X.env scope.names [])).lookup x=some c->((x,c)∈cellsFrom (s.heap.objs.size+1) scope.names []/\s.heap.objs.size+1<=c/\h1.IsCell c none)\/(D9 X.env scope.names []).lookup x=some c:=λx c e=>by
  rw [jf,US] at e;cases q:(cellsFrom (s.heap.objs.size+1) scope.names []).lookup x with
  |none=>rw [q] at e;exact .inr e
  |some d=>
   rw [q] at e;cases e;have mem:=PySem.mem_of_lookup q;exact .inl ⟨mem,(hown.empty x _ mem).2,(hown.empty x _ mem).1⟩
 have fpne:∀ b∈fp,b≠s.heap.objs.size:=λb hb=>let ⟨o,e⟩:=hob b hb;Nat.ne_of_lt (Heap.lt_size e)
 refine ⟨⟨I.ok.mod,sc.kind,I.ok.glob,I.ok.blt,Nat.le_refl _,λx y c e1 e2=>?_,λx hx=>?_,λx c hf e=>?_,λ_=>I.ok.hd hc,I.ok.frames,.inl rfl,λb hb=>⟨fpne b hb,λx c e=>?_⟩,I.bs,Nat.le_trans I.ok.bsz I.sz,λb o e hb=>?_,λb hb z=>?_,I.stack,I.stkFree⟩,
  rfl,I.bare,Un.kept hk,⟨mm,hns,λi x v e1 e2 e3=>?_⟩,λx c e=>?_,I.fresh,λx c e=>?_,λp hp=>absurd (show p∈([]:List (Addr×Obj)) from hp) (by simp),I.hok.kept hk,qer σ hcap⟩
 ·rcases cs x c e1 with ⟨m1,l1,_⟩|z1<;>rcases cs y c e2 with ⟨m2,l2,_⟩|z2
  ·exact PySem.name_of_addr hown.apart m1 m2
  ·exact absurd (clt y c z2) (Nat.not_lt.mpr (Nat.le_trans (Nat.le_succ _) l1))
  ·exact absurd (clt x c z1) (Nat.not_lt.mpr (Nat.le_trans (Nat.le_succ _) l2))
  ·exact I.ok.inj x y c (cl x c z1) (cl y c z2)
 ·have hx:(relabel scope X.env).names.lookup x=some .cell\/(relabel scope X.env).names.lookup x=some .free:=hx;have hf:scope.names.lookup x=some .cell\/scope.names.lookup x=some .free:=by
   rcases hx with z|z
   ·rcases QM z with q|⟨_,q⟩
    ·exact .inl q
    ·exact .inr q
   ·rcases QM z with q|⟨q,_⟩
    ·exact .inr q
    ·cases q
  show ∃ c,(cellsFrom (s.heap.objs.size+1) scope.names (D9 X.env scope.names [])).lookup x=some c;rcases hf with hf|hf
  ·exact jS scope.names _ _ x (.inl (PySem.mem_of_lookup hf))
  ·exact jS scope.names _ _ x (.inr (EJ scope.names [] x (.inl (PySem.mem_of_lookup hf))))
 ·have hf:scope.names.lookup x=some .cell:=by simpa [qj] using hf
  rcases cs x c e with ⟨_,l1,_⟩|z1
  ·exact Nat.le_trans (Nat.le_succ _) l1
  ·rcases X7 scope.names [] x c z1 with q|q
   ·rw [(sc.free _ q rfl).1] at hf;cases hf
   ·simp at q
 ·rcases cs x c e with ⟨_,l1,_⟩|z1
  ·obtain ⟨o,eo⟩:=hob b hb;exact Nat.ne_of_gt (Nat.lt_of_lt_of_le (Heap.lt_size eo) (Nat.le_trans (Nat.le_succ _) l1))
  ·exact (hfp b hb).2.2.2.2.1 x c (cl x c z1)
 ·rcases (hfp b hb).2.2.2.1 with z|z
  ·exact I.ok.noex b o e z
  ·exact absurd (Nat.lt_of_lt_of_le (Heap.lt_size e) (Nat.le_trans I.ok.bsz z)) (Nat.lt_irrefl _)
 ·rcases mem_cons.mp (I.stkSub b z) with q|q
  ·exact (hfp b hb).2.1 q
  ·exact (hfp b hb).2.2.1 q
 ·obtain ⟨j,ej,es⟩:=qaP e2;obtain ⟨hN,hfr⟩:=qa2 hcap ej e1;have mem:=PySem.mem_of_lookup hfr;have ho:=(sc.free _ mem rfl).2;obtain ⟨m0,hn0,hl0⟩:=I.loc;obtain ⟨u,ru,lk⟩:=hl0 j x v hN es (ho.elim (λz=>.inr (.inl z)) λz=>.inr (.inr z));refine ⟨u,ru,.inr ⟨?_,?_⟩⟩
  ·rcases e3 with z|z|z
   ·rcases QM z with q|⟨q,_⟩
    ·rw [hfr] at q;cases q
    ·cases q
   ·exact .inl z
   ·exact .inr z
  ·rcases lk with ⟨z,_⟩|⟨_,c,hc',hcell⟩
   ·have z:X.env.scope.names.lookup x=some .local:=z;rcases ho with q|q<;>(rw [z] at q;cases q)
   ·obtain ⟨c',hc2⟩:=EJ (env:=X.env) scope.names [] x (.inl mem);have e:=cl x c' hc2;rw [hc'] at e;cases e;obtain ⟨o,eo,d⟩:=hcell;refine ⟨c,?_,o,hk c o eo,d⟩;show (cellsFrom (s.heap.objs.size+1) scope.names (D9 X.env scope.names [])).lookup x=some c;rw [jf,US];cases q:(cellsFrom (s.heap.objs.size+1) scope.names []).lookup x with
    |none=>exact hc2
    |some d=>
     rcases ZL scope.names _ [] x d (PySem.mem_of_lookup q) with z|z
     ·rw [sc.own _ z rfl] at hfr;cases hfr
     ·simp at z
 ·rcases cs x c e with ⟨_,_,z⟩|z1
  ·exact ⟨none,z⟩
  ·obtain ⟨v,o,eo,d⟩:=I.cell x c (cl x c z1);exact ⟨v,o,hk c o eo,d⟩
 ·rcases cs x c e with ⟨_,l1,_⟩|z1
  ·exact I.hok.fresh (Nat.le_trans (Nat.le_succ _) l1)
  ·exact I.freeC x c (cl x c z1)
def UM {N':List Str} {scope:Scope} {fp:List Addr} {pins':List (Addr×Obj)} {σ':L2.St} {H':Hp} {s':Shared} {h2:Heap} (I:Inv X pins σ H s) (hfp:∀ b∈fp,C7 X pins H b) (J:Inv (qj X N' scope s H fp) pins' σ' H' s')
  (sb:Heap.SameBut s.heap.objs.size s'.heap h2):Inv X pins σ H' { s' with heap:=h2 }:=by
 have ne:∀ b o,s.heap.get? b=some o->b≠s.heap.objs.size:=λb o e=>Nat.ne_of_lt (Heap.lt_size e);have g:∀ b,b≠s.heap.objs.size->h2.get? b=s'.heap.get? b:=λb hb=>sb.2 b hb;have hn:H' s.heap.objs.size=none:=J.free;have u:Un (frs X.stack) fp H H' s.heap s'.heap:=J.base;refine I.call' (s':={ s' with heap:=h2 }) J.os ⟨λb o e n hb hx=>?_,λb o e n hb hx=>?_,u.free,λb o e hx=>?_,u.tups,u.frzs,u.tbls⟩ (λa o e=>?_) J.bare λb hb=>⟨(hfp b hb).2.2.2.1,(hfp b hb).2.1,(hfp b hb).2.2.2.2.1,(hfp b hb).2.2.2.2.2⟩
 ·show h2.get? b=_;rw [g b (ne b o e)];exact u.keep b o e n hb hx
 ·show ∃ sl,h2.get? b=_;rw [g b (ne b o e)];exact u.slot b o e n hb hx
 ·show ∃ o',h2.get? b=_;rw [g b (ne b o e)];exact u.there b o e hx
 ·refine (J.hok a o e).stay (λb v hb q=>?_) (λ_ q=>q) λ_ _ q=>q;have hb':b≠s.heap.objs.size:=by
   intro z;subst z;rcases hb with z|z
   ·rw [← z] at e;rw [hn] at e;cases e
   ·rw [hn] at z;cases z
  rw [g b hb'];exact q
end
def tLC (wi:TI) (g:TG) (tif:TT) (te:TE) (m:List (Option Nat)):TE:=λσ H Q=>wi σ H λJ H1=>∀ D,H1 D=none ->
 ∃ W:Nat->Nat->L2.St->Hp->Prop,(∃ n,W 0 n (cap m σ) (upd H1 D (.lst [])))/\∀ i n σ H,W i n σ H ->
  (J.stop i H/\Q (.ref D) H)\/(J.go i H/\∀ x H',J.yld i H x H'->g x σ H' λσ2 H2=>tif σ2 H2 λk H3=>
   if k=true then te σ2 H3 λy H4=>∃ zs,H4 D=some (.lst zs)/\zs.length<sizeLine/\∃ n',n'<n/\W (i+1) n' σ2 (upd H4 D (.lst (zs++[y])))
   else ∃ n',n'<n/\W (i+1) n' σ2 H3)
section
variable {X:Cx}
def qns {elt tg iter:Expr} {ifs:List Expr} {scope:Scope} {pos:Pos} {N':List Str} {m:List (Option Nat)} {wi:TI} {g:TG} {tif:TT} {te:TE} (hc:X.calm=true) (hi:PI X tg iter wi)
  (hg:∀ s H fp,PG (qj X N' scope s H fp) tg g) (hf:∀ s H fp,PF (qj X N' scope s H fp) ifs tif) (he:∀ s H fp,PE (qj X N' scope s H fp) elt te)
  (hsc:LX X.env.scope scope=true) (hcap:YK X.N N' scope m=true) (hs:∀ x,foldedSetIterable iter X.env x=pure x:=by intro _;rfl) :
  PE X (.ListComp elt [⟨tg,iter,ifs,0⟩] scope pos) (tLC wi g tif te m):=by
 intro pins s σ H Q I h;have sc:=UE hsc;have hcl:∀ y∈scope.names,y.2=.free->∃ c,X.env.cells.lookup y.1=some c:=λy hy e=>by
  rcases (sc.free y hy e).2 with z|z
  ·exact I.ok.has y.1 (.inl z)
  ·exact I.ok.has y.1 (.inr z)
 rw [eval_ListComp];refine wpAny_comprehension_free (use:=none) (g:=⟨tg,iter,ifs,0⟩) (gs:=[]) rfl hs (ZW hcl) sc.kind sc.loc ?_;show wpAny _ _ (eval iter X.env) _ _ s;refine thn (hi pins s σ H _ I h) λv s1 h1=>thn h1 λitv s2 h2=>?_;obtain ⟨it,fp,tn,J,H2,rfl,I2,T,st2,f2,hW⟩:=h2;refine wpAny_newObj_type ?_;have hD:H2 s2.heap.objs.size=none:=I2.fresh;obtain ⟨W,⟨n0,w0⟩,turn⟩:=hW _ hD;generalize hDe:s2.heap.objs.size=D at *;have I3:Inv X pins σ (upd H2 D (.lst [])) { s2 with heap:=s2.heap.push { cls:=.type "list",dict:=none,data:=.seq ([]:List Value).toArray } }:=by
  subst hDe;exact I2.laid (t':=s2.toks) (λb u e=>Heap.get?_push_of_some _ e) (Nat.le_refl _) ⟨Nat.zero_le _,[],0,.nil,Heap.get?_push_size _ rfl⟩
 have ob2:=T.obj 0 _ st2;have ob3:∀ b∈fp,∃ o,(s2.heap.push { cls:=.type "list",dict:=none,data:=.seq ([]:List Value).toArray }).get? b=some o:=λb hb=>let ⟨o,e,_⟩:=ob2 b hb;⟨o,Heap.get?_push_of_some _ e⟩
 have f3:∀ b∈fp,C7 X pins (upd H2 D (.lst [])) b:=λb hb=>by
  obtain ⟨o,e,_⟩:=ob2 b hb;have:b≠D:=by rw [← hDe];exact Nat.ne_of_lt (Heap.lt_size e)
  exact ⟨by rw [qq this];exact (f2 b hb).1,(f2 b hb).2⟩
 have k23:∀ b o,s2.heap.get? b=some o->(s2.heap.push { cls:=.type "list",dict:=none,data:=.seq ([]:List Value).toArray }).get? b=some o:=λb o e=>Heap.get?_push_of_some _ e;generalize hH3:upd H2 D (.lst [])=H3 at *;generalize hs3:({ s2 with heap:=s2.heap.push { cls:=.type "list",dict:=none,data:=.seq ([]:List Value).toArray } }:Shared)=s3 at *;have ob3:∀ b∈fp,∃ o,s3.heap.get? b=some o:=by rw [← hs3];exact ob3
 have k23:∀ b o,s2.heap.get? b=some o->s3.heap.get? b=some o:=by rw [← hs3];exact k23
 refine jG λh₁ hns hk hown=>?_;have I4:Inv (qj X N' scope s3 H3 fp) [] (cap m σ) H3 { s3 with heap:=h₁ }:=XN hc I3 sc hcap f3 ob3 hns hk hown;have tn4:tn 0 h₁:=T.keep _ _ _ st2 λb hb o e=>hk b o (k23 b o e);have fr4:∀ b∈fp,H3 b=none:=λb hb=>(f3 b hb).1;have stat:∀ {H':Hp},(∀ b∈fp,H' b=none)->∀ b∈fp,C7 (qj X N' scope s3 H3 fp) [] H' b:=λhn b hb=>by
  refine ⟨hn b hb,I4.ok.exf b hb |>.1,I4.ok.exfs b hb,.inl hb,λx c e=>(I4.ok.exf b hb).2 x c e,λp hp=>absurd (show p∈([]:List (Addr×Obj)) from hp) (by simp)⟩
 show codeAny (model X.prog X.w) X.A (.compStart (.ListComp elt [⟨tg,iter,ifs,0⟩] scope pos) 0 (.ref it) (.ref D) (qj X N' scope s3 H3 fp).env) (compPost (model X.prog X.w) X.A X.xe none (EP X pins σ Q) (.ref D) s3.heap.objs.size) { s3 with heap:=h₁ };have loop:codeAny (model X.prog X.w) X.A (.compLoop (.ListComp elt [⟨tg,iter,ifs,0⟩] scope pos) 0 (.ref it) (.ref D) (qj X N' scope s3 H3 fp).env) (compPost (model X.prog X.w) X.A X.xe none (EP X pins σ Q) (.ref D) s3.heap.objs.size) { s3 with heap:=h₁ }:=by
  refine codeAny_loop rfl (λn s'=>∃ i σ' H',Inv (qj X N' scope s3 H3 fp) [] σ' H' s'/\tn i s'.heap/\(∀ b∈fp,H' b=none)/\W i n σ' H') (λn s' hI=>?_) n0 ⟨0,cap m σ,H3,I4,tn4,fr4,w0⟩;show wpAny _ X.A ((compTurn (.ListComp elt [⟨tg,iter,ifs,0⟩] scope pos) 0 (.ref it) (.ref D) (qj X N' scope s3 H3 fp).env).onRaise (λx=>do noteFrame x (qj X N' scope s3 H3 fp).env;theTreesLotGoes x)) _ _ s';refine wpAny_noted ?_;rw [compTurn_list];refine wpAny_bind (wpAny_standAt (wpAny_bind ?_));obtain ⟨i,σ5,H5,I5,st5,fr5,w5⟩:=hI;rcases turn i n σ5 H5 w5 with ⟨stop,q⟩|⟨go,step⟩
  ·refine thn (T.done (qj X N' scope s3 H3 fp) rfl rfl rfl rfl i [] s' σ5 H5 _ I5 (stat fr5) st5 stop) λr s6 ⟨hr,I6⟩=>?_;subst hr;refine wpAny_pure ?_;obtain ⟨mm,hn6,_⟩:=I6.loc;exact ⟨mm,hn6,λh' sb=>⟨.ref D,H5,UM I3 f3 I6 sb,rfl,q⟩⟩
  ·refine thn (T.item (qj X N' scope s3 H3 fp) rfl rfl rfl rfl i [] s' σ5 H5 _ I5 (stat fr5) st5 go) λr s6 ⟨u,hr,h6⟩=>?_;subst hr;refine wpAny_bind (thn h6 λ_ s7 ⟨x,H7,I7,r7,y7,st7,fr7⟩=>?_);have I7':=I7.pinned (stat fr7) (T.obj _ _ st7);have again:∀ {σ8:L2.St} {H8:Hp} {s8:Shared},Inv (qj X N' scope s3 H3 fp) ([]++UW fp s7.heap) σ8 H8 s8->(∃ n',n'<n/\W (i+1) n' σ8 H8) ->
     ∃ m',m'<n/\∃ i σ' H',Inv (qj X N' scope s3 H3 fp) [] σ' H' s8/\tn i s8.heap/\(∀ b∈fp,H' b=none)/\W i m' σ' H':=λ{σ8 H8 s8} I8 ⟨n',hn,w8⟩=>by
    refine ⟨n',hn,i+1,σ8,H8,I8.unpinned,T.keep _ _ _ st7 λb hb o e=>(I8.pin (b,o) (mem_append_right _ (mem_append_right _ (zx hb e)))).1,λb hb=>?_,w8⟩;obtain ⟨o,e,d⟩:=T.obj _ _ st7 b hb;exact (I8.pin (b,o) (mem_append_right _ (mem_append_right _ (zx hb e)))).2.1
   refine wpAny_bind (wpAny_mono (hg s3 H3 fp _ s7 σ5 H7 x u _ I7' r7 (step x H7 y7)) (λ_ s8 ⟨σ8,H8,I8,q8⟩=>?_) λ_ _ z=>z.elim);refine wpAny_bind (wpAny_mono (hf s3 H3 fp _ s8 σ8 H8 _ I8 q8) (λk s9 ⟨H9,I9,q9⟩=>?_) λ_ _ z=>z.elim);cases k with
   |false=>
    rw [if_neg Bool.false_ne_true] at q9;exact wpAny_pure ⟨rfl,again I9 q9⟩
   |true=>
    rw [if_pos rfl] at q9;refine wpAny_bind (wpAny_bind (wpAny_mono (he s3 H3 fp _ s9 σ8 H9 _ I9 q9) (λw s10 ⟨y,H10,I10,r10,q10⟩=>?_) λ_ _ z=>z.elim));obtain ⟨zs,hz,hl,q10⟩:=q10;refine wpAny_bind (wpAny_mono (Y7 (X:=qj X N' scope s3 H3 fp) _ s10 σ8 H10 (.ref D) [y] (.ref D) [w] (λ_ H11=>H11=upd H10 D (.lst (zs++[y]))) I10 rfl (.cons r10 .nil) ⟨D,zs,y,rfl,rfl,hz,hl,rfl⟩) (λ_ s11 ⟨_,H11,I11,_,e11⟩=>?_) λ_ _ z=>z.elim);subst e11;exact wpAny_pure (wpAny_pure ⟨rfl,again I11 q10⟩)
 exact codeAny_compStart_list loop (T.self X.A 0 _ _ _ tn4 loop)
end
section
variable {K:Frg} {G G':Gp} {H H':Hp}
def qfM {D:Addr} {o:HO} {ws:List V} (hD:H D=some (.lst ws)) {a:Addr} {vs:List V} (h:SqT K H a vs):SqT K (upd H D o) a vs:=by
 rcases h with h|h
 ·refine .inl ?_;rcases h with h|⟨ob,h⟩
  ·have:a≠D:=by intro e;subst e;rw [hD] at h;cases h
   exact .inl (by rw [qq this];exact h)
  ·have:a≠D:=by intro e;subst e;rw [hD] at h;cases h
   exact .inr ⟨ob,by rw [qq this];exact h⟩
 ·exact .inr h
mutual
def Rp.wrD {D:Addr} {o:HO} {ws:List V} (hD:H D=some (.lst ws)):∀ {x:T} {v:V},Rp K H x v->Rp K (upd H D o) x v
 |_,_,.non=>.non
 |_,_,.bl b=>.bl b
 |_,_,.int i=>.int i
 |_,_,.str x=>.str x
 |_,_,.ref a=>.ref a
 |_,_,.tup h hs=>.tup (qfM hD h) (Rps.wrD hD hs)
def Rps.wrD {D:Addr} {o:HO} {ws:List V} (hD:H D=some (.lst ws)):∀ {x:List T} {v:List V},Rps K H x v->Rps K (upd H D o) x v
 |_,_,.nil=>.nil
 |_,_,.cons a b=>.cons (Rp.wrD hD a) (Rps.wrD hD b)
end
def HR.wrD {D:Addr} {o:HO} {ws:List V} (hr:HR K G H) (hD:H D=some (.lst ws)) (g:G D=none):HR K G (upd H D o):=λa ob e=>by
 have ha:a≠D:=by intro z;subst z;rw [g] at e;cases e
 have q:=hr a ob e;cases ob with
 |lst xs=>obtain ⟨vs,h1,h2⟩:=q;exact ⟨vs,by rw [qq ha];exact h1,h2.wrD hD⟩
 |frz xs=>obtain ⟨vs,⟨o1,h1⟩,h2⟩:=q;exact ⟨vs,⟨o1,by rw [qq ha];exact h1⟩,h2.wrD hD⟩
 |dct kvs=>obtain ⟨vs,h1,h2⟩:=q;exact ⟨vs,by rw [qq ha];exact h1,h2.wrD hD⟩
 |exn C=>have h1:H a=some (.ext (IsX a C)):=q;exact (show _=_ by rw [qq ha];exact h1)
 |tab ks xs=>obtain ⟨vs,h1,h2⟩:=q;exact ⟨vs,by rw [qq ha];exact h1,h2.wrD hD⟩
def Rel.wrD {D:Addr} {o:HO} {ws:List V} {τ:St3} {σ:L2.St} (r:Rel K τ G σ H) (hD:H D=some (.lst ws)) (g:G D=none):Rel K τ G σ (upd H D o):=
 ⟨r.hp.wrD hD g,r.len,λi t e=>let ⟨v,h1,h2⟩:=r.st i t e;⟨v,h1,h2.wrD hD⟩⟩
def Kp.wrD {D:Addr} {o:HO} (k:Kp G H G' H') (hD:H D=none):Kp G H G' (upd H' D o):=λa ob h g=>by
 obtain ⟨h1,h2⟩:=k a ob h g;exact ⟨by rw [qq (qo h hD)];exact h1,h2⟩
def qbT {α:Type} {m:List (Option Nat)} {σ:List (Option α)} {i j:Nat} (h:m[i]?=some (some j)):(cap m σ)[i]?=some ((σ[j]?).join):=by
 unfold cap;rw [getElem?_map,h];rfl
def Rel.cap {τ:St3} {σ:L2.St} (r:Rel K τ G σ H) (m:List (Option Nat)):Rel K (cap m τ) G (L3.cap m σ) H:=by
 refine ⟨r.hp,by simp [L3.cap],λi t e=>?_⟩;obtain ⟨j,e1,e2⟩:=qaP e;obtain ⟨v,h1,h2⟩:=r.st j t e2;exact ⟨v,by rw [qbT e1,h1];rfl,h2⟩
end
def TF (stay:Gp->Prop) (g:TG3) (tif:TT3) (te:TE3) (q:Q3):List T->List T->St3->Gp->Prop
 |[],ys,_,G=>stay G/\∀ p,G p=none->q (.ref p) (gu G p (.lst ys))
 |x::r,ys,τ,G=>stay G/\g x τ G λτ2 G2=>tif τ2 G2 λk G3=>if k=true then te τ2 G3 λy G4=>ys.length<sizeLine/\TF stay g tif te q r (ys++[y]) τ2 G4 else TF stay g tif te q r ys τ2 G3
def lc3 (wi:TI3) (g:TG3) (tif:TT3) (te:TE3) (m:List (Option Nat)):TE3:=λτ G q=>wi τ G λitems stay G1=>TF stay g tif te q items [] (cap m τ) G1
abbrev F3 (X:Cx) (ifs:List Expr) (t:TT3):Prop:=PF X ifs (lT X.K t)
def tt3:TT3:=λ_ G q=>q true G
def qnH {X:Cx}:F3 X [] tt3:=λpins s σ H Q I ⟨τ,G,q,rl,h,af⟩=>qgs pins s σ H Q I (af true G h H rl.hp Kp.refl)
def qno {X:Cx} {c:Expr} {t:TT3} (h:C3 X c t):F3 X [c] t:=qiX h
section
variable {X:Cx}
def qoB {elt tg iter:Expr} {ifs:List Expr} {scope:Scope} {pos:Pos} (N':List Str) (m:List (Option Nat)) {wi:TI3} {g:TG3} {tif:TT3} {te:TE3} (hc:X.calm=true) (hi:I3 X tg iter wi)
  (hg:∀ s H fp,G3 (qj X N' scope s H fp) tg g) (hf:∀ s H fp,F3 (qj X N' scope s H fp) ifs tif) (he:∀ s H fp,E3 (qj X N' scope s H fp) elt te)
  (hsc:LX X.env.scope scope=true) (hcap:YK X.N N' scope m=true) (hs:∀ x,foldedSetIterable iter X.env x=pure x:=by intro _;rfl) :
  E3 X (.ListComp elt [⟨tg,iter,ifs,0⟩] scope pos) (lc3 wi g tif te m):=
 U3 (qns (g:=lG X.K g) (tif:=lT X.K tif) (te:=lE X.K te) hc hi hg hf he hsc hcap hs) λσ H Q ⟨τ,G,q,rl,h,af⟩=>by
  refine ⟨τ,G,_,rl,h,λitems stay G1 h1 J H1 hr1 k1 ok D hD=>?_⟩;have gD:G1 D=none:=hr1.free hD;refine ⟨λi n σ' H'=>n=items.length-i/\i<=items.length/\∃ τ' G' ys vs,Rel X.K τ' G' σ' H'/\Kp G1 H1 G' H'/\H' D=some (.lst vs)/\Rps X.K H' ys vs/\G' D=none/\TF stay g tif te q (items.drop i) ys τ' G',
   ⟨_,rfl,Nat.zero_le _,cap m τ,G1,[],[],((rl.next hr1 k1).cap m).next (hr1.laid hD) (Kp.laid hD),Kp.laid hD,qJ,.nil,gD,by simpa using h1⟩,?_⟩
  rintro i n σ' H' ⟨rfl,hi,τ',G',ys,vs,rl',k',hDl,rys,gD',h'⟩;by_cases hlt:i<items.length
  ·rw [List.drop_eq_getElem_cons hlt] at h';obtain ⟨hst,h'⟩:=h';obtain ⟨go,yld,_⟩:=ok G' H' rl'.hp k' hst;have hx:items[i]?=some items[i]:=getElem?_eq_getElem hlt;refine .inr ⟨go i _ hx,λv H2 y=>?_⟩;obtain ⟨rv,hr2,k2⟩:=yld i _ v H2 hx y;have nxt:∀ {τ4:St3} {G4:Gp} {σ4:L2.St} {H4:Hp} {ys4:List T} {vs4:List V},Rel X.K τ4 G4 σ4 H4->Kp G1 H1 G4 H4->H4 D=some (.lst vs4)->Rps X.K H4 ys4 vs4->G4 D=none->TF stay g tif te q (items.drop (i+1)) ys4 τ4 G4 ->
     ∃ n',n'<items.length-i/\(n'=items.length-(i+1)/\i+1<=items.length/\∃ τ' G' ys vs,Rel X.K τ' G' σ4 H4/\Kp G1 H1 G' H4/\H4 D=some (.lst vs)/\Rps X.K H4 ys vs/\G' D=none/\TF stay g tif te q (items.drop (i+1)) ys τ' G'):=
    λ{τ4 G4 σ4 H4 ys4 vs4} a b c d e f=>⟨_,by omega,rfl,hlt,τ4,G4,ys4,vs4,a,b,c,d,e,f⟩
   refine ⟨_,τ',G',_,rv,rl'.next hr2 k2,h',λτ3 G3 h3 σ3 H3 rl3 k3=>⟨τ3,G3,_,rl3,h3,λk G4 h4 H4 hr4 k4=>?_⟩⟩;have kk:=(k2.trans k3).trans k4;obtain ⟨hD4,gD4⟩:=kk D _ hDl gD';have rys4:=rys.keep rl'.hp kk;cases k with
   |false=>
    rw [if_neg Bool.false_ne_true] at h4;refine qle ?_;exact nxt (rl3.next hr4 k4) (k'.trans kk) hD4 rys4 gD4 h4
   |true=>
    rw [if_pos rfl] at h4;refine qk7 ?_;refine ⟨τ3,G4,_,rl3.next hr4 k4,h4,λz G5 h5 w H5 rw5 hr5 k5=>?_⟩;obtain ⟨hD5,gD5⟩:=k5 D _ hD4 gD4;have rys5:=rys4.keep hr4 k5;exact ⟨vs,hD5,by rw [← rys.length];exact h5.1,nxt (((rl3.next hr4 k4).next hr5 k5).wrD hD5 gD5) (((k'.trans kk).trans k5).wrD hD) qJ ((rys5.append (.cons rw5 .nil)).wrD hD5) gD5 h5.2⟩
  ·have e:i=items.length:=by omega
   subst e;rw [List.drop_length] at h';obtain ⟨_,_,stop⟩:=ok G' H' rl'.hp k' h'.1;refine .inl ⟨stop,af _ _ (h'.2 D gD') _ H' (.ref D) (λa o e=>?_) λa o e ga=>?_⟩
   ·by_cases ha:a=D
    ·subst ha;rw [qL] at e;cases e;exact ⟨vs,hDl,rys⟩
    ·rw [jF ha] at e;exact rl'.hp a o e
   ·obtain ⟨e1,g1⟩:=k1 a o e ga;obtain ⟨e2,g2⟩:=k' a o e1 g1;exact ⟨e2,by rw [jF (qo e1 hD)];exact g2⟩
end
structure Src (P:Program) (w:World) (it c:Addr) (St:Nat->Heap->Prop) (Has:Array Value->Heap->Prop):Prop where
 obj:∀ {k h},St k h->∃ o,h.get? it=some o/\∀ v,o.data≠.cell v
 keep:∀ {k h h'},St k h->(∀ o,h.get? it=some o->h'.get? it=some o)->St k h'
 hkeep:∀ {xs h h'},Has xs h->(∀ o,h.get? c=some o->h'.get? c=some o)->Has xs h'
 item:∀ {A:Around} {s:Shared} {k:Nat} {xs:Array Value} {x:Value} {Q:Value->Shared->Prop} {E:Value->Shared->Prop},St k s.heap->Has xs s.heap->xs[k]?=some x ->
  (∀ h',St (k+1) h'->Heap.SameBut it s.heap h'->Q x { s with heap:=h' })->wpAny (model P w) A (Builtin.SmallTypes.nextOf (.ref it)) Q E s
 done:∀ {A:Around} {s:Shared} {k:Nat} {xs:Array Value} {Q:Value->Shared->Prop} {E:Value->Shared->Prop},A.handled=none->St k s.heap->Has xs s.heap->xs[k]?=none ->
  (∀ h' e,Heap.ExtBut it s.heap h'->(∃ o,h'.get? e=some o/\o.cls=.type "StopIteration")->E (.ref e) { s with heap:=h' })->wpAny (model P w) A (Builtin.SmallTypes.nextOf (.ref it)) Q E s
def qbN {P:Program} {w:World} (it l:Addr):Src P w it l (λk h=>h.IsListIter it l k) (λxs h=>h.IsList l xs) where
 obj:=λst=>let ⟨o,e,_,d⟩:=st;⟨o,e,λv z=>by rw [d] at z;cases z⟩
 keep:=λst k=>st.at λo e=>k o e
 hkeep:=λst k=>st.at λo e=>k o e
 item:=λst hl hx hQ=>wpAny_nextOf_list_item st hl hx hQ
 done:=λhh st hl hx hE=>wpAny_nextOf_list_end hh st hl hx hE
def K6 {P:Program} {w:World} {A:Around} {s:Shared} {it t:Addr} {i:Nat} {its:Array Value} {x:Value} {Q:Value->Shared->Prop} {E:Value->Shared->Prop} (hit:s.heap.IsTupleIter it t i) (ht:s.heap.IsTuple t its) (hx:its[i]?=some x)
  (hQ:∀ h',h'.IsTupleIter it t (i+1)->Heap.SameBut it s.heap h'->Q x { s with heap:=h' }):wpAny (model P w) A (Builtin.SmallTypes.nextOf (.ref it)) Q E s:=by
 obtain ⟨o1,e1,c1,d1⟩:=id hit;obtain ⟨o2,e2,_,n2,d2⟩:=ht;unfold Builtin.SmallTypes.nextOf;refine wpAny_bind (wpAny_callSpecial?_slot (name:=Str.ofString "__next__") hit.typeIs F.slot_tuple_iterator_next (wpAny_call_entry F.slot_tuple_iterator_next hit.typeIs F.entry_tuple_iterator_next ?_ (F.args_tuple_iterator_next_1 _)));refine wpAny_bind (m:=field (.ref it) 0) (wpAny_field e1 d1 (x:=.ref t) rfl ?_);rw [if_neg (show ¬ ((Value.ref t==Value.none)=true) by exact Bool.false_ne_true)];refine wpAny_bind (m:=field (.ref it) 1) (wpAny_field e1 d1 (x:=.int i 0) rfl ?_);refine wpAny_bind (m:=seqItems? (.ref t)) (wpAny_seqItems e2 d2 ?_);simp only [Int.toNat_natCast,hx];refine wpAny_bind (wpAny_setField e1 d1 (by simp) (wpAny_pure ⟨x,rfl,wpAny_pure (hQ _ ⟨_,Heap.get?_update_self _ e1 (Obj.isFreed_of_fields (Obj.data_mapFields d1 _)),(Obj.cls_mapFields ..).trans c1,?_⟩ (Heap.SameBut.update ..))⟩));rw [Obj.data_mapFields d1];simp [rawInt]
def WA {P:Program} {w:World} {A:Around} {s:Shared} {it t:Addr} {i:Nat} {its:Array Value} {Q:Value->Shared->Prop} {E:Value->Shared->Prop} (hh:A.handled=none) (hit:s.heap.IsTupleIter it t i) (ht:s.heap.IsTuple t its) (hx:its[i]?=none)
  (hE:∀ h' e,Heap.ExtBut it s.heap h'->(∃ o,h'.get? e=some o/\o.cls=.type "StopIteration")->E (.ref e) { s with heap:=h' }):wpAny (model P w) A (Builtin.SmallTypes.nextOf (.ref it)) Q E s:=by
 obtain ⟨o1,e1,c1,d1⟩:=id hit;obtain ⟨o2,e2,_,n2,d2⟩:=ht;unfold Builtin.SmallTypes.nextOf;refine wpAny_bind (wpAny_callSpecial?_slot (name:=Str.ofString "__next__") hit.typeIs F.slot_tuple_iterator_next (wpAny_call_entry F.slot_tuple_iterator_next hit.typeIs F.entry_tuple_iterator_next ?_ (F.args_tuple_iterator_next_1 _)));refine wpAny_bind (m:=field (.ref it) 0) (wpAny_field e1 d1 (x:=.ref t) rfl ?_);rw [if_neg (show ¬ ((Value.ref t==Value.none)=true) by exact Bool.false_ne_true)];refine wpAny_bind (m:=field (.ref it) 1) (wpAny_field e1 d1 (x:=.int i 0) rfl ?_);refine wpAny_bind (m:=seqItems? (.ref t)) (wpAny_seqItems e2 d2 ?_);simp only [Int.toNat_natCast,hx];refine wpAny_bind (wpAny_rule (wpAny_bind (wpAny_setField e1 d1 (by simp) ?_)));refine wpAny_bind (m:=newExc (.type "StopIteration") []) ?_;simp only [newExc,newTuple];refine wpAny_bind (wpAny_newObj_type ?_ (by size_fits));refine wpAny_bind (m:=firstArgMember _ _) (wpAny_of_eq (a:=Value.none) (by first|rfl|(simp only [firstArgMember]<;>rfl)) (wpAny_newObj_type ?_ (by size_fits)));simp only [raiseNew];refine wpAny_bind (wpAny_handled ?_)
 first|rw [show A.in1.handled=Option.none from hh]|rw [show A.handled=Option.none from hh]
 exact wpAny_bind (wpAny_pure (wpAny_throw (hE _ _ (((Heap.SameBut.update ..).extBut.push _).push _) ⟨_,Heap.get?_push_size _ rfl,rfl⟩)))
def qfI {P:Program} {w:World} (it t:Addr):Src P w it t (λk h=>h.IsTupleIter it t k) (λxs h=>h.IsTuple t xs) where
 obj:=λst=>let ⟨o,e,_,d⟩:=st;⟨o,e,λv z=>by rw [d] at z;cases z⟩
 keep:=λst k=>st.at λo e=>k o e
 hkeep:=λst k=>st.at λo e=>k o e
 item:=λst hl hx hQ=>K6 st hl hx hQ
 done:=λhh st hl hx hE=>WA hh st hl hx hE
structure ZA (z ti to i1 i2 c1 c2:Addr):Prop where
 ne:([z,ti,to,i1,i2]:List Addr).Nodup
 a1:c1∉[z,to,i1,i2]
 a2:c2∉[z,to,i1,i2]
section
variable {P:Program} {w:World} {A:Around} {s:Shared} {z ti to i1 i2 c1 c2:Addr} {S1 S2:Nat->Heap->Prop} {H1 H2:Array Value->Heap->Prop} {k1 k2:Nat} {xs ys:Array Value} {x y a b:Value} {E:Value->Shared->Prop}
def qch {Q:Value->Shared->Prop} (R1:Src P w i1 c1 S1 H1) (R2:Src P w i2 c2 S2 H2) (D:ZA z ti to i1 i2 c1 c2) (hz:IsZip s.heap z ti to .none) (hi:IsPair s.heap ti (.ref i1) (.ref i2)) (ho:IsPair s.heap to a b)
  (p1:S1 k1 s.heap) (p2:S2 k2 s.heap) (l1:H1 xs s.heap) (l2:H2 ys s.heap) (hx:xs[k1]?=some x) (hy:ys[k2]?=some y)
  (hQ:∀ h',IsZip h' z ti to (rawInt s.heap.objs.size)->IsPair h' to x y->S1 (k1+1) h'->S2 (k2+1) h'->IsPair h' s.heap.objs.size x y->(∀ c o,c∉[z,to,i1,i2]->s.heap.get? c=some o->h'.get? c=some o)->Q (.ref s.heap.objs.size) { s with heap:=h' }) :
  wpAny (model P w) A (Builtin.«zip.__next__» ⟨[.ref z],[]⟩) (λfin s'=>∃ v,fin=.done (.ret v)/\Q v s') E s:=by
 have ne:=D.ne;simp only [List.nodup_cons,mem_cons,not_mem_nil,not_or,or_false] at ne;obtain ⟨⟨n1,n2,n3,n4⟩,⟨n5,n6,n7⟩,⟨n8,n9⟩,n10,_⟩:=ne;have a1:=D.a1;have a2:=D.a2;simp only [mem_cons,not_mem_nil,not_or,or_false] at a1 a2;obtain ⟨q1,q2,q3,q4⟩:=a1;obtain ⟨r1,r2,r3,r4⟩:=a2;refine wpAny_bind (m:=field (.ref z) 2) (wpAny_field hz rfl (x:=.bool false) rfl ?_);refine wpAny_bind (m:=field (.ref z) 3) (wpAny_field hz rfl (x:=.ref ti) rfl ?_);refine wpAny_bind (wpAny_seqItems hi rfl ?_);refine wpAny_bind (m:=Builtin.SmallTypes.ownedTupleIsFree (.ref z)) ?_;unfold Builtin.SmallTypes.ownedTupleIsFree;refine wpAny_bind (wpAny_field hz rfl (x:=Value.none) rfl (wpAny_pure ?_));simp only [if_true];refine wpAny_bind (wpAny_rule (wpAny_bind (wpAny_field hz rfl (x:=.ref to) rfl (wpAny_bind (wpAny_setField_rec hz (by simp) λg1 z1 s1=>?_)))))
 replace z1:IsZip g1 z ti to Value.ellipsis:=z1
 refine wpAny_bind ?_;simp only [List.zipIdx_cons,List.zipIdx_nil,List.forIn_cons,List.forIn_nil];refine wpAny_bind (wpAny_bind (wpAny_onRaise (wpAny_bind (m:=Builtin.SmallTypes.nextOf (.ref i1)) ?_)));refine R1.item (R1.keep p1 λo e=>s1.extBut _ _ (Ne.symm n3) e) (R1.hkeep l1 λo e=>s1.extBut _ _ q1 e) hx λg2 p12 s2=>wpAny_pure ?_;have t2:IsPair g2 to a b:=s2.extBut _ _ n8 (s1.extBut _ _ (Ne.symm n2) ho);refine wpAny_bind (wpAny_seqItems t2 rfl (wpAny_bind (wpAny_updateSeq_pair t2 λg3 t3 s3=>?_)))
 replace t3:IsPair g3 to x b:=t3
 refine wpAny_bind (wpAny_letGo (wpAny_pure (wpAny_bind (wpAny_bind (wpAny_onRaise (wpAny_bind (m:=Builtin.SmallTypes.nextOf (.ref i2)) ?_))))));refine R2.item (R2.keep p2 λo e=>s3.extBut _ _ (Ne.symm n9) (s2.extBut _ _ (Ne.symm n10) (s1.extBut _ _ (Ne.symm n4) e))) (R2.hkeep l2 λo e=>s3.extBut _ _ r2 (s2.extBut _ _ r3 (s1.extBut _ _ r1 e))) hy λg4 p24 s4=>wpAny_pure ?_;have t4:IsPair g4 to x b:=s4.extBut _ _ n9 t3;refine wpAny_bind (wpAny_seqItems t4 rfl (wpAny_bind (wpAny_updateSeq_pair t4 λg5 t5 s5=>?_)))
 replace t5:IsPair g5 to x y:=t5
 refine wpAny_bind (wpAny_letGo (wpAny_pure (wpAny_pure (wpAny_bind (wpAny_seqItems t5 rfl (wpAny_bind (wpAny_newTuple ?_)))))));have sz:g5.objs.size=s.heap.objs.size:=by rw [s5.1,s4.1,s3.1,s2.1,s1.1]
 have z5:IsZip g5 z ti to Value.ellipsis:=s5.extBut _ _ n2 (s4.extBut _ _ n4 (s3.extBut _ _ n2 (s2.extBut _ _ n3 z1)));have kk:∀ c o,c∉[z,to,i1,i2]->s.heap.get? c=some o->g5.get? c=some o:=λc o hc e=>by
  simp only [mem_cons,not_mem_nil,not_or,or_false] at hc;exact s5.extBut _ _ hc.2.1 (s4.extBut _ _ hc.2.2.2 (s3.extBut _ _ hc.2.1 (s2.extBut _ _ hc.2.2.1 (s1.extBut _ _ hc.1 e))))
 have p15:S1 (k1+1) g5:=R1.keep p12 λo e=>s5.extBut _ _ (Ne.symm n8) (s4.extBut _ _ n10 (s3.extBut _ _ (Ne.symm n8) e));have p25:S2 (k2+1) g5:=R2.keep p24 λo e=>s5.extBut _ _ (Ne.symm n9) e;have zlt:z<g5.objs.size:=Heap.lt_size z5;refine wpAny_bind (m:=Builtin.SmallTypes.ownedTupleHandOut (.ref z) (.ref g5.objs.size)) ?_;unfold Builtin.SmallTypes.ownedTupleHandOut;have z6:IsZip (g5.push { cls:=.type "tuple",data:=.seq #[x,y] }) z ti to Value.ellipsis:=Heap.get?_push_of_some _ z5;refine wpAny_bind (wpAny_setField_rec z6 (by simp) λg7 z7 s7=>?_)
 replace z7:IsZip g7 z ti to (rawInt g5.objs.size):=z7
 refine wpAny_setField_rec z7 (by simp) λg8 z8 s8=>?_
 replace z8:IsZip g8 z ti to (rawInt g5.objs.size):=z8
 have up:∀ c o,c≠z->g5.get? c=some o->g8.get? c=some o:=λc o hc e=>s8.extBut _ _ hc (s7.extBut _ _ hc (Heap.get?_push_of_some _ e));have t8:IsPair g8 g5.objs.size x y:=s8.extBut _ _ (Nat.ne_of_gt zlt) (s7.extBut _ _ (Nat.ne_of_gt zlt) (Heap.get?_push_size _ rfl));rw [sz] at z8 t8;refine wpAny_pure ⟨_,rfl,?_⟩;show Q (Value.ref g5.objs.size) _;rw [sz];exact hQ g8 z8 (up _ _ (Ne.symm n2) t5) (R1.keep p15 λo e=>up _ o (Ne.symm n3) e) (R2.keep p25 λo e=>up _ o (Ne.symm n4) e) t8 λc o hc e=>up c o (λq=>hc (by simp [q])) (kk c o hc e)
def qeO {Q:Fin->Shared->Prop} (hh:A.handled=none) (R1:Src P w i1 c1 S1 H1) (R2:Src P w i2 c2 S2 H2) (D:ZA z ti to i1 i2 c1 c2) (hz:IsZip s.heap z ti to .none) (hi:IsPair s.heap ti (.ref i1) (.ref i2)) (ho:IsPair s.heap to a b)
  (p1:S1 k1 s.heap) (p2:S2 k2 s.heap) (l1:H1 xs s.heap) (l2:H2 ys s.heap) (hend:xs[k1]?=none\/ys[k2]?=none)
  (hE:∀ h' e,(∀ c o,c∉[z,to,i1,i2]->s.heap.get? c=some o->h'.get? c=some o)->(∃ o,h'.get? e=some o/\o.cls=.type "StopIteration")->E (.ref e) { s with heap:=h' }) :
  wpAny (model P w) A (Builtin.«zip.__next__» ⟨[.ref z],[]⟩) Q E s:=by
 have ne:=D.ne;simp only [List.nodup_cons,mem_cons,not_mem_nil,not_or,or_false] at ne;obtain ⟨⟨n1,n2,n3,n4⟩,⟨n5,n6,n7⟩,⟨n8,n9⟩,n10,_⟩:=ne;have a1:=D.a1;have a2:=D.a2;simp only [mem_cons,not_mem_nil,not_or,or_false] at a1 a2;obtain ⟨q1,q2,q3,q4⟩:=a1;obtain ⟨r1,r2,r3,r4⟩:=a2;refine wpAny_bind (m:=field (.ref z) 2) (wpAny_field hz rfl (x:=.bool false) rfl ?_);refine wpAny_bind (m:=field (.ref z) 3) (wpAny_field hz rfl (x:=.ref ti) rfl ?_);refine wpAny_bind (wpAny_seqItems hi rfl ?_);refine wpAny_bind (m:=Builtin.SmallTypes.ownedTupleIsFree (.ref z)) ?_;unfold Builtin.SmallTypes.ownedTupleIsFree;refine wpAny_bind (wpAny_field hz rfl (x:=Value.none) rfl (wpAny_pure ?_));simp only [if_true];refine wpAny_bind (wpAny_rule (wpAny_bind (wpAny_field hz rfl (x:=.ref to) rfl (wpAny_bind (wpAny_setField_rec hz (by simp) λg1 z1 s1=>?_)))))
 replace z1:IsZip g1 z ti to Value.ellipsis:=z1
 refine wpAny_bind ?_;simp only [List.zipIdx_cons,List.zipIdx_nil,List.forIn_cons,List.forIn_nil];refine wpAny_bind (wpAny_bind (wpAny_onRaise (wpAny_bind (m:=Builtin.SmallTypes.nextOf (.ref i1)) ?_)));cases hx:xs[k1]? with
 |none=>
  refine R1.done hh (R1.keep p1 λo e=>s1.extBut _ _ (Ne.symm n3) e) (R1.hkeep l1 λo e=>s1.extBut _ _ q1 e) hx λg2 e s2 ⟨oe,he,ce⟩=>?_;have z2:IsZip g2 z ti to Value.ellipsis:=s2 _ _ n3 z1;have ez:e≠z:=λq=>by subst q;rw [z2] at he;cases he;simp at ce
  refine wpAny_setField_rec z2 (by simp) λg3 _ s3=>hE g3 e (λc o hc q=>?_) ⟨oe,s3.extBut _ _ ez he,ce⟩;simp only [mem_cons,not_mem_nil,not_or,or_false] at hc;exact s3.extBut _ _ hc.1 (s2 _ _ hc.2.2.1 (s1.extBut _ _ hc.1 q))
 |some x=>
  have hy:ys[k2]?=none:=by rcases hend with q|q;rw [hx] at q;cases q;exact q
  refine R1.item (R1.keep p1 λo e=>s1.extBut _ _ (Ne.symm n3) e) (R1.hkeep l1 λo e=>s1.extBut _ _ q1 e) hx λg2 p12 s2=>wpAny_pure ?_;have t2:IsPair g2 to a b:=s2.extBut _ _ n8 (s1.extBut _ _ (Ne.symm n2) ho);refine wpAny_bind (wpAny_seqItems t2 rfl (wpAny_bind (wpAny_updateSeq_pair t2 λg3 t3 s3=>?_)));refine wpAny_bind (wpAny_letGo (wpAny_pure (wpAny_bind (wpAny_bind (wpAny_onRaise (wpAny_bind (m:=Builtin.SmallTypes.nextOf (.ref i2)) ?_))))));refine R2.done hh (R2.keep p2 λo e=>s3.extBut _ _ (Ne.symm n9) (s2.extBut _ _ (Ne.symm n10) (s1.extBut _ _ (Ne.symm n4) e))) (R2.hkeep l2 λo e=>s3.extBut _ _ r2 (s2.extBut _ _ r3 (s1.extBut _ _ r1 e))) hy λg4 e s4 ⟨oe,he,ce⟩=>?_;have z4:IsZip g4 z ti to Value.ellipsis:=s4 _ _ n4 (s3.extBut _ _ n2 (s2.extBut _ _ n3 z1));have ez:e≠z:=λq=>by subst q;rw [z4] at he;cases he;simp at ce
  refine wpAny_setField_rec z4 (by simp) λg5 _ s5=>hE g5 e (λc o hc q=>?_) ⟨oe,s5.extBut _ _ ez he,ce⟩;simp only [mem_cons,not_mem_nil,not_or,or_false] at hc;exact s5.extBut _ _ hc.1 (s4 _ _ hc.2.2.2 (s3.extBut _ _ hc.2.1 (s2.extBut _ _ hc.2.2.1 (s1.extBut _ _ hc.1 q))))
end
abbrev qm7 (b:Bool):String:=if b then "list_iterator" else "tuple_iterator"
abbrev zA (b:Bool) (c:Addr):Obj:={ cls:=.type (qm7 b),data:=.fields #[.ref c,.int 0 0] }
def LI (b:Bool) (it c:Addr) (k:Nat) (h:Heap):Prop:=match b with|true=>h.IsListIter it c k|false=>h.IsTupleIter it c k
def WO (b:Bool) (c:Addr) (xs:Array Value) (h:Heap):Prop:=match b with|true=>h.IsList c xs|false=>h.IsTuple c xs
def qH {P:Program} {w:World} (b:Bool) (it c:Addr):Src P w it c (LI b it c) (WO b c):=by
 cases b
 ·exact qfI it c
 ·exact qbN it c
def SF {P:Program} {w:World} {A:Around} {s:Shared} {b:Bool} {c:Addr} {xs:Array Value} {Q:Value->Shared->Prop} {E:Value->Shared->Prop} (h:WO b c xs s.heap) (q:Q (.ref s.heap.objs.size) { s with heap:=s.heap.push (zA b c) }) :
  wpAny (model P w) A (pyIter (.ref c)) Q E s:=by
 cases b
 ·exact wpAny_pyIter_tuple (show s.heap.IsTuple c xs from h) q
 ·exact wpAny_pyIter_list (show s.heap.IsList c xs from h) q
def L8 {b:Bool} {c:Addr} {xs:Array Value} {h:Heap} {o:Obj} (q:WO b c xs h):WO b c xs (h.push o):=by
 cases b
 ·exact (show h.IsTuple c xs from q).at λ_ e=>Heap.get?_push_of_some _ e
 ·exact (show h.IsList c xs from q).at λ_ e=>Heap.get?_push_of_some _ e
abbrev zh1 (h:Heap) (o1:Obj):Heap:=h.push o1
abbrev zh2 (h:Heap) (o1 o2:Obj):Heap:=(zh1 h o1).push o2
abbrev zh3 (h:Heap) (o1 o2:Obj):Heap:=(zh2 h o1 o2).push { cls:=.type "tuple",data:=.seq #[.ref h.objs.size,.ref (zh1 h o1).objs.size] }
abbrev zh4 (h:Heap) (o1 o2:Obj):Heap:=(zh3 h o1 o2).push { cls:=.type "tuple",data:=.seq #[.none,.none] }
abbrev zh5 (h:Heap) (o1 o2:Obj):Heap:=(zh4 h o1 o2).push { cls:=.type "zip",data:=.fields #[.none,.bool false,.bool false,.ref (zh2 h o1 o2).objs.size,.ref (zh3 h o1 o2).objs.size] }
def MI (c1 c2:Addr) (o1 o2:Obj) :
  Meets (Builtin.«zip.__new__» ⟨[.type "zip",.ref c1,.ref c2],[]⟩) (λ_ R s=>
   (∀ (P:Program) (w:World) (A:Around) (Q:Value->Shared->Prop) (E:Value->Shared->Prop),Q (.ref s.heap.objs.size) { s with heap:=zh1 s.heap o1 }->wpAny (model P w) A (pyIter (.ref c1)) Q E s) /\
   (∀ (P:Program) (w:World) (A:Around) (Q:Value->Shared->Prop) (E:Value->Shared->Prop),Q (.ref (zh1 s.heap o1).objs.size) { s with heap:=zh2 s.heap o1 o2 }->wpAny (model P w) A (pyIter (.ref c2)) Q E { s with heap:=zh1 s.heap o1 }) /\
   R (.ok (.ret (.ref (zh4 s.heap o1 o2).objs.size))) { s with heap:=zh5 s.heap o1 o2 }):=
 .of_wp λprog w A R s h=>by
  obtain ⟨hp,g,d,tk,os⟩:=s;obtain ⟨h1,h2,h⟩:=h;have hsub:=sub_zip;have k1:=λA Q E=>h1 prog w A Q E;have k2:=λA Q E=>h2 prog w A Q E
  wp_walk using k1 _ _ _,k2 _ _ _
  exact ⟨_,rfl,h⟩
def qbQ (b1 b2:Bool) (z ti to i1 i2 c1 c2:Addr) (k:Nat) (h:Heap):Prop:=
 IsZip h z ti to .none/\IsPair h ti (.ref i1) (.ref i2)/\(∃ a b,IsPair h to a b)/\LI b1 i1 c1 k h/\LI b2 i2 c2 k h
section
variable {P:Program} {w:World} {A:Around} {s:Shared} {E:Value->Shared->Prop}
def T5 {b1 b2:Bool} {c1 c2:Addr} {xs ys:Array Value} {Q:Value->Shared->Prop} (h1:WO b1 c1 xs s.heap) (h2:WO b2 c2 ys s.heap)
  (q:∀ h',qbQ b1 b2 (s.heap.objs.size+4) (s.heap.objs.size+2) (s.heap.objs.size+3) s.heap.objs.size (s.heap.objs.size+1) c1 c2 0 h'->(∀ c o,s.heap.get? c=some o->h'.get? c=some o)->Q (.ref (s.heap.objs.size+4)) { s with heap:=h' }) :
  wpAny (model P w) A (call (.type "zip") [.ref c1,.ref c2]) Q E s:=by
 refine callType_new F.called_zip (by decide) (F.typeCall_zip_2 _ _) (F.newCall_zip_2 _ _) (λobj=>F.args_object_init_3 obj _ _) F.entry_zip_new
  (MI c1 c2 (zA b1 c1) (zA b2 c2)) ⟨λP w A Q E q=>SF h1 q,λP w A Q E q=>SF (s:={ s with heap:=zh1 s.heap (zA b1 c1) }) (L8 h2) q,?_⟩
 have e1:(zh1 s.heap (zA b1 c1)).objs.size=s.heap.objs.size+1:=Heap.size_push ..;have e2:(zh2 s.heap (zA b1 c1) (zA b2 c2)).objs.size=s.heap.objs.size+2:=by rw [Heap.size_push,e1]
 have e3:(zh3 s.heap (zA b1 c1) (zA b2 c2)).objs.size=s.heap.objs.size+3:=by rw [Heap.size_push,e2]
 have e4:(zh4 s.heap (zA b1 c1) (zA b2 c2)).objs.size=s.heap.objs.size+4:=by rw [Heap.size_push,e3]
 have g5:(zh5 s.heap (zA b1 c1) (zA b2 c2)).get? (zh4 s.heap (zA b1 c1) (zA b2 c2)).objs.size=some _:=Heap.get?_push_size _ rfl;have g4:(zh5 s.heap (zA b1 c1) (zA b2 c2)).get? (zh3 s.heap (zA b1 c1) (zA b2 c2)).objs.size=some _:=Heap.get?_push_of_some _ (Heap.get?_push_size _ rfl);have g3:(zh5 s.heap (zA b1 c1) (zA b2 c2)).get? (zh2 s.heap (zA b1 c1) (zA b2 c2)).objs.size=some _:=Heap.get?_push_of_some _ (Heap.get?_push_of_some _ (Heap.get?_push_size _ rfl));have g2:(zh5 s.heap (zA b1 c1) (zA b2 c2)).get? (zh1 s.heap (zA b1 c1)).objs.size=some (zA b2 c2):=Heap.get?_push_of_some _ (Heap.get?_push_of_some _ (Heap.get?_push_of_some _ (Heap.get?_push_size _ rfl)));have g1:(zh5 s.heap (zA b1 c1) (zA b2 c2)).get? s.heap.objs.size=some (zA b1 c1):=Heap.get?_push_of_some _ (Heap.get?_push_of_some _ (Heap.get?_push_of_some _ (Heap.get?_push_of_some _ (Heap.get?_push_size _ rfl))));show _/\_;rw [e2,e3,e4] at g5;rw [e1,e2] at g3;rw [e3] at g4;rw [e1] at g2;rw [e4];refine ⟨⟨_,g5,rfl⟩,q _ ⟨g5,g3,⟨_,_,g4⟩,?_,?_⟩ λc o e=>Heap.get?_push_of_some _ (Heap.get?_push_of_some _ (Heap.get?_push_of_some _ (Heap.get?_push_of_some _ (Heap.get?_push_of_some _ e))))⟩
 ·cases b1<;>exact ⟨_,g1,rfl,rfl⟩
 ·cases b2<;>exact ⟨_,g2,rfl,rfl⟩
def qbe {b1 b2:Bool} {z ti to i1 i2 c1 c2:Addr} {k:Nat} {xs ys:Array Value} {x y:Value} {Q:Option Value->Shared->Prop} (D:ZA z ti to i1 i2 c1 c2) (st:qbQ b1 b2 z ti to i1 i2 c1 c2 k s.heap) (l1:WO b1 c1 xs s.heap) (l2:WO b2 c2 ys s.heap) (hx:xs[k]?=some x) (hy:ys[k]?=some y)
  (hQ:∀ h',IsZip h' z ti to (rawInt s.heap.objs.size)->IsPair h' ti (.ref i1) (.ref i2)->(∃ a b,IsPair h' to a b)->LI b1 i1 c1 (k+1) h'->LI b2 i2 c2 (k+1) h'->IsPair h' s.heap.objs.size x y->(∀ c o,c∉[z,to,i1,i2]->s.heap.get? c=some o->h'.get? c=some o)->Q (some (.ref s.heap.objs.size)) { s with heap:=h' }) :
  wpAny (model P w) A (pyNext (.ref z)) Q E s:=by
 obtain ⟨hz,hi,⟨a,b,ho⟩,p1,p2⟩:=st;have ty:s.TypeIs (.ref z) "zip" := ⟨_,hz,rfl⟩
 have nti:ti∉[z,to,i1,i2]:=by
  have ne:=D.ne;simp only [List.nodup_cons,mem_cons,not_mem_nil,not_or,or_false] at ne ⊢;exact ⟨Ne.symm ne.1.1,ne.2.1.1,ne.2.1.2.1,ne.2.1.2.2⟩
 unfold pyNext;exact wpAny_bind (wpAny_attempt (wpAny_callSpecial?_slot (name:=Str.ofString "__next__") ty F.slot_zip_next (wpAny_call_entry F.slot_zip_next ty F.entry_zip_next
  (qch (qH b1 i1 c1) (qH b2 i2 c2) D hz hi ho p1 p2 l1 l2 hx hy λh' u1 u2 u3 u4 u5 u6=>wpAny_pure (hQ h' u1 (u6 _ _ nti hi) ⟨_,_,u2⟩ u3 u4 u5 u6)) (F.args_zip_next_1 _))))
def C1 {b1 b2:Bool} {z ti to i1 i2 c1 c2:Addr} {k:Nat} {xs ys:Array Value} {Q:Option Value->Shared->Prop} (hh:A.handled=none) (D:ZA z ti to i1 i2 c1 c2) (st:qbQ b1 b2 z ti to i1 i2 c1 c2 k s.heap) (l1:WO b1 c1 xs s.heap) (l2:WO b2 c2 ys s.heap) (hend:xs[k]?=none\/ys[k]?=none)
  (hQ:∀ h',(∀ c o,c∉[z,to,i1,i2]->s.heap.get? c=some o->h'.get? c=some o)->Q none { s with heap:=h' }):wpAny (model P w) A (pyNext (.ref z)) Q E s:=by
 obtain ⟨hz,hi,⟨a,b,ho⟩,p1,p2⟩:=st;have ty:s.TypeIs (.ref z) "zip" := ⟨_,hz,rfl⟩
 unfold pyNext;refine wpAny_bind (wpAny_attempt (wpAny_callSpecial?_slot (name:=Str.ofString "__next__") ty F.slot_zip_next (wpAny_call_entry F.slot_zip_next ty F.entry_zip_next
  (qeO hh (qH b1 i1 c1) (qH b2 i2 c2) D hz hi ho p1 p2 l1 l2 hend λh' e hk ⟨o,q1,q2⟩=>?_) (F.args_zip_next_1 _))))
 exact wpAny_bind (wpAny_isInstance (T:="StopIteration") (b:=true) ⟨o,q1,q2⟩ isSubtype_stop (wpAny_pure (hQ _ hk)))
end
def SqB (K:Frg) (b:Bool) (H:Hp) (a:Addr) (xs:List V):Prop:=match b with|true=>SqL K H a xs|false=>SqT K H a xs
def SqB.get {X:Cx} {pins:List (Addr×Obj)} {σ:L2.St} {H:Hp} {s:Shared} {b:Bool} {a:Addr} {xs:List V} (I:Inv X pins σ H s) (h:SqB X.K b H a xs):∃ its:List Value,zj xs its/\WO b a its.toArray s.heap/\xs.length<=sizeLine:=by
 cases b
 ·obtain ⟨its,r,p,hz⟩:=I.tuple (show SqT X.K H a xs from h);exact ⟨its,r,(show s.heap.IsTuple a its.toArray from p),hz⟩
 ·obtain ⟨its,r,p,hz⟩:=I.list (show SqL X.K H a xs from h);exact ⟨its,r,p.isList,hz⟩
def SqB.inj {X:Cx} {pins:List (Addr×Obj)} {σ:L2.St} {H:Hp} {s:Shared} {b:Bool} {a:Addr} {xs ys:List V} (I:Inv X pins σ H s) (h:SqB X.K b H a xs) (h':SqB X.K b H a ys):xs=ys:=by
 cases b
 ·exact I.tuple_inj h h'
 ·exact I.list_inj h h'
def Itz (K:Frg) (b1 b2:Bool) (c1 c2:Addr):It:=
  ⟨λi H=>∃ xs ys x y,SqB K b1 H c1 xs/\SqB K b2 H c2 ys/\xs[i]?=some x/\ys[i]?=some y,
   λi H v H'=>∃ p x y,H p=none/\v=.ref p/\H'=upd H p (.tup [x,y])/\(∀ xs,SqB K b1 H c1 xs->xs[i]?=some x)/\(∀ ys,SqB K b2 H c2 ys->ys[i]?=some y),
   λi H=>∃ xs ys,SqB K b1 H c1 xs/\SqB K b2 H c2 ys/\(xs.length<=i\/ys.length<=i)⟩
def N4 {b:Bool} {c:Addr} {xs:Array Value} {h:Heap} (q:WO b c xs h):c<h.objs.size:=by
 cases b
 ·obtain ⟨o,e,_⟩:=(show h.IsTuple c xs from q);exact Heap.lt_size e
 ·obtain ⟨o,e,_⟩:=(show h.IsList c xs from q);exact Heap.lt_size e
def qbg {P:Program} {w:World} {K:Frg} {es:List Expr} {k1:Nat} {pt:Pos} {b1 b2:Bool} {z ti to i1 i2 c1 c2:Addr} (D:ZA z ti to i1 i2 c1 c2):Turn P w K (.Tuple es k1 pt) (Itz K b1 b2 c1 c2) [z,ti,to,i1,i2] z (qbQ b1 b2 z ti to i1 i2 c1 c2) where
 mem:=by simp
 obj:=λi h ⟨hz,hi,⟨a,b,ho⟩,p1,p2⟩ c hc=>by
  simp only [mem_cons,not_mem_nil,or_false] at hc;rcases hc with rfl|rfl|rfl|rfl|rfl
  ·exact ⟨_,hz,λv q=>by cases q⟩
  ·exact ⟨_,hi,λv q=>by cases q⟩
  ·exact ⟨_,ho,λv q=>by cases q⟩
  ·exact (qH (P:=P) (w:=w) b1 c c1).obj p1
  ·exact (qH (P:=P) (w:=w) b2 c c2).obj p2
 keep:=λi h h' ⟨hz,hi,⟨a,b,ho⟩,p1,p2⟩ k=>
  ⟨k z (by simp) _ hz,k ti (by simp) _ hi,⟨a,b,k to (by simp) _ ho⟩,(qH (P:=P) (w:=w) b1 i1 c1).keep p1 λo e=>k i1 (by simp) o e,(qH (P:=P) (w:=w) b2 i2 c2).keep p2 λo e=>k i2 (by simp) o e⟩
 item:=by
  intro X hP hw hK hc i pins s σ H E I hf st hg;subst hP hw hK;obtain ⟨xs,ys,x,y,sq1,sq2,hx,hy⟩:=hg;obtain ⟨its1,rv1,l1,z1⟩:=sq1.get I;obtain ⟨its2,rv2,l2,z2⟩:=sq2.get I;obtain ⟨u1,hu1,ru1⟩:=rv1.get hx;obtain ⟨u2,hu2,ru2⟩:=rv2.get hy;refine qbe D st l1 l2 (x:=u1) (y:=u2) (by simpa using hu1) (by simpa using hu2) λh' hz hi ho p1 p2 hp hk=>?_;have hfr:H s.heap.objs.size=none:=I.fresh;have free:∀ b∈[z,ti,to,i1,i2],H b=none:=λb hb=>(hf b hb).1;refine ⟨_,rfl,wpAny_letOwnedTupleGo_zip hz λh2 hz2 s2=>?_⟩;have zlt:z<s.heap.objs.size:=Heap.lt_size st.1;have hp2:IsPair h2 s.heap.objs.size u1 u2:=(s2.2 _ (Nat.ne_of_gt zlt)).trans hp;have ne:=D.ne;simp only [List.nodup_cons,mem_cons,not_mem_nil,not_or,or_false] at ne;have up:∀ c o,c≠z->h'.get? c=some o->h2.get? c=some o:=λc o hc e=>(s2.2 c hc).trans e;have kk:∀ c o,c∉[z,to,i1,i2]->s.heap.get? c=some o->h2.get? c=some o:=λc o hc e=>up c o (λq=>hc (by simp [q])) (hk c o hc e);have I3:Inv X pins σ (upd H s.heap.objs.size (.tup [x,y])) { s with heap:=h2 }:=by
   refine I.step (g':=s.gens) (d':=s.drawn) (t':=s.toks) (ch:=[z,to,i1,i2]) (λb hb=>?_) (λb o _ _ hcb e _=>kk b o hcb e) (λb o _ _ hcb e _=>⟨o.slots,kk b o hcb e⟩) (λb o _ e n=>by rw [qq (Nat.ne_of_lt (Heap.lt_size e))];exact n) (λb o hcb e=>⟨o,kk b o hcb e⟩)
    (λb _ e=>by rw [qq (qo e hfr)];exact e) (λb _ _ e=>by rw [qq (qo e hfr)];exact e) (λb ps e=>⟨#[],by rw [qq (qo e hfr),e];simp⟩) (λm hm=>?_) (λb u e=>?_) I.bare
   ·obtain ⟨f0,f1,f2,f3,f4,f5⟩:=hf b (by simp only [mem_cons,not_mem_nil,or_false] at hb ⊢;rcases hb with q|q|q|q<;>simp [q]);exact ⟨f3,f1,f4,f5⟩
   ·obtain ⟨o,es',ep,ho',r⟩:=hm;refine ⟨o,es',ep,kk _ o (λq=>?_) ho',r⟩;obtain ⟨f0,f1,_⟩:=hf X.env.locals (by simp only [mem_cons,not_mem_nil,or_false] at q ⊢;rcases q with q|q|q|q<;>simp [q]);exact f1 rfl
   ·by_cases hb:b=s.heap.objs.size
    ·subst hb;rw [qJ] at e;cases e;exact ⟨by show 2<=sizeLine;decide,[u1,u2],.cons ru1 (.cons ru2 .nil),⟨_,hp2,rfl,_,rfl,rfl⟩⟩
    ·rw [qq hb] at e;refine (I.hok b u e).stay (λc v hcb q=>kk c v (λm=>?_) q) (λ_ q=>by rw [qq (qo q hfr)];exact q) λ_ _ q=>by rw [qq (qo q hfr)];exact q
     have hn:=free c (by simp only [mem_cons,not_mem_nil,or_false] at m ⊢;rcases m with q|q|q|q<;>simp [q]);rcases hcb with q|q
     ·rw [q] at hn;rw [hn] at e;cases e
     ·rw [hn] at q;cases q
  refine ⟨.ref s.heap.objs.size,_,I3,rfl,⟨_,x,y,hfr,rfl,rfl,λzs q=>by rw [q.inj I sq1];exact hx,λzs q=>by rw [q.inj I sq2];exact hy⟩,⟨hz2,up _ _ (Ne.symm ne.1.1) hi,let ⟨a,b,q⟩:=ho;⟨a,b,up _ _ (Ne.symm ne.1.2.1) q⟩,(qH (P:=X.prog) (w:=X.w) b1 i1 c1).keep p1 λo e=>up _ o (Ne.symm ne.1.2.2.1) e,(qH (P:=X.prog) (w:=X.w) b2 i2 c2).keep p2 λo e=>up _ o (Ne.symm ne.1.2.2.2) e⟩,λb hb=>?_⟩;rw [qq (λq=>?_)]
  ·exact free b hb
  ·subst q;obtain ⟨hz0,hi0,⟨a0,b0,ho0⟩,q1,q2⟩:=st;simp only [mem_cons,not_mem_nil,or_false] at hb;rcases hb with q|q|q|q|q
   ·exact absurd q (Nat.ne_of_gt zlt)
   ·exact absurd q (Nat.ne_of_gt (Heap.lt_size hi0))
   ·exact absurd q (Nat.ne_of_gt (Heap.lt_size ho0))
   ·obtain ⟨o,e,_⟩:=(qH (P:=X.prog) (w:=X.w) b1 i1 c1).obj q1;exact absurd q (Nat.ne_of_gt (Heap.lt_size e))
   ·obtain ⟨o,e,_⟩:=(qH (P:=X.prog) (w:=X.w) b2 i2 c2).obj q2;exact absurd q (Nat.ne_of_gt (Heap.lt_size e))
 done:=by
  intro X hP hw hK hc i pins s σ H E I hf st hg;subst hP hw hK;obtain ⟨xs,ys,sq1,sq2,hend⟩:=hg;obtain ⟨its1,rv1,l1,z1⟩:=sq1.get I;obtain ⟨its2,rv2,l2,z2⟩:=sq2.get I;have e1:=rv1.length;have e2:=rv2.length;refine C1 (I.ok.hd hc) D st l1 l2 (by rcases hend with q|q;exact .inl (by simp;omega);exact .inr (by simp;omega)) λh' hk=>⟨rfl,?_⟩
  have free:∀ b∈[z,ti,to,i1,i2],H b=none:=λb hb=>(hf b hb).1;refine I.step (g':=s.gens) (d':=s.drawn) (t':=s.toks) (ch:=[z,to,i1,i2]) (λb hb=>?_) (λb o _ _ hcb e _=>hk b o hcb e) (λb o _ _ hcb e _=>⟨o.slots,hk b o hcb e⟩) (λ_ _ _ _ n=>n) (λb o hcb e=>⟨o,hk b o hcb e⟩) (λ_ _ e=>e) (λ_ _ _ e=>e) (λb ps e=>⟨#[],by rw [e];simp⟩) (λm hm=>?_) (λb u e=>?_) I.bare
  ·obtain ⟨f0,f1,f2,f3,f4,f5⟩:=hf b (by simp only [mem_cons,not_mem_nil,or_false] at hb ⊢;rcases hb with q|q|q|q<;>simp [q]);exact ⟨f3,f1,f4,f5⟩
  ·obtain ⟨o,es',ep,ho',r⟩:=hm;refine ⟨o,es',ep,hk _ o (λq=>?_) ho',r⟩;obtain ⟨f0,f1,_⟩:=hf X.env.locals (by simp only [mem_cons,not_mem_nil,or_false] at q ⊢;rcases q with q|q|q|q<;>simp [q]);exact f1 rfl
  ·refine (I.hok b u e).stay (λc v hcb q=>hk c v (λm=>?_) q) (λ_ q=>q) λ_ _ q=>q;have hn:=free c (by simp only [mem_cons,not_mem_nil,or_false] at m ⊢;rcases m with q|q|q|q<;>simp [q]);rcases hcb with q|q
   ·rw [q] at hn;rw [hn] at e;cases e
   ·rw [hn] at q;cases q
 self:=λA i s Q E st h=>wpAny_pyIter_zip st.1 h
def qda {n c1 c2:Addr} (h1:c1<n) (h2:c2<n):ZA (n+4) (n+2) (n+3) n (n+1) c1 c2:=by
 have k:∀ n c:Nat,c<n->c≠n+4/\c≠n+3/\c≠n/\c≠n+1:=λn c h=>by omega
 have d:∀ n:Nat,(([n+4,n+2,n+3,n,n+1]:List Nat)).Nodup:=λn=>by
  simp only [List.nodup_cons,mem_cons,not_mem_nil,not_or,or_false,List.nodup_nil,and_true,not_false_eq_true];omega
 refine ⟨d n,?_,?_⟩
 ·simp only [mem_cons,not_mem_nil,not_or,or_false];exact k n c1 h1
 ·simp only [mem_cons,not_mem_nil,not_or,or_false];exact k n c2 h2
section
variable {X:Cx} {a b e l:Expr} {es:List Expr} {pos:Pos}
def qj1 {p pt:Pos} {k1:Nat} {ta:TA} (hg:Gl X "zip") (hm:X.mg "zip" = none) (ha:PA X [a,b] ta) (hs:starEach [a,b] X.env=[(false,eval a X.env),(false,eval b X.env)]:=by rfl) (hs2:starEach [b] X.env=[(false,eval b X.env)]:=by rfl) :
  PI X (.Tuple es k1 pt) (.Call (.Name "zip" p) [a,b] [] pos) (λσ H R=>ta σ H λvs H1=>∃ b1 b2 c1 c2 xs ys,vs=[.ref c1,.ref c2]/\SqB X.K b1 H1 c1 xs/\SqB X.K b2 H1 c2 ys/\R (Itz X.K b1 b2 c1 c2) H1):=by
 intro pins s σ H R I h;refine Call_ (YG I hg hm PyProof.Rows.boot_zip (PyProof.Rows.callWith_type1 (thn (ha pos pins s σ H _ I h) λus s1 ⟨vs,H1,I1,r1,q1⟩=>?_) (by rw [hs,hs2]) (by rw [hs2];rfl)));obtain ⟨b1,b2,c1,c2,xs,ys,rfl,sq1,sq2,q⟩:=q1;obtain ⟨u1,u2,rfl,e1,e2⟩:=K1 r1;cases (show u1=Value.ref c1 from e1);cases (show u2=Value.ref c2 from e2);obtain ⟨its1,rv1,l1,z1⟩:=sq1.get I1;obtain ⟨its2,rv2,l2,z2⟩:=sq2.get I1;refine T5 l1 l2 λh' st hk=>wpAny_pyIter_zip st.1 ?_;refine ⟨s1.heap.objs.size+4,[s1.heap.objs.size+4,s1.heap.objs.size+2,s1.heap.objs.size+3,s1.heap.objs.size,s1.heap.objs.size+1],_,_,H1,rfl,I1.kept (t':=s1.toks) hk,qbg (qda (N4 l1) (N4 l2)),st,λc hc=>?_,q⟩;have hle:s1.heap.objs.size<=c:=by
  simp only [mem_cons,not_mem_nil,or_false] at hc;rcases hc with rfl|rfl|rfl|rfl|rfl<;>first|exact Nat.le_refl _|exact Nat.le_add_right _ _
 exact I1.fpOk hle (I1.hok.fresh hle)
end
def jK (G:Gp):T->Option (List T)
 |.tup xs=>some xs
 |.ref p=>getL G p
 |_=>none
def RD {K:Frg} {G0:Gp} {H0:Hp} {x:T} {v:V} {us:List T} (hr0:HR K G0 H0) (rx:Rp K H0 x v) (h:jK G0 x=some us) :
  ∃ b c,v=.ref c/\∀ G H,HR K G H->Kp G0 H0 G H->jK G x=some us->∃ vs,SqB K b H c vs/\Rps K H us vs:=by
 cases rx with
 |tup hs rs=>
  cases h;exact ⟨false,_,rfl,λG H hr k _=>⟨_,(EH hr0 k hs:SqT K H _ _),rs.keep hr0 k⟩⟩
 |ref a=>exact ⟨true,a,rfl,λG H hr k hq=>let ⟨vs,h1,h2⟩:=zK hr (show getL G a=some us from hq);⟨vs,h1,h2⟩⟩
 |_=>cases h
def qa9 (us vs:List T):List T:=(us.zip vs).map λp=>.tup [p.1,p.2]
def XF {us vs:List T} {i:Nat} {x:T} (h:(qa9 us vs)[i]?=some x):∃ a b,us[i]?=some a/\vs[i]?=some b/\x=.tup [a,b]:=by
 unfold qa9 at h;rw [getElem?_map] at h;cases e:(us.zip vs)[i]? with
 |none=>rw [e] at h;cases h
 |some p=>
  rw [e] at h;have:=List.getElem?_zip_eq_some.mp e;exact ⟨p.1,p.2,this.1,this.2,by simpa using h.symm⟩
def qc5 {K:Frg} {b1 b2:Bool} {c1 c2:Addr} {x y:T} {us vs:List T} {G0:Gp} {H0:Hp}
  (f1:∀ G H,HR K G H->Kp G0 H0 G H->jK G x=some us->∃ vs,SqB K b1 H c1 vs/\Rps K H us vs) (f2:∀ G H,HR K G H->Kp G0 H0 G H->jK G y=some vs->∃ ws,SqB K b2 H c2 ws/\Rps K H vs ws) :
  qe7 K (Itz K b1 b2 c1 c2) (qa9 us vs) (λG=>jK G x=some us/\jK G y=some vs) G0 H0:=by
 intro G H hr k ⟨h1,h2⟩;obtain ⟨p,sp,rp⟩:=f1 G H hr k h1;obtain ⟨q,sq,rq⟩:=f2 G H hr k h2;refine ⟨λi z hz=>?_,λi z v H' hz hy=>?_,⟨p,q,sp,sq,?_⟩⟩
 ·obtain ⟨a,b,ha,hb,_⟩:=XF hz;obtain ⟨v,hv,_⟩:=rp.get ha;obtain ⟨w,hw,_⟩:=rq.get hb;exact ⟨p,q,v,w,sp,sq,hv,hw⟩
 ·obtain ⟨a,b,ha,hb,rfl⟩:=XF hz;obtain ⟨t,v1,v2,ht,rfl,rfl,g1,g2⟩:=hy;obtain ⟨v,hv,rv⟩:=rp.get ha;obtain ⟨w,hw,rw'⟩:=rq.get hb;have e1:=(g1 p sp).symm.trans hv;have e2:=(g2 q sq).symm.trans hw;obtain rfl:v1=v:=Option.some.inj e1;obtain rfl:v2=w:=Option.some.inj e2;have kk:Kp G H G (upd H t (.tup [v1,v2])):=Kp.laid ht;exact ⟨.tup (SqT.of qJ) (.cons (rv.keep hr kk) (.cons (rw'.keep hr kk) .nil)),hr.laid ht,kk⟩
 ·rw [← rp.length,← rq.length,show (qa9 us vs).length=min us.length vs.length by simp [qa9]];omega
def X6 (ta:TA3):TI3:=λτ G r=>ta τ G λxs G1=>match xs with
 |[x,y]=>(match jK G1 x,jK G1 y with|some us,some vs=>r (qa9 us vs) (λG=>jK G x=some us/\jK G y=some vs) G1|_,_=>False)
 |_=>False
section
variable {X:Cx} {a b e l:Expr} {es:List Expr} {pos:Pos} {t:TA3}
def qmy {p pt:Pos} {k1:Nat} (hg:Gl X "zip") (hm:X.mg "zip" = none) (ha:A3 X [a,b] t) (hs:starEach [a,b] X.env=[(false,eval a X.env),(false,eval b X.env)]:=by rfl) (hs2:starEach [b] X.env=[(false,eval b X.env)]:=by rfl) :
  I3 X (.Tuple es k1 pt) (.Call (.Name "zip" p) [a,b] [] pos) (X6 t):=
 qgh (qj1 hg hm ha hs hs2) λσ H R ⟨τ,G,r,rl,h,af⟩=>QR rl h λxs G1 h1 vs H1 rs hr1 k1 rl1=>by
  split at h1
  ·rename_i x y;split at h1
   ·rename_i us ws e1 e2;obtain ⟨v,u,rfl,r1,r2⟩:=qk4 rs;obtain ⟨b1,c1,rfl,f1⟩:=RD hr1 r1 e1;obtain ⟨b2,c2,rfl,f2⟩:=RD hr1 r2 e2;obtain ⟨p,sp,_⟩:=f1 G1 H1 hr1 Kp.refl e1;obtain ⟨q,sq,_⟩:=f2 G1 H1 hr1 Kp.refl e2;exact ⟨b1,b2,c1,c2,p,q,rfl,sp,sq,af _ _ G1 h1 _ H1 hr1 k1 (qc5 f1 f2)⟩
   ·exact h1.elim
  ·exact h1.elim
def MH:List T->Gp->Q3->Prop:=λxs G q=>match xs with
 |[.ref p]=>(match getL G p with|some ys=>(match qcA ys with|some k=>q (.bl k) G|none=>False)|none=>False)
 |_=>False
def qap {K:Frg} {H:Hp}:∀ {ys:List T} {vs:List V} {k:Bool},Rps K H ys vs->qcA ys=some k->∃ ks:List Bool,vs=ks.map V.bl/\ks.all id=k
 |_,_,_,.nil,h=>by cases h;exact ⟨[],rfl,rfl⟩
 |y::ys,_,k,.cons a b,h=>by
  unfold qcA at h;split at h
  ·rename_i e;cases e
  ·rename_i j r e;cases e;split at h
   ·rename_i i ei;obtain ⟨ks,rfl,hk⟩:=qap b ei;cases a;cases h;exact ⟨j::ks,rfl,by rw [List.all_cons,hk];rfl⟩
   ·cases h
  ·cases h
def XY {K:Frg}:LB K MH (λxs H Q=>∃ (p:Addr) (ks:List Bool),xs=[.ref p]/\SqL K H p (ks.map V.bl)/\Q (.bl (ks.all id)) H):=λxs vs G H q Q hr rs h af=>by
 unfold MH at h;split at h
 ·rename_i p;obtain ⟨v,rfl,r⟩:=CL rs;cases r;split at h
  ·rename_i ys e0;split at h
   ·rename_i k e1;obtain ⟨us,hs,r2⟩:=zK hr e0;obtain ⟨ks,rfl,hk⟩:=qap r2 e1;exact ⟨p,ks,rfl,hs,by rw [hk];exact af _ G h _ H (.bl _) hr Kp.refl⟩
   ·exact h.elim
  ·exact h.elim
 ·exact h.elim
end
def qlt:Value->Bool
 |.type t=>t == "list"
 |_=>false
def UC:List (Addr×Obj)->Bool
 |[]=>true
 |p::r=>if qlt p.2.cls then false else UC r
def WM:∀ {K:List (Addr×Obj)} {a:Addr} {o:Obj},UC K=true->K.lookup a=some o->o.cls≠.type "list"
 |[],_,_,_,e=>by simp at e
 | (b,x)::r,a,o,h,e=>by
  unfold UC at h;split at h
  ·cases h
  ·rename_i hx;rw [List.lookup_cons] at e;split at e
   ·cases e;intro z;rw [z] at hx;exact hx rfl
   ·exact WM h e
def K4 {K:Frg} {H:Hp} {a:Addr} {ns:List Int} (hK:UC K=true) (hO:qlh H) (hS:SqL K H a (ns.map V.int)):∃ o,H a=some (.frz o (.lst (ns.map V.int))):=by
 rcases hS with (h|h)|⟨o,its,n,h1,h2,_⟩
 ·rcases hO a with z|⟨o,xs,z⟩<;>(rw [h] at z;cases z)
 ·exact h
 ·exact absurd h2 (WM hK h1)
def only (a:Addr) (ns:List Int):Gp:=λb=>if b=a then some (.frz (ns.map T.int)) else none
def qfH {K:Frg} {H:Hp} {a:Addr} {ns:List Int} (h:∃ o,H a=some (.frz o (.lst (ns.map V.int)))):HR K (only a ns) H:=λb o e=>by
 unfold only at e;split at e
 ·rename_i hb;subst hb;cases e;exact ⟨_,h,Rps.ints ns⟩
 ·cases e
def WG:Sp3:=λts G q=>∃ (a:Addr) (ns:List Int),ts=[.ref a]/\G a=some (.frz (ns.map T.int))/\ns.length<=63/\∀ G',q (.bl true) G'
def qmf {l:PySem.W.OpenLaw} {k:Nat} {q:Program} {loose:List Str} {XP:(Str->Option Value)->Heap->Prop} {YP:World->Heap->Prop} {d:DefRec} {K:Params->PySem.W.Frag} {x:Str} (hn:l.most=some 63) (hdf:d.params.defaults=[]) (hr:Room k callerA)
  (hY:∀ (w:World) (h:Heap),YP w h->(K w.params).In h) (hK:∀ w:World,UC (K w.params)=true)
  (F:∀ (w:World) (mg:Str->Option Value) (fa:Addr) (h:Heap),(K w.params).In h->h.Ns mainGlobals mg->mg d.name=some (.ref fa) ->
   ∃ fd:FuncData,(∀ (s:Shared) (u:Value),BindsTo s fd ⟨[u],[]⟩ [(x,u)])/\∀ base:Heap,(K w.params).In base->base.Ns mainGlobals mg->FnOk l.prog w (K w.params) mg base CX0 k fa fd [x] (lSp (K w.params) WG)) :
  PySem.W.WalkO q loose XP YP l.row.toRowW d [] (λf vs=>PySem.call f vs):=
 L2.qfd (n:=63) (k:=k) (x:=x) (CX:=λ_=>CX0) (sp:=λw=>lSp (K w.params) WG) hn (by decide) hdf hr hY F
  (λw H a ns hl hO hS=>⟨[.ref a],only a ns,λt _=>t=.bl true,qfH (K4 (hK w) hO hS),.cons (.ref a) .nil,⟨a,ns,rfl,by simp [only],hl,λ_=>rfl⟩,λt G' e v H' r _ _=>by subst e;cases r;rfl⟩) λ_ _ _ _ _ z=>z
def qeT {P:Program} {w:World} {K:Frg} {mg:Str->Option Value} {base:Heap} {x qual:Str} {st:Stmt} {f:Addr} {fd:FuncData} {N ps:List Str} {k:Nat} {sp:Sp3} {t3:TS3} (F:Fun K x qual st f fd) (S:FnScope N ps (qi st))
  (body:∀ (cdv:Value) (A:Around) (outer:List Env) (s:Shared) (H:Hp) (E:XK),Room k (A.deeper (envOfC qual (qi st) s.heap.objs.size f cdv)) ->
   B3 (qa8 CX0 P w K mg base N qual (qi st) f cdv A outer s H E).nox (jg st) t3)
  (read:∀ ts G q,sp ts G q->ts.length=ps.length/\t3 { nx:=λ_ G'=>q .non G',rt:=q } (qE N ts) G):FnOk P w K mg base CX0 (k+1) f fd ps (lSp K sp):=by
 refine F.ok S (λvs H Q E ⟨ts,G,q,h1,h2,h3,h4⟩=>by rw [← h2.length];exact (read ts G q h3).1) λcdv A outer s H vs Q E hr ⟨ts,G,q,h1,h2,h3,h4⟩=>?_;refine ⟨_,body cdv A outer s H E hr,qE N ts,G,_,CI h1 h2,(read ts G q h3).2,⟨λτ' G' h' σ' H' rl' k'=>h4 _ G' h' _ H' .non rl'.hp k',h4,λ_ _ z=>z.elim,λ_ _ z=>z.elim⟩⟩
abbrev eh1 (h:Heap) (o1:Obj):Heap:=h.push o1
abbrev eh2 (h:Heap) (o1:Obj):Heap:=(eh1 h o1).push { cls:=.type "enumerate",data:=.fields #[.none,.bool false,.ref h.objs.size,rawInt 0,.none,.none] }
def K2 (c:Addr) (o1:Obj) (ob:Obj) :
  Meets (Builtin.«enumerate.__new__» ⟨[.type "enumerate",.ref c],[]⟩) (λ_ R s=>s.heap.get? c=some ob /\
   (∀ (P:Program) (w:World) (A:Around) (Q:Value->Shared->Prop) (E:Value->Shared->Prop),Q (.ref s.heap.objs.size) { s with heap:=eh1 s.heap o1 }->wpAny (model P w) A (pyIter (.ref c)) Q E s) /\
   R (.ok (.ret (.ref (eh1 s.heap o1).objs.size))) { s with heap:=eh2 s.heap o1 }):=
 .of_wp λprog w A R s h=>by
  obtain ⟨hp,g,d,tk,os⟩:=s;obtain ⟨hl,h1,h⟩:=h;have hsub:=sub_enumerate;have k1:=λA Q E=>h1 prog w A Q E
  wp_walk using wpAny_loadPart' hl
  refine wpAny_stack_any λst=>wpAny_pure ?_;split
  ·rename_i c _ _ _ _ _;cases (c==Value.type "enumerate")
   ·wp_walk using wpAny_loadPart' hl,k1 _ _ _
    exact ⟨_,rfl,h⟩
   ·wp_walk using wpAny_loadPart' hl,k1 _ _ _
    exact ⟨_,rfl,h⟩
  ·wp_walk using wpAny_loadPart' hl,k1 _ _ _
   exact ⟨_,rfl,h⟩
def qbE {b:Bool} {c:Addr} {xs:Array Value} {h:Heap} (q:WO b c xs h):∃ o,h.get? c=some o:=by
 cases b
 ·obtain ⟨o,e,_⟩:=(show h.IsTuple c xs from q);exact ⟨o,e⟩
 ·obtain ⟨o,e,_⟩:=(show h.IsList c xs from q);exact ⟨o,e⟩
section
variable {P:Program} {w:World} {A:Around} {s:Shared} {E:Value->Shared->Prop}
def qaK {b:Bool} {c:Addr} {xs:Array Value} {Q:Value->Shared->Prop} (h1:WO b c xs s.heap)
  (q:∀ h',IsEnum h' (s.heap.objs.size+1) s.heap.objs.size 0 .none->LI b s.heap.objs.size c 0 h'->(∀ c o,s.heap.get? c=some o->h'.get? c=some o)->Q (.ref (s.heap.objs.size+1)) { s with heap:=h' }) :
  wpAny (model P w) A (call (.type "enumerate") [.ref c]) Q E s:=by
 obtain ⟨ob,hob⟩:=qbE h1;refine callType_new F.called_enumerate (by decide) (F.typeCall_enumerate_1 _) (F.newCall_enumerate_1 _) (λobj=>F.args_object_init_2 obj _) F.entry_enumerate_new
  (K2 c (zA b c) ob) ⟨hob,λP w A Q E q=>SF h1 q,?_⟩
 have e1:(eh1 s.heap (zA b c)).objs.size=s.heap.objs.size+1:=Heap.size_push ..;have g2:(eh2 s.heap (zA b c)).get? (eh1 s.heap (zA b c)).objs.size=some _:=Heap.get?_push_size _ rfl;have g1:(eh2 s.heap (zA b c)).get? s.heap.objs.size=some (zA b c):=Heap.get?_push_of_some _ (Heap.get?_push_size _ rfl);show _/\_;rw [e1] at g2 ⊢;refine ⟨⟨_,g2,rfl⟩,q _ g2 ?_ λc o e=>Heap.get?_push_of_some _ (Heap.get?_push_of_some _ e)⟩;cases b<;>exact ⟨_,g1,rfl,rfl⟩
end
def qbi {P:Program} {w:World} {A:Around} (hh:A.handled=none) (b:Bool) (it c:Addr) (hne:c≠it) (xs:Array Value) :
  Draws P w A it [it,c] xs.size (λi v=>xs[i]?=some v) (λi h=>LI b it c i h/\WO b c xs h) where
 live:=λi h st=>let ⟨o,e,_⟩:=(qH (P:=P) (w:=w) b it c).obj st.1;⟨o,e⟩
 frame:=λi h h' st hk=>⟨(qH (P:=P) (w:=w) b it c).keep st.1 λo e=>hk it (by simp) o e,(qH (P:=P) (w:=w) b it c).hkeep st.2 λo e=>hk c (by simp) o e⟩
 item:=λi s Q E hi st hQ=>by
  refine (qH (P:=P) (w:=w) b it c).item st.1 st.2 (x:=xs[i]) (by simp [hi]) λh' st' sb=>?_;exact hQ _ h' s.toks (by simp [hi]) ⟨st',(qH (P:=P) (w:=w) b it c).hkeep st.2 λo e=>(sb.2 c hne).trans e⟩ sb
 done:=λs Q E st hE=>(qH (P:=P) (w:=w) b it c).done hh st.1 st.2 (by simp) hE
def WZ {P:Program} {w:World} {A:Around} {s:Shared} {E:Value->Shared->Prop} {b:Bool} {e it c:Addr} {i:Nat} {xs:Array Value} {old:Value} {Q:Option Value->Shared->Prop} (hh:A.handled=none) (he:IsEnum s.heap e it i old) (p1:LI b it c i s.heap) (l1:WO b c xs s.heap) (hx:xs[i]?=none)
  (hQ:∀ h',Heap.ExtBut it s.heap h'->Q none { s with heap:=h' }):wpAny (model P w) A (pyNext (.ref e)) Q E s:=by
 have hT:s.TypeIs (.ref e) "enumerate" := ⟨_,he,rfl⟩
 unfold pyNext;refine wpAny_bind (wpAny_attempt (wpAny_callSpecial?_slot (name:=Str.ofString "__next__") hT F.slot_enumerate_next
  (wpAny_call_entry F.slot_enumerate_next hT F.entry_enumerate_next ?_ (F.args_enumerate_next_1 _))))
 show wpAny _ _ (field (.ref e) 2 >>= _) _ _ _;refine wpAny_bind (wpAny_field he rfl (x:=.ref it) rfl ?_);refine wpAny_bind ((qH (P:=P) (w:=w) b it c).done (show A.in1.handled=none from hh) p1 l1 hx λh' x he' hx'=>?_);obtain ⟨o,ho,hc⟩:=hx';refine wpAny_bind (wpAny_isInstance (T:="StopIteration") (b:=true) ⟨o,ho,hc⟩ isSubtype_stop ?_);exact wpAny_pure (hQ _ he')
def Ite (K:Frg) (b:Bool) (c:Addr):It:=
  ⟨λi H=>∃ xs x,SqB K b H c xs/\xs[i]?=some x,
   λi H v H'=>∃ p x,H p=none/\v=.ref p/\H'=upd H p (.tup [.int i,x])/\(∀ xs,SqB K b H c xs->xs[i]?=some x),
   λi H=>∃ xs,SqB K b H c xs/\xs.length<=i⟩
def qh0 (b:Bool) (e it c:Addr) (k:Nat) (h:Heap):Prop:=(∃ old,IsEnum h e it k old)/\LI b it c k h
def L9 {P:Program} {w:World} {K:Frg} {es:List Expr} {k1:Nat} {pt:Pos} {b:Bool} {e it c:Addr} (n1:e≠it) (n2:c≠e) (n3:c≠it):Turn P w K (.Tuple es k1 pt) (Ite K b c) [e,it] e (qh0 b e it c) where
 mem:=by simp
 obj:=λi h ⟨⟨old,he⟩,p1⟩ d hd=>by
  simp only [mem_cons,not_mem_nil,or_false] at hd;rcases hd with rfl|rfl
  ·exact ⟨_,he,λv q=>by cases q⟩
  ·exact (qH (P:=P) (w:=w) b d c).obj p1
 keep:=λi h h' ⟨⟨old,he⟩,p1⟩ k=>⟨⟨old,k e (by simp) _ he⟩,(qH (P:=P) (w:=w) b it c).keep p1 λo e=>k it (by simp) o e⟩
 item:=by
  intro X hP hw hK hc i pins s σ H E I hf st hg;subst hP hw hK;obtain ⟨xs,x,sq,hx⟩:=hg;obtain ⟨its,rv,l1,z1⟩:=sq.get I;obtain ⟨u,hu,ru⟩:=rv.get hx;obtain ⟨⟨old,he⟩,p1⟩:=st;have hil:i<its.toArray.size:=by have:=(List.getElem?_eq_some_iff.mp hu).1;simpa using this
  refine wpAny_pyNext_enum_itemD (qbi (show X.A.in1.handled=none from I.ok.hd hc) b it c n3 its.toArray) he ⟨p1,l1⟩ hil n1 (by simp only [mem_cons,not_mem_nil,or_false,not_or];exact ⟨n1,Ne.symm n2⟩) λy h' tk hy ho st' ht hsz hk=>?_;have hy':y=u:=by
   have:its.toArray[i]?=some u:=by simpa using hu
   rw [this] at hy;exact (Option.some.inj hy).symm
  subst hy';have hfr:H s.heap.objs.size=none:=I.fresh;have free:∀ b∈[e,it],H b=none:=λb hb=>(hf b hb).1;refine ⟨_,rfl,wpAny_letOwnedTupleGo_enum ho λh2 hz2 s2=>?_⟩;have elt:e<s.heap.objs.size:=Heap.lt_size he;have hp2:h2.get? s.heap.objs.size=some { cls:=.type "tuple",data:=.seq #[.int i tk,y] }:=(s2.2 _ (Nat.ne_of_gt elt)).trans ht;have up:∀ c o,c≠e->h'.get? c=some o->h2.get? c=some o:=λc o hc e=>(s2.2 c hc).trans e;have kk:∀ c o,c∉[e,it]->s.heap.get? c=some o->h2.get? c=some o:=λc o hc q=>by
   simp only [mem_cons,not_mem_nil,or_false,not_or] at hc;exact up c o hc.1 (hk c o hc.1 hc.2 q)
  have I3:Inv X pins σ (upd H s.heap.objs.size (.tup [.int i,x])) { s with heap:=h2,toks:=tk+1 }:=by
   refine I.step (g':=s.gens) (d':=s.drawn) (t':=tk+1) (ch:=[e,it]) (λb hb=>?_) (λb o _ _ hcb e _=>kk b o hcb e) (λb o _ _ hcb e _=>⟨o.slots,kk b o hcb e⟩) (λb o _ e n=>by rw [qq (Nat.ne_of_lt (Heap.lt_size e))];exact n) (λb o hcb e=>⟨o,kk b o hcb e⟩)
    (λb _ e=>by rw [qq (qo e hfr)];exact e) (λb _ _ e=>by rw [qq (qo e hfr)];exact e) (λb ps e=>⟨#[],by rw [qq (qo e hfr),e];simp⟩) (λm hm=>?_) (λb u e=>?_) I.bare
   ·obtain ⟨f0,f1,f2,f3,f4,f5⟩:=hf b hb;exact ⟨f3,f1,f4,f5⟩
   ·obtain ⟨o,es',ep,ho',r⟩:=hm;refine ⟨o,es',ep,kk _ o (λq=>?_) ho',r⟩;obtain ⟨f0,f1,_⟩:=hf X.env.locals q;exact f1 rfl
   ·by_cases hb:b=s.heap.objs.size
    ·subst hb;rw [qJ] at e;cases e;exact ⟨by show 2<=sizeLine;decide,[.int i tk,y],.cons ⟨tk,rfl⟩ (.cons ru .nil),⟨_,hp2,rfl,_,rfl,rfl⟩⟩
    ·rw [qq hb] at e;refine (I.hok b u e).stay (λc v hcb q=>kk c v (λm=>?_) q) (λ_ q=>by rw [qq (qo q hfr)];exact q) λ_ _ q=>by rw [qq (qo q hfr)];exact q
     have hn:=free c m;rcases hcb with q|q
     ·rw [q] at hn;rw [hn] at e;cases e
     ·rw [hn] at q;cases q
  refine ⟨.ref s.heap.objs.size,_,I3,rfl,⟨_,x,hfr,rfl,rfl,λzs q=>by rw [q.inj I sq];exact hx⟩,⟨⟨_,by push_cast;exact hz2⟩,(qH (P:=X.prog) (w:=X.w) b it c).keep st'.1 λo e=>up _ o (Ne.symm n1) e⟩,λb hb=>?_⟩;rw [qq (λq=>?_)]
  ·exact free b hb
  ·subst q;simp only [mem_cons,not_mem_nil,or_false] at hb;rcases hb with q|q
   ·exact absurd q (Nat.ne_of_gt elt)
   ·obtain ⟨o,e,_⟩:=(qH (P:=X.prog) (w:=X.w) b it c).obj p1;exact absurd q (Nat.ne_of_gt (Heap.lt_size e))
 done:=by
  intro X hP hw hK hc i pins s σ H E I hf st hg;subst hP hw hK;obtain ⟨xs,sq,hend⟩:=hg;obtain ⟨its,rv,l1,z1⟩:=sq.get I;obtain ⟨⟨old,he⟩,p1⟩:=st;have e1:=rv.length;have free:∀ b∈[e,it],H b=none:=λb hb=>(hf b hb).1;refine WZ (I.ok.hd hc) he p1 l1 (by simp;omega) λh' hk0=>⟨rfl,?_⟩
  have hk:∀ c o,c∉[e,it]->s.heap.get? c=some o->h'.get? c=some o:=λc o hcb q=>hk0 c o (by simp only [mem_cons,not_mem_nil,or_false,not_or] at hcb;exact hcb.2) q;refine I.step (g':=s.gens) (d':=s.drawn) (t':=s.toks) (ch:=[e,it]) (λb hb=>?_) (λb o _ _ hcb e _=>hk b o hcb e) (λb o _ _ hcb e _=>⟨o.slots,hk b o hcb e⟩) (λ_ _ _ _ n=>n) (λb o hcb e=>⟨o,hk b o hcb e⟩) (λ_ _ e=>e) (λ_ _ _ e=>e) (λb ps e=>⟨#[],by rw [e];simp⟩) (λm hm=>?_) (λb u e=>?_) I.bare
  ·obtain ⟨f0,f1,f2,f3,f4,f5⟩:=hf b hb;exact ⟨f3,f1,f4,f5⟩
  ·obtain ⟨o,es',ep,ho',r⟩:=hm;refine ⟨o,es',ep,hk _ o (λq=>?_) ho',r⟩;obtain ⟨f0,f1,_⟩:=hf X.env.locals q;exact f1 rfl
  ·refine (I.hok b u e).stay (λc v hcb q=>hk c v (λm=>?_) q) (λ_ q=>q) λ_ _ q=>q;have hn:=free c m;rcases hcb with q|q
   ·rw [q] at hn;rw [hn] at e;cases e
   ·rw [hn] at q;cases q
 self:=λA i s Q E st h=>let ⟨⟨old,he⟩,_⟩:=st;wpAny_pyIter_enum he h
section
variable {X:Cx} {a b e l:Expr} {es:List Expr} {pos:Pos}
def qfl {p pt:Pos} {k1:Nat} {ta:TA} (hg:Gl X "enumerate") (hm:X.mg "enumerate" = none) (ha:PA X [a] ta) (hs:starEach [a] X.env=[(false,eval a X.env)]:=by rfl) :
  PI X (.Tuple es k1 pt) (.Call (.Name "enumerate" p) [a] [] pos) (λσ H R=>ta σ H λvs H1=>∃ b1 c1 xs,vs=[.ref c1]/\SqB X.K b1 H1 c1 xs/\R (Ite X.K b1 c1) H1):=by
 intro pins s σ H R I h;refine Call_ (YG I hg hm PyProof.Rows.boot_enumerate (PyProof.Rows.callWith_type1 (thn (ha pos pins s σ H _ I h) λus s1 ⟨vs,H1,I1,r1,q1⟩=>?_) (by rw [hs];rfl) (by rfl)));obtain ⟨b1,c1,xs,rfl,sq1,q⟩:=q1;obtain ⟨u1,rfl,e1⟩:=W4 r1;cases (show u1=Value.ref c1 from e1);obtain ⟨its1,rv1,l1,z1⟩:=sq1.get I1;refine qaK l1 λh' he hit hk=>wpAny_pyIter_enum he ?_;have lt:=N4 l1;have ne3:∀ n c:Nat,c<n->n+1≠n/\c≠n+1/\c≠n:=λn c h=>by omega
 obtain ⟨m1,m2,m3⟩:=ne3 _ _ lt;refine ⟨s1.heap.objs.size+1,[s1.heap.objs.size+1,s1.heap.objs.size],_,_,H1,rfl,I1.kept (t':=s1.toks) hk,L9 m1 m2 m3,⟨⟨_,he⟩,hit⟩,λc hc=>?_,q⟩;have hle:s1.heap.objs.size<=c:=by
  simp only [mem_cons,not_mem_nil,or_false] at hc;rcases hc with rfl|rfl<;>first|exact Nat.le_refl _|exact Nat.le_add_right _ _
 exact I1.fpOk hle (I1.hok.fresh hle)
end
def jQ (k:Nat):List T->List T
 |[]=>[]
 |x::r=>.tup [.int (k:Int),x]::jQ (k+1) r
def qbc (us:List T):List T:=jQ 0 us
def U0:∀ {us:List T} {k i:Nat} {x:T},(jQ k us)[i]?=some x->∃ a,us[i]?=some a/\x=.tup [.int ((k+i:Nat):Int),a]
 |[],_,_,_,h=>by simp [jQ] at h
 |u::us,k,0,x,h=>by simp [jQ] at h;exact ⟨u,rfl,by simp [← h]⟩
 |u::us,k,i+1,x,h=>by
  simp [jQ] at h;obtain ⟨a,ha,hx⟩:=U0 h;exact ⟨a,by simpa using ha,by rw [hx];congr 4;omega⟩
def UV:∀ (us:List T) (k:Nat),(jQ k us).length=us.length
 |[],_=>rfl
 |u::us,k=>by simp [jQ,UV us]
def L5 (us:List T):(qbc us).length=us.length:=UV us 0
def X9 {us:List T} {i:Nat} {x:T} (h:(qbc us)[i]?=some x):∃ a,us[i]?=some a/\x=.tup [.int (i:Int),a]:=by
 obtain ⟨a,ha,hx⟩:=U0 h;exact ⟨a,ha,by rw [hx];congr 4;omega⟩
def qgQ {K:Frg} {b1:Bool} {c1:Addr} {x:T} {us:List T} {G0:Gp} {H0:Hp}
  (f1:∀ G H,HR K G H->Kp G0 H0 G H->jK G x=some us->∃ vs,SqB K b1 H c1 vs/\Rps K H us vs) :
  qe7 K (Ite K b1 c1) (qbc us) (λG=>jK G x=some us) G0 H0:=by
 intro G H hr k h1;obtain ⟨p,sp,rp⟩:=f1 G H hr k h1;refine ⟨λi z hz=>?_,λi z v H' hz hy=>?_,⟨p,sp,?_⟩⟩
 ·obtain ⟨a,ha,_⟩:=X9 hz;obtain ⟨v,hv,_⟩:=rp.get ha;exact ⟨p,v,sp,hv⟩
 ·obtain ⟨a,ha,rfl⟩:=X9 hz;obtain ⟨t,v1,ht,rfl,rfl,g1⟩:=hy;obtain ⟨v,hv,rv⟩:=rp.get ha;have e1:=(g1 p sp).symm.trans hv;obtain rfl:v1=v:=Option.some.inj e1;have kk:Kp G H G (upd H t (.tup [.int i,v1])):=Kp.laid ht;exact ⟨.tup (SqT.of qJ) (.cons (.int _) (.cons (rv.keep hr kk) .nil)),hr.laid ht,kk⟩
 ·rw [← rp.length,L5];exact Nat.le_refl _
def TX (ta:TA3):TI3:=λτ G r=>ta τ G λxs G1=>match xs with
 |[x]=>(match jK G1 x with|some us=>r (qbc us) (λG=>jK G x=some us) G1|_=>False)
 |_=>False
section
variable {X:Cx} {a b e l:Expr} {es:List Expr} {pos:Pos} {t:TA3}
def qhv {p pt:Pos} {k1:Nat} (hg:Gl X "enumerate") (hm:X.mg "enumerate" = none) (ha:A3 X [a] t) (hs:starEach [a] X.env=[(false,eval a X.env)]:=by rfl) :
  I3 X (.Tuple es k1 pt) (.Call (.Name "enumerate" p) [a] [] pos) (TX t):=
 qgh (qfl hg hm ha hs) λσ H R ⟨τ,G,r,rl,h,af⟩=>QR rl h λxs G1 h1 vs H1 rs hr1 k1 rl1=>by
  split at h1
  ·rename_i x;split at h1
   ·rename_i us e1;obtain ⟨v,rfl,r1⟩:=CL rs;obtain ⟨b1,c1,rfl,f1⟩:=RD hr1 r1 e1;obtain ⟨p,sp,_⟩:=f1 G1 H1 hr1 Kp.refl e1;exact ⟨b1,c1,p,rfl,sp,af _ _ G1 h1 _ H1 hr1 k1 (qgQ f1)⟩
   ·exact h1.elim
  ·exact h1.elim
end
section
variable {X:Cx} {a b c e:Expr} {es:List Expr} {ta tb tc te:TE3} {t:TA3} {pos:Pos}
def WY:List T->Option (List Int)
 |[]=>some []
 |.int i::r=>(match WY r with|some ns=>some (i::ns)|none=>none)
 |_=>none
def ET (ns:List Int):WY (ns.map T.int)=some ns:=by
 induction ns with
 |nil=>rfl
 |cons n r ih=>simp [WY,ih]
def EQ:∀ {xs:List T} {ns:List Int},WY xs=some ns->xs=ns.map T.int
 |[],_,h=>by simp [WY] at h;subst h;rfl
 |x::r,ns,h=>by
  unfold WY at h;split at h
  ·rename_i e;cases e
  ·rename_i i r' e;cases e;split at h
   ·rename_i ms e2;cases h;rw [EQ e2];rfl
   ·cases h
  ·cases h
def EK {K:Frg} {H:Hp}:∀ {ns:List Int} {vs:List V},Rps K H (ns.map T.int) vs->vs=ns.map V.int
 |[],_,r=>by cases r;rfl
 |n::ns,_,r=>by
  cases r with
  |cons a b=>cases a;rw [EK b];rfl
end
section
variable {X:Cx}
def qem {elt tg iter:Expr} {ifs:List Expr} {scope:Scope} {pos cpos:Pos} {N':List Str} {m:List (Option Nat)} {wi:TI} {g:TG} {tif:TT} {te:TE} {use:Option (Value->Sem Unit)} {Qc:Value->Shared->Prop} {QD:Addr->Hp->Prop} (hc:X.calm=true) (hi:PI X tg iter wi)
  (hg:∀ s H fp,PG (qj X N' scope s H fp) tg g) (hf:∀ s H fp,PF (qj X N' scope s H fp) ifs tif) (he:∀ s H fp,PE (qj X N' scope s H fp) elt te)
  (hsc:LX X.env.scope scope=true) (hcap:YK X.N N' scope m=true) (hs:∀ x,foldedSetIterable iter X.env x=pure x) {pins:List (Addr×Obj)} {s:Shared} {σ:L2.St} {H:Hp} (I:Inv X pins σ H s)
  (h:wi σ H λJ H1=>∀ D,H1 D=none ->
   ∃ W:Nat->Nat->L2.St->Hp->Prop,(∃ n,W 0 n (cap m σ) (upd H1 D (.lst [])))/\∀ i n σ H,W i n σ H ->
    (J.stop i H/\QD D H)\/(J.go i H/\∀ x H',J.yld i H x H'->g x σ H' λσ2 H2=>tif σ2 H2 λk H3=>
     if k=true then te σ2 H3 λy H4=>∃ zs,H4 D=some (.lst zs)/\zs.length<sizeLine/\∃ n',n'<n/\W (i+1) n' σ2 (upd H4 D (.lst (zs++[y])))
     else ∃ n',n'<n/\W (i+1) n' σ2 H3))
  (fin:∀ (D:Addr) (s3:Shared) (H3:Hp) (fp:List Addr) (s6:Shared) (H6:Hp) (σ6:L2.St) (r:Flow),Inv X pins σ H3 s3->(∀ b∈fp,C7 X pins H3 b)->Inv (qj X N' scope s3 H3 fp) [] σ6 H6 s6->QD D H6->compPost (model X.prog X.w) X.A X.xe use Qc (.ref D) s3.heap.objs.size (.ok r) s6) :
  wpAny (model X.prog X.w) X.A (comprehension (.ListComp elt [⟨tg,iter,ifs,0⟩] scope pos) scope X.env cpos (newList []) false (eval iter X.env) use) Qc X.xe s:=by
 have sc:=UE hsc;have hcl:∀ y∈scope.names,y.2=.free->∃ c,X.env.cells.lookup y.1=some c:=λy hy e=>by
  rcases (sc.free y hy e).2 with z|z
  ·exact I.ok.has y.1 (.inl z)
  ·exact I.ok.has y.1 (.inr z)
 refine wpAny_comprehension_free (g:=⟨tg,iter,ifs,0⟩) (gs:=[]) rfl hs (ZW hcl) sc.kind sc.loc ?_;show wpAny _ _ (eval iter X.env) _ _ s;refine thn (hi pins s σ H _ I h) λv s1 h1=>thn h1 λitv s2 h2=>?_;obtain ⟨it,fp,tn,J,H2,rfl,I2,T,st2,f2,hW⟩:=h2;refine wpAny_newObj_type ?_;have hD:H2 s2.heap.objs.size=none:=I2.fresh;obtain ⟨W,⟨n0,w0⟩,turn⟩:=hW _ hD;generalize hDe:s2.heap.objs.size=D at *;have I3:Inv X pins σ (upd H2 D (.lst [])) { s2 with heap:=s2.heap.push { cls:=.type "list",dict:=none,data:=.seq ([]:List Value).toArray } }:=by
  subst hDe;exact I2.laid (t':=s2.toks) (λb u e=>Heap.get?_push_of_some _ e) (Nat.le_refl _) ⟨Nat.zero_le _,[],0,.nil,Heap.get?_push_size _ rfl⟩
 have ob2:=T.obj 0 _ st2;have ob3:∀ b∈fp,∃ o,(s2.heap.push { cls:=.type "list",dict:=none,data:=.seq ([]:List Value).toArray }).get? b=some o:=λb hb=>let ⟨o,e,_⟩:=ob2 b hb;⟨o,Heap.get?_push_of_some _ e⟩
 have f3:∀ b∈fp,C7 X pins (upd H2 D (.lst [])) b:=λb hb=>by
  obtain ⟨o,e,_⟩:=ob2 b hb;have:b≠D:=by rw [← hDe];exact Nat.ne_of_lt (Heap.lt_size e)
  exact ⟨by rw [qq this];exact (f2 b hb).1,(f2 b hb).2⟩
 have k23:∀ b o,s2.heap.get? b=some o->(s2.heap.push { cls:=.type "list",dict:=none,data:=.seq ([]:List Value).toArray }).get? b=some o:=λb o e=>Heap.get?_push_of_some _ e;generalize hH3:upd H2 D (.lst [])=H3 at *;generalize hs3:({ s2 with heap:=s2.heap.push { cls:=.type "list",dict:=none,data:=.seq ([]:List Value).toArray } }:Shared)=s3 at *;have ob3:∀ b∈fp,∃ o,s3.heap.get? b=some o:=by rw [← hs3];exact ob3
 have k23:∀ b o,s2.heap.get? b=some o->s3.heap.get? b=some o:=by rw [← hs3];exact k23
 refine jG λh₁ hns hk hown=>?_;have I4:Inv (qj X N' scope s3 H3 fp) [] (cap m σ) H3 { s3 with heap:=h₁ }:=XN hc I3 sc hcap f3 ob3 hns hk hown;have tn4:tn 0 h₁:=T.keep _ _ _ st2 λb hb o e=>hk b o (k23 b o e);have fr4:∀ b∈fp,H3 b=none:=λb hb=>(f3 b hb).1;have stat:∀ {H':Hp},(∀ b∈fp,H' b=none)->∀ b∈fp,C7 (qj X N' scope s3 H3 fp) [] H' b:=λhn b hb=>by
  refine ⟨hn b hb,I4.ok.exf b hb |>.1,I4.ok.exfs b hb,.inl hb,λx c e=>(I4.ok.exf b hb).2 x c e,λp hp=>absurd (show p∈([]:List (Addr×Obj)) from hp) (by simp)⟩
 show codeAny (model X.prog X.w) X.A (.compStart (.ListComp elt [⟨tg,iter,ifs,0⟩] scope pos) 0 (.ref it) (.ref D) (qj X N' scope s3 H3 fp).env) (compPost (model X.prog X.w) X.A X.xe use Qc (.ref D) s3.heap.objs.size) { s3 with heap:=h₁ };have loop:codeAny (model X.prog X.w) X.A (.compLoop (.ListComp elt [⟨tg,iter,ifs,0⟩] scope pos) 0 (.ref it) (.ref D) (qj X N' scope s3 H3 fp).env) (compPost (model X.prog X.w) X.A X.xe use Qc (.ref D) s3.heap.objs.size) { s3 with heap:=h₁ }:=by
  refine codeAny_loop rfl (λn s'=>∃ i σ' H',Inv (qj X N' scope s3 H3 fp) [] σ' H' s'/\tn i s'.heap/\(∀ b∈fp,H' b=none)/\W i n σ' H') (λn s' hI=>?_) n0 ⟨0,cap m σ,H3,I4,tn4,fr4,w0⟩;show wpAny _ X.A ((compTurn (.ListComp elt [⟨tg,iter,ifs,0⟩] scope pos) 0 (.ref it) (.ref D) (qj X N' scope s3 H3 fp).env).onRaise (λx=>do noteFrame x (qj X N' scope s3 H3 fp).env;theTreesLotGoes x)) _ _ s';refine wpAny_noted ?_;rw [compTurn_list];refine wpAny_bind (wpAny_standAt (wpAny_bind ?_));obtain ⟨i,σ5,H5,I5,st5,fr5,w5⟩:=hI;rcases turn i n σ5 H5 w5 with ⟨stop,q⟩|⟨go,step⟩
  ·refine thn (T.done (qj X N' scope s3 H3 fp) rfl rfl rfl rfl i [] s' σ5 H5 _ I5 (stat fr5) st5 stop) λr s6 ⟨hr,I6⟩=>?_;subst hr;refine wpAny_pure ?_;exact fin D s3 H3 fp s6 H5 σ5 _ I3 f3 I6 q
  ·refine thn (T.item (qj X N' scope s3 H3 fp) rfl rfl rfl rfl i [] s' σ5 H5 _ I5 (stat fr5) st5 go) λr s6 ⟨u,hr,h6⟩=>?_;subst hr;refine wpAny_bind (thn h6 λ_ s7 ⟨x,H7,I7,r7,y7,st7,fr7⟩=>?_);have I7':=I7.pinned (stat fr7) (T.obj _ _ st7);have again:∀ {σ8:L2.St} {H8:Hp} {s8:Shared},Inv (qj X N' scope s3 H3 fp) ([]++UW fp s7.heap) σ8 H8 s8->(∃ n',n'<n/\W (i+1) n' σ8 H8) ->
     ∃ m',m'<n/\∃ i σ' H',Inv (qj X N' scope s3 H3 fp) [] σ' H' s8/\tn i s8.heap/\(∀ b∈fp,H' b=none)/\W i m' σ' H':=λ{σ8 H8 s8} I8 ⟨n',hn,w8⟩=>by
    refine ⟨n',hn,i+1,σ8,H8,I8.unpinned,T.keep _ _ _ st7 λb hb o e=>(I8.pin (b,o) (mem_append_right _ (mem_append_right _ (zx hb e)))).1,λb hb=>?_,w8⟩;obtain ⟨o,e,d⟩:=T.obj _ _ st7 b hb;exact (I8.pin (b,o) (mem_append_right _ (mem_append_right _ (zx hb e)))).2.1
   refine wpAny_bind (wpAny_mono (hg s3 H3 fp _ s7 σ5 H7 x u _ I7' r7 (step x H7 y7)) (λ_ s8 ⟨σ8,H8,I8,q8⟩=>?_) λ_ _ z=>z.elim);refine wpAny_bind (wpAny_mono (hf s3 H3 fp _ s8 σ8 H8 _ I8 q8) (λk s9 ⟨H9,I9,q9⟩=>?_) λ_ _ z=>z.elim);cases k with
   |false=>
    rw [if_neg Bool.false_ne_true] at q9;exact wpAny_pure ⟨rfl,again I9 q9⟩
   |true=>
    rw [if_pos rfl] at q9;refine wpAny_bind (wpAny_bind (wpAny_mono (he s3 H3 fp _ s9 σ8 H9 _ I9 q9) (λw s10 ⟨y,H10,I10,r10,q10⟩=>?_) λ_ _ z=>z.elim));obtain ⟨zs,hz,hl,q10⟩:=q10;refine wpAny_bind (wpAny_mono (Y7 (X:=qj X N' scope s3 H3 fp) _ s10 σ8 H10 (.ref D) [y] (.ref D) [w] (λ_ H11=>H11=upd H10 D (.lst (zs++[y]))) I10 rfl (.cons r10 .nil) ⟨D,zs,y,rfl,rfl,hz,hl,rfl⟩) (λ_ s11 ⟨_,H11,I11,_,e11⟩=>?_) λ_ _ z=>z.elim);subst e11;exact wpAny_pure (wpAny_pure ⟨rfl,again I11 q10⟩)
 exact codeAny_compStart_list loop (T.self X.A 0 _ _ _ tn4 loop)
def qbo {i:Nat} {y:Str} {py spos:Pos} {elt tg iter:Expr} {ifs:List Expr} {scope:Scope} {pos:Pos} {N':List Str} {m:List (Option Nat)} {wi:TI} {g:TG} {tif:TT} {te:TE} (hc:X.calm=true) (hN:X.N.Nodup) (hi:PI X tg iter wi)
  (hg:∀ s H fp,PG (qj X N' scope s H fp) tg g) (hf:∀ s H fp,PF (qj X N' scope s H fp) ifs tif) (he:∀ s H fp,PE (qj X N' scope s H fp) elt te)
  (hsc:LX X.env.scope scope=true) (hcap:YK X.N N' scope m=true) (hs:∀ x,foldedSetIterable iter X.env x=pure x) (hiy:X.N[i]?=some y) (hl:X.env.scope.names.lookup y=some .local)
  (hsw:swapsWith (.ListComp elt [⟨tg,iter,ifs,0⟩] scope pos) (some (.Name y py)) spos.line X.env=pure true) :
  PS X (.Assign [.Name y py] (.ListComp elt [⟨tg,iter,ifs,0⟩] scope pos) spos) (qnq (tLC wi g tif te m) (qfS i)):=by
 intro pins s σ H D I h;rw [exec_Assign_Name_used _ _ _ _ hsw];refine wpAny_bind (wpAny_standAt (wpAny_bind ?_));show wpAny _ X.A (do let _←comprehension (.ListComp elt [⟨tg,iter,ifs,0⟩] scope pos) scope X.env _ (newList []) false (eval iter X.env) (some (assign (.Name y py) X.env))) _ _ s;refine wpAny_bind (wpAny_mono (qem (use:=some (assign (.Name y py) X.env)) (QD:=λD' H'=>D.nx (σ.set i (some (.ref D'))) H') (Qc:=λ_ s'=>∃ σ' H',Inv X pins σ' H' s'/\D.nx σ' H') hc hi hg hf he hsc hcap hs I h λD' s3 H3 fp s6 H6 σ6 r I3 f3 I6 q=>?_) (λ_ s' hq=>wpAny_pure (wpAny_pure hq)) λ_ _ e=>e);have I7:Inv X pins σ H6 s6:=UM (h2:=s6.heap) I3 f3 I6 ⟨rfl,λ_ _=>rfl⟩;obtain ⟨mm,hn6,_⟩:=I6.loc;have hfC:C7 X pins H6 s3.heap.objs.size:=I3.fpOk (Nat.le_refl _) I6.free;obtain ⟨f0,f1,f2,f3',f4,f5⟩:=hfC;show wpAny _ X.A (assign (.Name y py) X.env (.ref D')) _ _ _;refine wpAny_assign_Name (X8 I7 hN hiy (.inl hl) (v:=.ref D') rfl (λs8 I8 hch=>?_) (.inr hl));obtain ⟨a,sb,ha⟩:=hch;have hne:s3.heap.objs.size≠a:=by
  rcases ha with rfl|ha
  ·exact f1
  ·exact Ne.symm (f4 _ _ ha)
 refine ⟨mm,hn6.sameBut sb hne,λh' sb'=>⟨_,_,I8.turned (t':=s8.toks) (λb o hb e=>(sb'.2 b hb).trans e) f0 f1 f3' f4 f5,q⟩⟩
end
def qmh {K:Frg} {m:List (Option Nat)} {wi:TI3} {g:TG3} {tif:TT3} {te:TE3} {σ:L2.St} {H:Hp} {Q:VK} (hh:lE K (lc3 wi g tif te m) σ H Q):tLC (lI K wi) (lG K g) (lT K tif) (lE K te) m σ H Q:=by
  obtain ⟨τ,G,q,rl,h,af⟩:=hh;refine ⟨τ,G,_,rl,h,λitems stay G1 h1 J H1 hr1 k1 ok D hD=>?_⟩;have gD:G1 D=none:=hr1.free hD;refine ⟨λi n σ' H'=>n=items.length-i/\i<=items.length/\∃ τ' G' ys vs,Rel K τ' G' σ' H'/\Kp G1 H1 G' H'/\H' D=some (.lst vs)/\Rps K H' ys vs/\G' D=none/\TF stay g tif te q (items.drop i) ys τ' G',
   ⟨_,rfl,Nat.zero_le _,cap m τ,G1,[],[],((rl.next hr1 k1).cap m).next (hr1.laid hD) (Kp.laid hD),Kp.laid hD,qJ,.nil,gD,by simpa using h1⟩,?_⟩
  rintro i n σ' H' ⟨rfl,hi,τ',G',ys,vs,rl',k',hDl,rys,gD',h'⟩;by_cases hlt:i<items.length
  ·rw [List.drop_eq_getElem_cons hlt] at h';obtain ⟨hst,h'⟩:=h';obtain ⟨go,yld,_⟩:=ok G' H' rl'.hp k' hst;have hx:items[i]?=some items[i]:=getElem?_eq_getElem hlt;refine .inr ⟨go i _ hx,λv H2 y=>?_⟩;obtain ⟨rv,hr2,k2⟩:=yld i _ v H2 hx y;have nxt:∀ {τ4:St3} {G4:Gp} {σ4:L2.St} {H4:Hp} {ys4:List T} {vs4:List V},Rel K τ4 G4 σ4 H4->Kp G1 H1 G4 H4->H4 D=some (.lst vs4)->Rps K H4 ys4 vs4->G4 D=none->TF stay g tif te q (items.drop (i+1)) ys4 τ4 G4 ->
     ∃ n',n'<items.length-i/\(n'=items.length-(i+1)/\i+1<=items.length/\∃ τ' G' ys vs,Rel K τ' G' σ4 H4/\Kp G1 H1 G' H4/\H4 D=some (.lst vs)/\Rps K H4 ys vs/\G' D=none/\TF stay g tif te q (items.drop (i+1)) ys τ' G'):=
    λ{τ4 G4 σ4 H4 ys4 vs4} a b c d e f=>⟨_,by omega,rfl,hlt,τ4,G4,ys4,vs4,a,b,c,d,e,f⟩
   refine ⟨_,τ',G',_,rv,rl'.next hr2 k2,h',λτ3 G3 h3 σ3 H3 rl3 k3=>⟨τ3,G3,_,rl3,h3,λk G4 h4 H4 hr4 k4=>?_⟩⟩;have kk:=(k2.trans k3).trans k4;obtain ⟨hD4,gD4⟩:=kk D _ hDl gD';have rys4:=rys.keep rl'.hp kk;cases k with
   |false=>
    rw [if_neg Bool.false_ne_true] at h4;refine qle ?_;exact nxt (rl3.next hr4 k4) (k'.trans kk) hD4 rys4 gD4 h4
   |true=>
    rw [if_pos rfl] at h4;refine qk7 ?_;refine ⟨τ3,G4,_,rl3.next hr4 k4,h4,λz G5 h5 w H5 rw5 hr5 k5=>?_⟩;obtain ⟨hD5,gD5⟩:=k5 D _ hD4 gD4;have rys5:=rys4.keep hr4 k5;exact ⟨vs,hD5,by rw [← rys.length];exact h5.1,nxt (((rl3.next hr4 k4).next hr5 k5).wrD hD5 gD5) (((k'.trans kk).trans k5).wrD hD) qJ ((rys5.append (.cons rw5 .nil)).wrD hD5) gD5 h5.2⟩
  ·have e:i=items.length:=by omega
   subst e;rw [List.drop_length] at h';obtain ⟨_,_,stop⟩:=ok G' H' rl'.hp k' h'.1;refine .inl ⟨stop,af _ _ (h'.2 D gD') _ H' (.ref D) (λa o e=>?_) λa o e ga=>?_⟩
   ·by_cases ha:a=D
    ·subst ha;rw [qL] at e;cases e;exact ⟨vs,hDl,rys⟩
    ·rw [jF ha] at e;exact rl'.hp a o e
   ·obtain ⟨e1,g1⟩:=k1 a o e ga;obtain ⟨e2,g2⟩:=k' a o e1 g1;exact ⟨e2,by rw [jF (qo e1 hD)];exact g2⟩
def qe1 {X:Cx} {py spos:Pos} {elt tg iter:Expr} {ifs:List Expr} {scope:Scope} {pos:Pos} {y:Str} (i:Nat) (N':List Str) (m:List (Option Nat)) {wi:TI3} {g:TG3} {tif:TT3} {te:TE3} (hc:X.calm=true) (hN:X.N.Nodup) (hi:I3 X tg iter wi)
  (hg:∀ s H fp,G3 (qj X N' scope s H fp) tg g) (hf:∀ s H fp,F3 (qj X N' scope s H fp) ifs tif) (he:∀ s H fp,E3 (qj X N' scope s H fp) elt te)
  (hsc:LX X.env.scope scope=true) (hcap:YK X.N N' scope m=true) (hl:X.env.scope.names.lookup y=some .local) (hsw:swapsWith (.ListComp elt [⟨tg,iter,ifs,0⟩] scope pos) (some (.Name y py)) spos.line X.env=pure true) (hiy:X.N[i]?=some y:=by rfl) (hs:∀ x,foldedSetIterable iter X.env x=pure x:=by intro _;rfl) :
  S3 X (.Assign [.Name y py] (.ListComp elt [⟨tg,iter,ifs,0⟩] scope pos) spos) (zQ (lc3 wi g tif te m) (gn3 i)):=
 qa6 (qbo (g:=lG X.K g) (tif:=lT X.K tif) (te:=lE X.K te) hc hN hi hg hf he hsc hcap hs hiy hl hsw) λ_ σ H ⟨τ,G,d,rl,h,af⟩=>
  qmh ⟨τ,G,_,rl,h,λx G1 h1 v H1 rx hr1 k1=>af.nx _ G1 h1 _ H1 ((rl.next hr1 k1).set i rx) k1⟩
end L3
set_option autoImplicit true
namespace L3
open PySem PySem.Spec PyProof.Rows L2
structure jE3 (X:Cx) (e:Expr) (t:TE3):Prop where h:E3 X e t
structure jC3 (X:Cx) (e:Expr) (t:TT3):Prop where h:C3 X e t
structure jW3 (X:Cx) (e:Expr) (t:TT3):Prop where h:W3 X e t
structure jA3 (X:Cx) (e:List Expr) (t:TA3):Prop where h:A3 X e t
structure jP3 (X:Cx) (e:Option Expr) (t:TO3):Prop where h:P3 X e t
structure jS3 (X:Cx) (e:Stmt) (t:TS3):Prop where h:S3 X e t
structure jB3 (X:Cx) (e:List Stmt) (t:TS3):Prop where h:B3 X e t
structure jG3 (X:Cx) (e:Expr) (t:TG3):Prop where h:G3 X e t
structure jGs3 (X:Cx) (e:List Expr) (t:RV):Prop where h:Gs3 X e t
structure jI3 (X:Cx) (tg e:Expr) (t:TI3):Prop where h:I3 X tg e t
structure jF3 (X:Cx) (e:List Expr) (t:TT3):Prop where h:F3 X e t
def qb {X:Cx} (i:Nat) {x:Str} {pos:Pos} (hN:X.N[i]?=some x:=by rfl) (hv:Vis X.env.scope x:=by first|exact Or.inl rfl|exact Or.inr (Or.inl rfl)|exact Or.inr (Or.inr rfl)) (hd:(x==("__debug__" : Str))=false:=by decide)
  (hcd:(x==("__classdict__" : Str))=false:=by decide):jE3 X (.Name x pos) (v3 i):=
 ⟨qnw (i:=i) (hN:=hN) (hv:=hv) (hd:=hd) (hcd:=hcd)⟩
def qe {X:Cx} {i:Int} {j pos}:jE3 X (.Constant (.int i) j pos) (c3 (.int i)):=
 ⟨qni ⟩
def YL {X:Cx} {b:Bool} {j pos}:jE3 X (.Constant (.bool b) j pos) (c3 (.bl b)):=
 ⟨qoR ⟩
def DM {X:Cx} {j pos}:jE3 X (.Constant .none j pos) (c3 .non):=
 ⟨qmR ⟩
def qdY {X:Cx} {x:Str} {j pos}:jE3 X (.Constant (.str x) j pos) (c3 (.str x)):=
 ⟨qlx ⟩
def YB {ta:TE3} {tb:TE3} {pos:Pos} {a:Expr} {b:Expr} {X:Cx} {op:CmpOp} {r3:R3} {r:R2} (ho:OpR X (compareOp op) r) (hr:DI X.K r3 r) (ha:jE3 X a ta) (hb:jE3 X b tb) (hm:behindInMarks op b=false):jE3 X (.Compare a [op] [b] pos) (o3 r3 ta tb):=
 ⟨qlY (ho:=ho) (hr:=hr) (ha:=ha.h) (hb:=hb.h) (hm:=hm)⟩
def qX {ta:TE3} {tb:TE3} {pos:Pos} {a:Expr} {b:Expr} {X:Cx} {op:CmpOp} {r3:R3} {r:R2} (ho:OpR X (compareOp op) r) (hr:DI X.K r3 r) (ha:jE3 X a ta) (hb:jE3 X b tb) (hm:behindInMarks op b=false):jC3 X (.Compare a [op] [b] pos) (tb3 (o3 r3 ta tb)):=
 ⟨qmK (ho:=ho) (hr:=hr) (ha:=ha.h) (hb:=hb.h) (hm:=hm)⟩
def qbW {ta:TE3} {tb:TE3} {tc:TE3} {pos:Pos} {a:Expr} {b:Expr} {c:Expr} {X:Cx} {op op':CmpOp} {r3 r3':R3} {r r':R2} (ho:OpR X (compareOp op) r) (hr:DI X.K r3 r) (ho':OpR X (compareOp op') r') (hr':DI X.K r3' r') (ha:jE3 X a ta) (hb:jE3 X b tb) (hc:jE3 X c tc)
  (hm:lastMarks [op,op'] [b,c]=false:=by with_unfolding_all rfl):jE3 X (.Compare a [op,op'] [b,c] pos) (ch3 r3 r3' ta tb tc):=
 ⟨qfz (ho:=ho) (hr:=hr) (ho':=ho') (hr':=hr') (ha:=ha.h) (hb:=hb.h) (hc:=hc.h) (hm:=hm)⟩
def qcL {ta:TE3} {tb:TE3} {pos:Pos} {a:Expr} {b:Expr} {X:Cx} (ha:jE3 X a ta) (hb:jE3 X b tb):jE3 X (.BinOp a .Sub b pos) (o3 (iI (·-·)) ta tb):=
 ⟨qmo (ha:=ha.h) (hb:=hb.h)⟩
def VR {ta:TE3} {tb:TE3} {pos:Pos} {a:Expr} {b:Expr} {X:Cx} (ha:jE3 X a ta) (hb:jE3 X b tb):jE3 X (.BinOp a .Mult b pos) (o3 (iC EC (·*·)) ta tb):=
 ⟨qmk (ha:=ha.h) (hb:=hb.h)⟩
def VS {ta:TE3} {tb:TE3} {pos:Pos} {a:Expr} {b:Expr} {X:Cx} (ha:jE3 X a ta) (hb:jE3 X b tb):jE3 X (.BinOp a .Mod b pos) (o3 (iC (λ_ j=>0<j) (·%·)) ta tb):=
 ⟨ql5 (ha:=ha.h) (hb:=hb.h)⟩
def jO {ta:TE3} {tb:TE3} {pos:Pos} {a:Expr} {b:Expr} {X:Cx} (ha:jE3 X a ta) (hb:jE3 X b tb):jE3 X (.BinOp a .FloorDiv b pos) (o3 (iC Q7 (·/·)) ta tb):=
 ⟨qmp (ha:=ha.h) (hb:=hb.h)⟩
def qjn {ta:TE3} {tb:TE3} {pos:Pos} {a:Expr} {b:Expr} {X:Cx} (ha:jE3 X a ta) (hb:jE3 X b tb):jE3 X (.BinOp a .Pow b pos) (o3 (iC qhO (λi j=>i ^ j.toNat)) ta tb):=
 ⟨qlX (ha:=ha.h) (hb:=hb.h)⟩
def MS {ta:TE3} {tb:TE3} {pos:Pos} {a:Expr} {b:Expr} {X:Cx} (ha:jE3 X a ta) (hb:jE3 X b tb):jE3 X (.BinOp a .BitXor b pos) (o3 (iI Builtin.bitXor) ta tb):=
 ⟨ql7 (ha:=ha.h) (hb:=hb.h)⟩
def qc2 {ta:TE3} {pos:Pos} {a:Expr} {X:Cx} (ha:jE3 X a ta):jE3 X (.UnaryOp .USub a pos) (u3 qcj ta):=
 ⟨qmI (ha:=ha.h)⟩
def qe4 {tA:TT3} {pos:Pos} {a:Expr} {X:Cx} (ha:jC3 X a tA):jW3 X (.BoolOp .And [a] pos) tA:=
 ⟨qgA (ha:=ha.h)⟩
def YE {tA:TT3} {pos:Pos} {a:Expr} {X:Cx} (ha:jC3 X a tA):jW3 X (.BoolOp .Or [a] pos) tA:=
 ⟨ql8 (ha:=ha.h)⟩
def qix {j8:List Expr} {tA:TT3} {tB:TT3} {pos:Pos} {a:Expr} {X:Cx} (ha:jC3 X a tA) (hb:jW3 X (.BoolOp .And (b::j8) pos) tB):jW3 X (.BoolOp .And (a::b::j8) pos) (qk6 tA tB):=
 ⟨qnr (ha:=ha.h) (hb:=hb.h)⟩
def U6 {j8:List Expr} {tA:TT3} {tB:TT3} {pos:Pos} {a:Expr} {X:Cx} (ha:jC3 X a tA) (hb:jW3 X (.BoolOp .Or (b::j8) pos) tB):jW3 X (.BoolOp .Or (a::b::j8) pos) (or3 tA tB):=
 ⟨qoX (ha:=ha.h) (hb:=hb.h)⟩
def QE {tA:TT3} {pos:Pos} {a:Expr} {X:Cx} (ha:jC3 X a tA):jC3 X (.UnaryOp .Not a pos) (D7 tA):=
 ⟨qly (ha:=ha.h)⟩
def zY {X:Cx} {e:Expr} {t:TE3} (h:jE3 X e t) (he:∀ whole,isTrue e X.env whole=(do let v←whole;standAt e.pos;holding [v] (truthy v)):=by intro _;rfl):jC3 X e (tb3 t):=
 ⟨qnC (h:=h.h) (he:=he)⟩
def YF {ta:TE3} {pos:Pos} {a:Expr} {X:Cx} {op} (h:jE3 X a ta):jE3 X (.BoolOp op [a] pos) ta:=
 ⟨qms (h:=h.h)⟩
def QI {j8:List Expr} {ta:TE3} {tb:TE3} {pos:Pos} {a:Expr} {X:Cx} (ha:jE3 X a ta) (hb:jE3 X (.BoolOp .And (b::j8) pos) tb):jE3 X (.BoolOp .And (a::b::j8) pos) (ZM ta tb):=
 ⟨qna (ha:=ha.h) (hb:=hb.h)⟩
def NJ {ta:TE3} {pos:Pos} {a:Expr} {X:Cx} (ha:jE3 X a ta):jE3 X (.UnaryOp .Not a pos) (LO ta):=
 ⟨qlP (ha:=ha.h)⟩
def qjV {tA:TT3} {ta:TE3} {tb:TE3} {pos:Pos} {a:Expr} {b:Expr} {X:Cx} {c:Expr} (hc:jC3 X c tA) (ha:jE3 X a ta) (hb:jE3 X b tb):jE3 X (.IfExp c a b pos) (if3 tA ta tb):=
 ⟨qo0 (hc:=hc.h) (ha:=ha.h) (hb:=hb.h)⟩
def qd {X:Cx} :jA3 X [] ql:=
 ⟨ql9 ⟩
def qa {te:TE3} {t:TA3} {es:List Expr} {X:Cx} (ha:jE3 X e te) (hr:jA3 X es t) (hs:starEach (e::es) X.env=(false,eval e X.env)::starEach es X.env:=by rfl):jA3 X (e::es) (qc te t):=
 ⟨qkG (ha:=ha.h) (hr:=hr.h) (hs:=hs)⟩
def jx {t:TA3} {pos:Pos} {es:List Expr} {X:Cx} {x1} (h:jA3 X es t):jE3 X (.Tuple es x1 pos) (WC t):=
 ⟨qnx (h:=h.h)⟩
def JC {t:TA3} {pos:Pos} {es:List Expr} {X:Cx} (h:jA3 X es t):jE3 X (.List es pos) (RN t):=
 ⟨qm0 (h:=h.h)⟩
def qt {t:TA3} {pos:Pos} {es:List Expr} {X:Cx} {x:Str} {p:Pos} {id:String} {r3:List T->Gp->Q3->Prop} {r:List V->Hp->VK->Prop} (hc:JM X (.builtin id) r) (hr:LB X.K r3 r) (hg:Gl X x) (hm:X.mg x=none) (hv:bootBuiltins x=some (.builtin id)) (ha:jA3 X (e::es) t) (hn:x≠"__name__" := by decide) (hdb:(x==("__debug__" : Str))=false:=by decide)
  (he:starEach (e::es) X.env=(false,eval e X.env)::starEach es X.env:=by rfl) (hpl:(backTo pos (starEach es X.env)).any (·.1)=false:=by rfl):jE3 X (.Call (.Name x p) (e::es) [] pos) (cb3 r3 t):=
 ⟨qfv (hc:=hc) (hr:=hr) (hg:=hg) (hm:=hm) (hv:=hv) (ha:=ha.h) (hn:=hn) (hdb:=hdb) (he:=he) (hpl:=hpl)⟩
def zL {t:TA3} {pos:Pos} {es:List Expr} {X:Cx} {x:Str} {p:Pos} {ty:String} {r3:List T->Gp->Q3->Prop} {r:List V->Hp->VK->Prop} (hc:JM X (.type ty) r) (hr:LB X.K r3 r) (hg:Gl X x) (hm:X.mg x=none) (hv:bootBuiltins x=some (.type ty)) (ha:jA3 X (e::es) t) (hn:x≠"__name__" := by decide) (hdb:(x==("__debug__" : Str))=false:=by decide)
  (he:starEach (e::es) X.env=(false,eval e X.env)::starEach es X.env:=by rfl) (hpl:(backTo pos (starEach es X.env)).any (·.1)=false:=by rfl):jE3 X (.Call (.Name x p) (e::es) [] pos) (cb3 r3 t):=
 ⟨qcb (hc:=hc) (hr:=hr) (hg:=hg) (hm:=hm) (hv:=hv) (ha:=ha.h) (hn:=hn) (hdb:=hdb) (he:=he) (hpl:=hpl)⟩
def zW {ta:TE3} {tb:TE3} {pos:Pos} {a:Expr} {b:Expr} {X:Cx} (ha:jE3 X a ta) (hb:jE3 X b tb) (hs:R0 b:=by intro _ _;rfl):jE3 X (.Subscript a b pos) (o3 ix3 ta tb):=
 ⟨qoy (ha:=ha.h) (hb:=hb.h) (hs:=hs)⟩
def QJ {X:Cx} :jP3 X none np3:=
 ⟨qkf ⟩
def zc {te:TE3} {e:Expr} {X:Cx} (h:jE3 X e te):jP3 X (some e) (sp3 te):=
 ⟨qjT (h:=h.h)⟩
def jr {ta:TE3} {tb:TE3} {pos:Pos} {a:Expr} {b:Expr} {X:Cx} (ha:jE3 X a ta) (hb:jE3 X b tb):jE3 X (.BinOp a .Add b pos) (o3 V1 ta tb):=
 ⟨qgD (ha:=ha.h) (hb:=hb.h)⟩
def MM {t:TA3} {e:Expr} {X:Cx} {o:Expr} {to:TE3} {apos cpos:Pos} (ho:jE3 X o to) (ha:jA3 X [e] t)
  (hbase:attributeBase o "append" X.env (eval o X.env)=eval o X.env:=by rfl)
  (hfew:((backTo cpos (starEach [e] X.env)).all (λx=>!x.1)&&(backToKw cpos (keywordEach [] X.env)).all (λx=>x.1.isSome)
   && decide (([e]:List Expr).length+([]:List Keyword).length+(if ([]:List Keyword).isEmpty then 0 else 1)<30))=true:=by rfl)
  (hline:(apos.endLine==cpos.line)=true:=by rfl) (hs:starEach [e] X.env=(false,eval e X.env)::starEach [] X.env:=by rfl) (hplain:(backTo cpos (starEach [] X.env)).any (·.1)=false:=by rfl):jE3 X (.Call (.Attribute o "append" apos) [e] [] cpos) (bm3 qfx to t):=
 ⟨qbx (ho:=ho.h) (ha:=ha.h) (hbase:=hbase) (hfew:=hfew) (hline:=hline) (hs:=hs) (hplain:=hplain)⟩
def zM {te:TE3} {pos:Pos} {e:Expr} {X:Cx} {tn:Str} {ty:String} {p p2:Pos} (he:jE3 X e te) (hg:Gl X "isinstance") (hm:X.mg "isinstance" = none) (hg2:Gl X tn) (hm2:X.mg tn=none) (hv:bootBuiltins tn=some (.type ty)) (hmem:ty∈jY:=by decide) (hn:tn≠"__name__" := by decide) (hdb:(tn==("__debug__" : Str))=false:=by decide)
  (hs:starEach [e,.Name tn p2] X.env=(false,eval e X.env)::starEach [.Name tn p2] X.env:=by rfl) (hs2:starEach [.Name tn p2] X.env=(false,eval (.Name tn p2) X.env)::starEach [] X.env:=by rfl) (hpl:(backTo pos (starEach [.Name tn p2] X.env)).any (·.1)=false:=by rfl):jE3 X (.Call (.Name "isinstance" p) [e,.Name tn p2] [] pos) (YW (λt=>qZ t ty) te):=
 ⟨qmP (he:=he.h) (hg:=hg) (hm:=hm) (hg2:=hg2) (hm2:=hm2) (hv:=hv) (hmem:=hmem) (hn:=hn) (hdb:=hdb) (hs:=hs) (hs2:=hs2) (hpl:=hpl)⟩
def NS {te:TE3} {pos:Pos} {e:Expr} {X:Cx} {tn tn':Str} {ty ty':String} {p p2 p3 p4:Pos} {x1} (he:jE3 X e te) (hg:Gl X "isinstance") (hm:X.mg "isinstance" = none) (hg2:Gl X tn) (hm2:X.mg tn=none) (hv:bootBuiltins tn=some (.type ty)) (hg3:Gl X tn') (hm3:X.mg tn'=none) (hv3:bootBuiltins tn'=some (.type ty'))
  (hmem:ty∈jY:=by decide) (hn:tn≠"__name__" := by decide) (hdb:(tn==("__debug__" : Str))=false:=by decide) (hmem3:ty'∈jY:=by decide) (hn3:tn'≠"__name__" := by decide) (hdb3:(tn'==("__debug__" : Str))=false:=by decide)
  (hs:starEach [e,.Tuple [.Name tn p2,.Name tn' p3] x1 p4] X.env=(false,eval e X.env)::starEach [.Tuple [.Name tn p2,.Name tn' p3] x1 p4] X.env:=by rfl) (hs2:starEach [.Tuple [.Name tn p2,.Name tn' p3] x1 p4] X.env=(false,eval (.Tuple [.Name tn p2,.Name tn' p3] x1 p4) X.env)::starEach [] X.env:=by rfl)
  (hs3:starEach [.Name tn p2,.Name tn' p3] X.env=(false,eval (.Name tn p2) X.env)::starEach [.Name tn' p3] X.env:=by rfl) (hs4:starEach [.Name tn' p3] X.env=(false,eval (.Name tn' p3) X.env)::starEach [] X.env:=by rfl)
  (hpl:(backTo pos (starEach [.Tuple [.Name tn p2,.Name tn' p3] x1 p4] X.env)).any (·.1)=false:=by rfl):jE3 X (.Call (.Name "isinstance" p) [e,.Tuple [.Name tn p2,.Name tn' p3] x1 p4] [] pos) (YW (λt=>qZ t ty||qZ t ty') te):=
 ⟨qgS (he:=he.h) (hg:=hg) (hm:=hm) (hg2:=hg2) (hm2:=hm2) (hv:=hv) (hg3:=hg3) (hm3:=hm3) (hv3:=hv3) (hmem:=hmem) (hn:=hn) (hdb:=hdb) (hmem3:=hmem3) (hn3:=hn3) (hdb3:=hdb3) (hs:=hs) (hs2:=hs2) (hs3:=hs3) (hs4:=hs4) (hpl:=hpl)⟩
def qW {X:Cx} :jB3 X [] za:=
 ⟨qmG ⟩
def qg {j8:List Stmt} {st:Stmt} {t1:TS3} {t2:TS3} {X:Cx} (h1:jS3 X st t1) (h2:jB3 X j8 t2):jB3 X (st::j8) (qY t1 t2):=
 ⟨qkz (h1:=h1.h) (h2:=h2.h)⟩
def qm {st:Stmt} {t1:TS3} {X:Cx} (h1:jS3 X st t1):jB3 X [st] t1:=
 ⟨qnD (h1:=h1.h)⟩
def qe3 {te:TE3} {pos:Pos} {e:Expr} {X:Cx} (he:jE3 X e te) (hs:swapsWith e none pos.line X.env=pure false:=by rfl):jS3 X (.Expr e pos) (NC te):=
 ⟨qg3 (he:=he.h) (hs:=hs)⟩
def qr {te:TE3} {pos:Pos} {e:Expr} {X:Cx} (he:jE3 X e te):jS3 X (.Return (some e) pos) (zz te):=
 ⟨qmS (he:=he.h)⟩
def zN {tA:TT3} {t1:TS3} {t2:TS3} {pos:Pos} {X:Cx} {c:Expr} {ba bb:List Stmt} (hc:jC3 X c tA) (ha:jB3 X ba t1) (hb:jB3 X bb t2):jS3 X (.If c ba bb pos) (QB tA t1 t2):=
 ⟨qo5 (hc:=hc.h) (ha:=ha.h) (hb:=hb.h)⟩
def qb8 {X:Cx} {sts:List Stmt}:jB3 X sts qlk:=
 ⟨qfJ ⟩
def zd {pos:Pos} {X:Cx} {i:Nat} {x:Str} (hN:X.N.Nodup) (hi:X.N[i]?=some x:=by rfl) (hx:Loc X.env.scope x:=by first|exact Or.inl rfl|exact Or.inr rfl) (hf:X.fn x=true\/X.env.scope.names.lookup x=some .local:=by first|exact .inl rfl|exact .inr rfl):jG3 X (.Name x pos) (gn3 i):=
 ⟨qiE (hN:=hN) (hi:=hi) (hx:=hx) (hf:=hf)⟩
def E6 {X:Cx} :jGs3 X [] U9:=
 ⟨ql6 ⟩
def zi {es:List Expr} {X:Cx} {tg:TG3} {tgs:RV} (h1:jG3 X e tg) (h2:jGs3 X es tgs) (hs:(assignEach (e::es) X.env).map (·.2)=assign e X.env::(assignEach es X.env).map (·.2):=by rfl):jGs3 X (e::es) (zk tg tgs):=
 ⟨qkH (h1:=h1.h) (h2:=h2.h) (hs:=hs)⟩
def EW {pos:Pos} {es:List Expr} {X:Cx} {k:Nat} {tgs:RV} {n:Nat} (hc:X.calm=true) (h:jGs3 X es tgs) (hn:(assignEach es X.env).length=n:=by rfl) (hst:(assignEach es X.env).findIdx? (·.1)=none:=by rfl):jG3 X (.Tuple es k pos) (EA n tgs):=
 ⟨qlN (hc:=hc) (h:=h.h) (hn:=hn) (hst:=hst)⟩
def TC {pos : Pos} {X : Cx} {o i : Expr} {to ti : TE3} (ho : jE3 X o to) (hi : jE3 X i ti) (ha : ∀ v,assign (.Subscript o i pos) X.env v = (do
      let ov←holding [v] (eval o X.env)
      let iv←holding [v,ov] (eval i X.env)
      standAt pos
      holding [v,ov,iv] (setItem ov iv v)
      release [v,ov,iv] []):=by intro _;rfl):jG3 X (.Subscript o i pos) (UF to ti):=
  ⟨qlI (ho:=ho.h) (hi:=hi.h) (ha:=ha)⟩
def DO {te:TE3} {pos:Pos} {X:Cx} {tg e:Expr} {g:TG3} (he:jE3 X e te) (hg:jG3 X tg g) (hs:swapsWithSole [tg] e pos.line X.env=pure false:=by rfl) (hw:swappedStores [tg] e X.env=pure none:=by rfl)
  (h1:(assignEach [tg] X.env).map (·.2)=[assign tg X.env]:=by rfl):jS3 X (.Assign [tg] e pos) (zQ te g):=
 ⟨qlS (he:=he.h) (hg:=hg.h) (hs:=hs) (hw:=hw) (h1:=h1)⟩
def qU {te:TE3} {pos:Pos} {X:Cx} (i:Nat) {x:Str} {e:Expr} {pos':Pos} (hN:X.N.Nodup) (he:jE3 X e te) (hi:X.N[i]?=some x:=by rfl) (hx:Loc X.env.scope x:=by first|exact Or.inl rfl|exact Or.inr rfl) (hs:swapsWith e (some (.Name x pos')) pos.line X.env=pure false:=by rfl) (hf:X.fn x=true\/X.env.scope.names.lookup x=some .local:=by first|exact .inl rfl|exact .inr rfl):jS3 X (.Assign [.Name x pos'] e pos) (zQ te (gn3 i)):=
 ⟨qnO (i:=i) (hN:=hN) (he:=he.h) (hi:=hi) (hx:=hx) (hs:=hs) (hf:=hf)⟩
def RB {pos:Pos} {X:Cx} {i j:Nat} {x y:Str} {a b:Expr} {tt:TA3} {px py pt:Pos} {kt k2 pt2} (hc:X.calm=true) (hN:X.N.Nodup) (hi:X.N[i]?=some x) (hj:X.N[j]?=some y) (hij:i≠j)
  (hx:X.env.scope.names.lookup x=some .local) (hy:X.env.scope.names.lookup y=some .local) (ha:jA3 X [a,b] tt)
  (hw:swappedStores [.Tuple [.Name x px,.Name y py] kt pt] (.Tuple [a,b] k2 pt2) X.env=pure (some [x,y]):=by rfl)
  (hs:swapsWithSole [.Tuple [.Name x px,.Name y py] kt pt] (.Tuple [a,b] k2 pt2) pos.line X.env=pure false:=by rfl):jS3 X (.Assign [.Tuple [.Name x px,.Name y py] kt pt] (.Tuple [a,b] k2 pt2) pos) (MO i j tt):=
 ⟨qm4 (hc:=hc) (hN:=hN) (hi:=hi) (hj:=hj) (hij:=hij) (hx:=hx) (hy:=hy) (ha:=ha.h) (hw:=hw) (hs:=hs)⟩
def WK {te:TE3} {X:Cx} {tg:Expr} {l:Expr} (hl:jE3 X l te):jI3 X tg l (XD te):=
 ⟨qnL (hl:=hl.h)⟩
def zF {t:TA3} {pos:Pos} {a:Expr} {X:Cx} {tg:Expr} {p:Pos} (hg:Gl X "range") (hm:X.mg "range" = none) (ha:jA3 X [a] t) (hs:starEach [a] X.env=[(false,eval a X.env)]:=by rfl) (h1:∀ τ G q,t τ G q->t τ G λxs G=>q xs G/\xs.length=1):jI3 X tg (.Call (.Name "range" p) [a] [] pos) (ZO t):=
 ⟨qbv (hg:=hg) (hm:=hm) (ha:=ha.h) (hs:=hs) (h1:=h1)⟩
def DA {pos:Pos} {X:Cx} {tg:Expr} {iter:Expr} {body:List Stmt} {wi:TI3} {g:TG3} {tb:TS3} (hp:PassesOwn (model X.prog X.w) X.A X.env X.xe) (hc:X.calm=true) (hi:jI3 X tg iter wi) (hg:jG3 X tg g) (hb:jB3 X body tb)
  (hs:∀ x,foldedSetIterable iter X.env x=pure x:=by intro _;rfl):jS3 X (.For tg iter body [] pos) (S6 wi g tb):=
 ⟨qlu (hp:=hp) (hc:=hc) (hi:=hi.h) (hg:=hg.h) (hb:=hb.h) (hs:=hs)⟩
def qbk {pos:Pos} {X:Cx} {c:Expr} {body:List Stmt} {tc:TT3} {tb:TS3} (hp:PassesOwn (model X.prog X.w) X.A X.env X.xe) (hc:jC3 X c tc) (hb:jB3 X body tb):jS3 X (.While c body [] pos) (KS tc tb):=
 ⟨qeZ (hp:=hp) (hc:=hc.h) (hb:=hb.h)⟩
def qh {t:TA3} {pos:Pos} {es:List Expr} {X:Cx} {k:Nat} {x:Str} {p:Pos} {sp:Sp3} (F:Fn3 X.prog X.w X.K X.mg X.base k x sp) (hr:Room k X.A) (hg:Gl X x) (ha:jA3 X (e::es) t) (hdb:(x==("__debug__" : Str))=false:=by decide)
  (he:starEach (e::es) X.env=(false,eval e X.env)::starEach es X.env:=by rfl) (hpl:(backTo pos (starEach es X.env)).any (·.1)=false:=by rfl):jE3 X (.Call (.Name x p) (e::es) [] pos) (cb3 sp t):=
 ⟨qjk (F:=F) (hr:=hr) (hg:=hg) (ha:=ha.h) (hdb:=hdb) (he:=he) (hpl:=hpl)⟩
def ED {X:Cx} {elt tg iter:Expr} {ifs:List Expr} {scope:Scope} {pos:Pos} (N':List Str) (m:List (Option Nat)) {wi:TI3} {g:TG3} {tif:TT3} {te:TE3} (hc:X.calm=true) (hi:jI3 X tg iter wi)
  (hg:∀ s H fp,jG3 (qj X N' scope s H fp) tg g) (hf:∀ s H fp,jF3 (qj X N' scope s H fp) ifs tif) (he:∀ s H fp,jE3 (qj X N' scope s H fp) elt te)
  (hsc:LX X.env.scope scope=true) (hcap:YK X.N N' scope m=true) (hs:∀ x,foldedSetIterable iter X.env x=pure x:=by intro _;rfl):jE3 X (.ListComp elt [⟨tg,iter,ifs,0⟩] scope pos) (lc3 wi g tif te m):=
 ⟨qoB (N':=N') (m:=m) (hc:=hc) (hi:=hi.h) (hg:=(λs H fp=>(hg s H fp).h)) (hf:=(λs H fp=>(hf s H fp).h)) (he:=(λs H fp=>(he s H fp).h)) (hsc:=hsc) (hcap:=hcap) (hs:=hs)⟩
def j7 {X:Cx}:jF3 X [] tt3:=
 ⟨qnH ⟩
def qcP {X:Cx} {c:Expr} {t:TT3} (h:jC3 X c t):jF3 X [c] t:=
 ⟨qno (h:=h.h)⟩
def M6 {t:TA3} {pos:Pos} {es:List Expr} {a:Expr} {b:Expr} {X:Cx} {p pt:Pos} {k1:Nat} (hg:Gl X "zip") (hm:X.mg "zip" = none) (ha:jA3 X [a,b] t) (hs:starEach [a,b] X.env=[(false,eval a X.env),(false,eval b X.env)]:=by rfl) (hs2:starEach [b] X.env=[(false,eval b X.env)]:=by rfl):jI3 X (.Tuple es k1 pt) (.Call (.Name "zip" p) [a,b] [] pos) (X6 t):=
 ⟨qmy (hg:=hg) (hm:=hm) (ha:=ha.h) (hs:=hs) (hs2:=hs2)⟩
def qff {t:TA3} {pos:Pos} {es:List Expr} {a:Expr} {X:Cx} {p pt:Pos} {k1:Nat} (hg:Gl X "enumerate") (hm:X.mg "enumerate" = none) (ha:jA3 X [a] t) (hs:starEach [a] X.env=[(false,eval a X.env)]:=by rfl):jI3 X (.Tuple es k1 pt) (.Call (.Name "enumerate" p) [a] [] pos) (TX t):=
 ⟨qhv (hg:=hg) (hm:=hm) (ha:=ha.h) (hs:=hs)⟩
def KH {X:Cx} {py spos:Pos} {elt tg iter:Expr} {ifs:List Expr} {scope:Scope} {pos:Pos} {y:Str} (i:Nat) (N':List Str) (m:List (Option Nat)) {wi:TI3} {g:TG3} {tif:TT3} {te:TE3} (hc:X.calm=true) (hN:X.N.Nodup) (hi:jI3 X tg iter wi)
  (hg:∀ s H fp,jG3 (qj X N' scope s H fp) tg g) (hf:∀ s H fp,jF3 (qj X N' scope s H fp) ifs tif) (he:∀ s H fp,jE3 (qj X N' scope s H fp) elt te)
  (hsc:LX X.env.scope scope=true) (hcap:YK X.N N' scope m=true) (hl:X.env.scope.names.lookup y=some .local) (hsw:swapsWith (.ListComp elt [⟨tg,iter,ifs,0⟩] scope pos) (some (.Name y py)) spos.line X.env=pure true) (hiy:X.N[i]?=some y:=by rfl) (hs:∀ x,foldedSetIterable iter X.env x=pure x:=by intro _;rfl):jS3 X (.Assign [.Name y py] (.ListComp elt [⟨tg,iter,ifs,0⟩] scope pos) spos) (zQ (lc3 wi g tif te m) (gn3 i)):=
 ⟨qe1 (i:=i) (N':=N') (m:=m) (hc:=hc) (hN:=hN) (hi:=hi.h) (hg:=(λs H fp=>(hg s H fp).h)) (hf:=(λs H fp=>(hf s H fp).h)) (he:=(λs H fp=>(he s H fp).h)) (hsc:=hsc) (hcap:=hcap) (hl:=hl) (hsw:=hsw) (hiy:=hiy) (hs:=hs)⟩
def jpt {X:Cx} {e:Expr} {t:TT3} (h:jW3 X e t):jC3 X e t:=⟨PW.pt h.h⟩
def qM {P:Program} {w:World} {K:Frg} {mg:Str->Option Value} {base:Heap} {x qual:Str} {st:Stmt} {f:Addr} {fd:FuncData} {N ps:List Str} {k:Nat} {sp:Sp3} {t3:TS3} (F:Fun K x qual st f fd) (S:FnScope N ps (qi st)) (bd:zJ K fd ps []) (hm:mg x=some (.ref f))
  (body:∀ (cdv:Value) (A:Around) (outer:List Env) (s:Shared) (H:Hp) (E:XK),Room k (A.deeper (envOfC qual (qi st) s.heap.objs.size f cdv)) ->
   jB3 (qa8 CX0 P w K mg base N qual (qi st) f cdv A outer s H E).nox (jg st) t3)
  (read:∀ ts G q,sp ts G q->ts.length=ps.length/\t3 { nx:=λ_ G'=>q .non G',rt:=q } (qE N ts) G):Fn3 P w K mg base (k+1) x sp:=
 qiL F S bd hm (λcdv A outer s H E hr=>(body cdv A outer s H E hr).h) read
def qbZ {P:Program} {w:World} {K:Frg} {mg:Str->Option Value} {base:Heap} {x qual:Str} {st:Stmt} {f:Addr} {fd:FuncData} {N ps:List Str} {k:Nat} {sp:Sp3} {t3:TS3} (F:Fun K x qual st f fd) (S:FnScope N ps (qi st))
  (body:∀ (cdv:Value) (A:Around) (outer:List Env) (s:Shared) (H:Hp) (E:XK),Room k (A.deeper (envOfC qual (qi st) s.heap.objs.size f cdv)) ->
   jB3 (qa8 CX0 P w K mg base N qual (qi st) f cdv A outer s H E).nox (jg st) t3)
  (read:∀ ts G q,sp ts G q->ts.length=ps.length/\t3 { nx:=λ_ G'=>q .non G',rt:=q } (qE N ts) G):FnOk P w K mg base CX0 (k+1) f fd ps (lSp K sp):=
 qeT F S (λcdv A outer s H E hr=>(body cdv A outer s H E hr).h) read
open PySem.SeqAt
def Ex (G G':Gp):Prop:=∀ b o,G b=some o->G' b=some o
def Ex.refl {G:Gp}:Ex G G:=λ_ _ e=>e
def Ex.trans {G G1 G2:Gp} (a:Ex G G1) (b:Ex G1 G2):Ex G G2:=λx o e=>b x o (a x o e)
def jP {G:Gp} {p:Addr} {o:O} (hp:G p=none):Ex G (gu G p o):=λb ob e=>by
 rw [jF (by rintro rfl;rw [hp] at e;cases e)];exact e
mutual
inductive Dp (G:Gp):T->PyData->Prop
 |non:Dp G .non .none
 |bl (b:Bool):Dp G (.bl b) (.bool b)
 |int (i:Int):Dp G (.int i) (.int i)
 |str (x:Str):Dp G (.str x) (.str x)
 |tup {xs:List T} {ds:List PyData}:Dps G xs ds->Dp G (.tup xs) (.tuple ds)
 |lst {p:Addr} {xs:List T} {ds:List PyData}:getL G p=some xs->Dps G xs ds->Dp G (.ref p) (.list ds)
inductive Dps (G:Gp):List T->List PyData->Prop
 |nil:Dps G [] []
 |cons {x:T} {d:PyData} {xs:List T} {ds:List PyData}:Dp G x d->Dps G xs ds->Dps G (x::xs) (d::ds)
end
def Ex.getL {G G':Gp} (e:Ex G G') {p:Addr} {xs:List T} (h:getL G p=some xs):getL G' p=some xs:=by
 unfold L3.getL at h ⊢;split at h
 ·rename_i ys g;cases h;rw [e _ _ g]
 ·rename_i ys g;cases h;rw [e _ _ g]
 ·cases h
mutual
def Dp.up {G G':Gp} (e:Ex G G'):∀ {x:T} {d:PyData},Dp G x d->Dp G' x d
 |_,_,.non=>.non
 |_,_,.bl b=>.bl b
 |_,_,.int i=>.int i
 |_,_,.str x=>.str x
 |_,_,.tup h=>.tup (Dps.up e h)
 |_,_,.lst h1 h2=>.lst (e.getL h1) (Dps.up e h2)
def Dps.up {G G':Gp} (e:Ex G G'):∀ {x:List T} {d:List PyData},Dps G x d->Dps G' x d
 |_,_,.nil=>.nil
 |_,_,.cons a b=>.cons (Dp.up e a) (Dps.up e b)
end
def Dps.length {G:Gp}:∀ {xs:List T} {ds:List PyData},Dps G xs ds->xs.length=ds.length
 |_,_,.nil=>rfl
 |_,_,.cons _ b=>by simp [Dps.length b]
def Dps.get {G:Gp}:∀ {xs:List T} {ds:List PyData} {i:Nat} {x:T},Dps G xs ds->xs[i]?=some x->∃ d,ds[i]?=some d/\Dp G x d
 |_,_,_,_,.nil,e=>by simp at e
 |_,_,0,_,.cons r _,e=>by simp at e;subst e;exact ⟨_,rfl,r⟩
 |_,_,i+1,x,.cons _ t,e=>by
  obtain ⟨u,h1,h2⟩:=Dps.get (i:=i) (x:=x) t (by simpa using e);exact ⟨u,by simpa using h1,h2⟩
mutual
inductive DV (K:Frg) (H:Hp):V->PyData->Prop
 |non:DV K H .non .none
 |bl (b:Bool):DV K H (.bl b) (.bool b)
 |int (i:Int):DV K H (.int i) (.int i)
 |str (x:Str):DV K H (.str x) (.str x)
 |tup {a:Addr} {vs:List V} {ds:List PyData}:SqT K H a vs->DVs K H vs ds->DV K H (.ref a) (.tuple ds)
 |lst {a:Addr} {vs:List V} {ds:List PyData}:SqL K H a vs->DVs K H vs ds->DV K H (.ref a) (.list ds)
inductive DVs (K:Frg) (H:Hp):List V->List PyData->Prop
 |nil:DVs K H [] []
 |cons {x:V} {d:PyData} {xs:List V} {ds:List PyData}:DV K H x d->DVs K H xs ds->DVs K H (x::xs) (d::ds)
end
mutual
def Dp.dv {K:Frg} {G:Gp} {H:Hp} (hr:HR K G H):∀ {x:T} {d:PyData} {v:V},Dp G x d->Rp K H x v->DV K H v d
 |_,_,_,.non,.non=>.non
 |_,_,_,.bl b,.bl _=>.bl b
 |_,_,_,.int i,.int _=>.int i
 |_,_,_,.str x,.str _=>.str x
 |_,_,_,.tup h,.tup hs rs=>.tup hs (Dps.dv hr h rs)
 |_,_,_,.lst g h,r=>by
  cases r;obtain ⟨_,hs,rs⟩:=zK hr g;exact .lst hs (Dps.dv hr h rs)
def Dps.dv {K:Frg} {G:Gp} {H:Hp} (hr:HR K G H):∀ {x:List T} {d:List PyData} {v:List V},Dps G x d->Rps K H x v->DVs K H v d
 |_,_,_,.nil,.nil=>.nil
 |_,_,_,.cons a b,.cons c d=>.cons (Dp.dv hr a c) (Dps.dv hr b d)
end
mutual
def ji:PyData->PyData->Option Bool
 |.none,.none=>some true
 |.bool a,.bool b=>some (a==b)
 |.int a,.int b=>some (a==b)
 |.str a,.str b=>some (a==b)
 |.list xs,.list ys=>Z0 xs ys
 |.tuple xs,.tuple ys=>Z0 xs ys
 |.int _,.none=>some false
 |.none,.int _=>some false
 |_,_=>none
def Z0:List PyData->List PyData->Option Bool
 |[],[]=>some true
 |x::xs,y::ys=>match ji x y,Z0 xs ys with|some a,some b=>some (a&&b)|_,_=>none
 |_,_=>some false
end
mutual
def dpt:PyData->Nat
 |.list xs=>qbs xs+1
 |.tuple xs=>qbs xs+1
 |_=>0
def qbs:List PyData->Nat
 |[]=>0
 |x::xs=>max (dpt x) (qbs xs)
end
section
variable {X:Cx} {pins:List (Addr×Obj)} {σ:L2.St} {H:Hp} {s:Shared}
mutual
def DV.inj (I:Inv X pins σ H s):∀ {v:V} {d e:PyData},DV X.K H v d->DV X.K H v e->d=e
 |_,_,_,.non,.non=>rfl
 |_,_,_,.bl _,.bl _=>rfl
 |_,_,_,.int _,.int _=>rfl
 |_,_,_,.str _,.str _=>rfl
 |_,_,_,.tup h hs,.tup k ks=>by
  have:=I.tuple_inj h k;subst this;rw [DVs.inj I hs ks]
 |_,_,_,.lst h hs,.lst k ks=>by
  have:=I.list_inj h k;subst this;rw [DVs.inj I hs ks]
 |_,_,_,.tup h hs,.lst k ks=>by
  obtain ⟨i1,_,p1,_⟩:=I.tuple h;obtain ⟨i2,_,p2,_⟩:=I.list k;exact absurd rfl (ne_of_list_tuple p2.isList (show s.heap.IsTuple _ i1.toArray from p1))
 |_,_,_,.lst k ks,.tup h hs=>by
  obtain ⟨i1,_,p1,_⟩:=I.tuple h;obtain ⟨i2,_,p2,_⟩:=I.list k;exact absurd rfl (ne_of_list_tuple p2.isList (show s.heap.IsTuple _ i1.toArray from p1))
def DVs.inj (I:Inv X pins σ H s):∀ {v:List V} {d e:List PyData},DVs X.K H v d->DVs X.K H v e->d=e
 |_,_,_,.nil,.nil=>rfl
 |_,_,_,.cons a b,.cons c d=>by rw [DV.inj I a c,DVs.inj I b d]
end
mutual
def CU:∀ {d:PyData} {b:Bool},ji d d=some b->b=true
 |.none,_,h=>by simp [ji] at h;exact h
 |.bool _,_,h=>by simp [ji] at h;exact h
 |.int _,_,h=>by simp [ji] at h;exact h
 |.str _,_,h=>by simp [ji] at h;exact h
 |.list xs,_,h=>by simp only [ji] at h;exact UK h
 |.tuple xs,_,h=>by simp only [ji] at h;exact UK h
 |.dict _,_,h=>by simp [ji] at h
def UK:∀ {d:List PyData} {b:Bool},Z0 d d=some b->b=true
 |[],_,h=>by simp [Z0] at h;exact h
 |x::xs,b,h=>by
  simp only [Z0] at h;split at h
  ·rename_i a c e1 e2;rw [CU e1,UK e2] at h;simpa using h.symm
  ·cases h
end
def JE:∀ {xs ys:List PyData} {b:Bool},Z0 xs ys=some b->xs.length=ys.length->∃ e:Nat->Bool,(∀ (j:Nat) x y,xs[j]?=some x->ys[j]?=some y->ji x y=some (e j))/\b=(List.range xs.length).all e
 |[],[],b,h,_=>by simp [Z0] at h;exact ⟨λ_=>true,by simp,by simp [h]⟩
 |x::xs,y::ys,b,h,hl=>by
  simp only [Z0] at h;split at h
  ·rename_i a c e1 e2;obtain ⟨e,h1,h2⟩:=JE e2 (by simpa using hl);refine ⟨λj=>match j with|0=>a|j+1=>e j,λj u v hu hv=>?_,?_⟩
   ·cases j with
    |zero=>simp at hu hv;subst hu;subst hv;exact e1
    |succ j=>exact h1 j u v (by simpa using hu) (by simpa using hv)
   ·rw [length_cons,List.range_succ_eq_map,List.all_cons,List.all_map];cases h;rw [h2];rfl
  ·cases h
 |[],_::_,_,_,hl=>by simp at hl
 |_::_,[],_,_,hl=>by simp at hl
def JL:∀ {xs ys:List PyData} {b:Bool},Z0 xs ys=some b->xs.length≠ys.length->b=false/\∃ e:Nat->Bool,∀ (j:Nat) x y,xs[j]?=some x->ys[j]?=some y->ji x y=some (e j)
 |[],[],_,_,hl=>by simp at hl
 |[],_::_,b,h,_=>by simp [Z0] at h;exact ⟨h,λ_=>true,by simp⟩
 |_::_,[],b,h,_=>by simp [Z0] at h;exact ⟨h,λ_=>true,by simp⟩
 |x::xs,y::ys,b,h,hl=>by
  simp only [Z0] at h;split at h
  ·rename_i a c e1 e2;obtain ⟨h0,e,h1⟩:=JL e2 (by simpa using hl);subst h0;refine ⟨by simpa using h.symm,λj=>match j with|0=>a|j+1=>e j,λj u v hu hv=>?_⟩;cases j with
   |zero=>simp at hu hv;subst hu;subst hv;exact e1
   |succ j=>exact h1 j u v (by simpa using hu) (by simpa using hv)
  ·cases h
def VD:∀ {xs:List PyData} {x:PyData},x∈xs->dpt x<=qbs xs
 |[],_,h=>by simp at h
 |y::ys,x,h=>by
  simp only [qbs];rcases mem_cons.mp h with e|e
  ·subst e;omega
  ·have:=VD e;omega
def DVs.get {K:Frg} {H:Hp}:∀ {xs:List V} {ds:List PyData} {i:Nat} {x:V},DVs K H xs ds->xs[i]?=some x->∃ d,ds[i]?=some d/\DV K H x d
 |_,_,_,_,.nil,e=>by simp at e
 |_,_,0,_,.cons r _,e=>by simp at e;subst e;exact ⟨_,rfl,r⟩
 |_,_,i+1,x,.cons _ t,e=>by
  obtain ⟨u,h1,h2⟩:=DVs.get (i:=i) (x:=x) t (by simpa using e);exact ⟨u,by simpa using h1,h2⟩
def DVs.length {K:Frg} {H:Hp}:∀ {xs:List V} {ds:List PyData},DVs K H xs ds->xs.length=ds.length
 |_,_,.nil=>rfl
 |_,_,.cons _ b=>by simp [DVs.length b]
def JJ {vs:List V} {us:List Value} (r:zj vs us) {j:Nat} (h:j<us.toArray.size):∃ v,vs[j]?=some v/\jk v us.toArray[j]:=by
 have hj:j<vs.length:=by rw [r.length];simpa using h
 obtain ⟨u,hu,ru⟩:=r.get (getElem?_eq_getElem hj);refine ⟨vs[j],getElem?_eq_getElem hj,?_⟩;have hj2:j<us.length:=by simpa using h
 rw [getElem?_eq_getElem hj2] at hu;have:us[j]=u:=Option.some.inj hu;simpa [this] using ru
def SQ (I:Inv X pins σ H s):∀ (n:Nat) {v u:V} {d e:PyData} {b:Bool} {x y:Value} {A:Around},DV X.K H v d->DV X.K H u e->ji d e=some b->dpt d<=n->A.units+n<cLine->jk v x->jk u y ->
  RcAt A s x y b/\EqAt A s x y b:=by
 intro n;induction n with
 |zero=>
  intro v u d e b x y A hv hu h hd hn rx ry;cases hv with
  |non=>
   cases hu with
   |non=>simp [ji] at h;subst h;cases (show x=Value.none from rx);cases (show y=Value.none from ry);exact ⟨RcAt.none_none,EqAt.same _⟩
   |int c=>simp [ji] at h;subst h;cases (show x=Value.none from rx);obtain ⟨t',rfl⟩:=(show ∃ t,y=Value.int _ t from ry);exact ⟨RcAt.none_int _ _,EqAt.none_int _ _⟩
   |bl _=>simp [ji] at h
   |str _=>simp [ji] at h
   |tup _ _=>simp [ji] at h
   |lst _ _=>simp [ji] at h
  |bl a=>cases hu<;>simp [ji] at h;subst h;cases (show x=Value.bool _ from rx);cases (show y=Value.bool _ from ry);exact ⟨RcAt.bool_bool _ _,EqAt.bool_bool _ _⟩
  |int a=>
   cases hu with
   |int c=>simp [ji] at h;subst h;obtain ⟨t,rfl⟩:=(show ∃ t,x=Value.int _ t from rx);obtain ⟨t',rfl⟩:=(show ∃ t,y=Value.int _ t from ry);exact ⟨RcAt.int_int _ _ _ _,EqAt.int_int _ _ _ _⟩
   |non=>simp [ji] at h;subst h;obtain ⟨t,rfl⟩:=(show ∃ t,x=Value.int _ t from rx);cases (show y=Value.none from ry);exact ⟨RcAt.int_none _ _,EqAt.int_none _ _⟩
   |bl _=>simp [ji] at h
   |str _=>simp [ji] at h
   |tup _ _=>simp [ji] at h
   |lst _ _=>simp [ji] at h
  |str a=>cases hu<;>simp [ji] at h;subst h;obtain ⟨t,rfl⟩:=(show ∃ t,x=Value.str _ t from rx);obtain ⟨t',rfl⟩:=(show ∃ t,y=Value.str _ t from ry);exact ⟨RcAt.str_str _ _ _ _,EqAt.str_str _ _ _ _⟩
  |tup=>simp [dpt] at hd
  |lst=>simp [dpt] at hd
 |succ n ih=>
  intro v u d e b x y A hv hu h hd hn rx ry;have fin:∀ {l l':Addr} {k:Bool},x=.ref l->y=.ref l'->v=.ref l->u=.ref l'->b=k->RcAt A s x y k->RcAt A s x y b/\EqAt A s x y b:=by
   rintro l l' k rfl rfl rfl rfl rfl rc;refine ⟨rc,?_⟩;by_cases hll:l=l'
   ·subst hll;have:=DV.inj I hv hu;subst this;rw [CU h];exact EqAt.same _
   ·exact EqAt.of_refs hll rc
  cases hv with
  |non=>
   cases hu with
   |non=>simp [ji] at h;subst h;cases (show x=Value.none from rx);cases (show y=Value.none from ry);exact ⟨RcAt.none_none,EqAt.same _⟩
   |int c=>simp [ji] at h;subst h;cases (show x=Value.none from rx);obtain ⟨t',rfl⟩:=(show ∃ t,y=Value.int _ t from ry);exact ⟨RcAt.none_int _ _,EqAt.none_int _ _⟩
   |bl _=>simp [ji] at h
   |str _=>simp [ji] at h
   |tup _ _=>simp [ji] at h
   |lst _ _=>simp [ji] at h
  |bl a=>cases hu<;>simp [ji] at h;subst h;cases (show x=Value.bool _ from rx);cases (show y=Value.bool _ from ry);exact ⟨RcAt.bool_bool _ _,EqAt.bool_bool _ _⟩
  |int a=>
   cases hu with
   |int c=>simp [ji] at h;subst h;obtain ⟨t,rfl⟩:=(show ∃ t,x=Value.int _ t from rx);obtain ⟨t',rfl⟩:=(show ∃ t,y=Value.int _ t from ry);exact ⟨RcAt.int_int _ _ _ _,EqAt.int_int _ _ _ _⟩
   |non=>simp [ji] at h;subst h;obtain ⟨t,rfl⟩:=(show ∃ t,x=Value.int _ t from rx);cases (show y=Value.none from ry);exact ⟨RcAt.int_none _ _,EqAt.int_none _ _⟩
   |bl _=>simp [ji] at h
   |str _=>simp [ji] at h
   |tup _ _=>simp [ji] at h
   |lst _ _=>simp [ji] at h
  |str a=>cases hu<;>simp [ji] at h;subst h;obtain ⟨t,rfl⟩:=(show ∃ t,x=Value.str _ t from rx);obtain ⟨t',rfl⟩:=(show ∃ t,y=Value.str _ t from ry);exact ⟨RcAt.str_str _ _ _ _,EqAt.str_str _ _ _ _⟩
  |tup hq hs=>
   cases hu with
   |tup kq ks=>
    rename_i a1 vs1 ds1 a2 vs2 ds2;simp only [ji] at h;obtain ⟨i1,r1,p1,z1⟩:=I.tuple hq;obtain ⟨i2,r2,p2,z2⟩:=I.tuple kq;have l1:=hs.length;have l2:=ks.length;have m1:=r1.length;have m2:=r2.length;have el:∀ (e:Nat->Bool),(∀ (j:Nat) x y,ds1[j]?=some x->ds2[j]?=some y->ji x y=some (e j))->∀ j (h1:j<i1.toArray.size) (h2:j<i2.toArray.size),EqAt A.in1 s i1.toArray[j] i2.toArray[j] (e j):=λe he j h1 h2=>by
     obtain ⟨w1,g1,q1⟩:=JJ r1 h1;obtain ⟨w2,g2,q2⟩:=JJ r2 h2;obtain ⟨d1,f1,dv1⟩:=hs.get g1;obtain ⟨d2,f2,dv2⟩:=ks.get g2;have:=VD (mem_of_getElem? f1);exact (ih dv1 dv2 (he j d1 d2 f1 f2) (by simp only [dpt] at hd;omega) (show A.units+1+n<cLine by omega) q1 q2).2
    cases (show x=Value.ref a1 from rx);cases (show y=Value.ref a2 from ry);by_cases hl:ds1.length=ds2.length
    ·obtain ⟨e,he,hb⟩:=JE h hl;refine fin rfl rfl rfl rfl (k:=(List.range (min i1.toArray.size i2.toArray.size)).all e&&i1.toArray.size==i2.toArray.size) ?_ (RcAt.tuples (show s.heap.IsTuple a1 i1.toArray from p1) (show s.heap.IsTuple a2 i2.toArray from p2) (by omega) (el e he));have e1:i1.toArray.size=ds1.length:=by rw [size_toArray];omega
     have e2:i2.toArray.size=ds1.length:=by rw [size_toArray];omega
     rw [e1,e2,hb];simp
    ·obtain ⟨hb,e,he⟩:=JL h hl;refine fin rfl rfl rfl rfl (k:=(List.range (min i1.toArray.size i2.toArray.size)).all e&&i1.toArray.size==i2.toArray.size) ?_ (RcAt.tuples (show s.heap.IsTuple a1 i1.toArray from p1) (show s.heap.IsTuple a2 i2.toArray from p2) (by omega) (el e he));have e1:i1.toArray.size≠i2.toArray.size:=by rw [size_toArray,size_toArray];omega
     rw [hb];simp [e1];intro;omega
   |_=>simp [ji] at h
  |lst hq hs=>
   cases hu with
   |lst kq ks=>
    rename_i a1 vs1 ds1 a2 vs2 ds2;simp only [ji] at h;obtain ⟨i1,r1,p1,z1⟩:=I.list hq;obtain ⟨i2,r2,p2,z2⟩:=I.list kq;have l1:=hs.length;have l2:=ks.length;have m1:=r1.length;have m2:=r2.length;have el:∀ (e:Nat->Bool),(∀ (j:Nat) x y,ds1[j]?=some x->ds2[j]?=some y->ji x y=some (e j))->∀ j (h1:j<i1.toArray.size) (h2:j<i2.toArray.size),EqAt A.in1 s i1.toArray[j] i2.toArray[j] (e j):=λe he j h1 h2=>by
     obtain ⟨w1,g1,q1⟩:=JJ r1 h1;obtain ⟨w2,g2,q2⟩:=JJ r2 h2;obtain ⟨d1,f1,dv1⟩:=hs.get g1;obtain ⟨d2,f2,dv2⟩:=ks.get g2;have:=VD (mem_of_getElem? f1);exact (ih dv1 dv2 (he j d1 d2 f1 f2) (by simp only [dpt] at hd;omega) (show A.units+1+n<cLine by omega) q1 q2).2
    cases (show x=Value.ref a1 from rx);cases (show y=Value.ref a2 from ry);by_cases hl:ds1.length=ds2.length
    ·obtain ⟨e,he,hb⟩:=JE h hl;refine fin rfl rfl rfl rfl (k:=(List.range i1.toArray.size).all e) ?_ (RcAt.lists p1.isList p2.isList (by rw [size_toArray,size_toArray];omega) (by omega) (el e he));have e1:i1.toArray.size=ds1.length:=by rw [size_toArray];omega
     rw [e1,hb]
    ·obtain ⟨hb,e,he⟩:=JL h hl;refine fin rfl rfl rfl rfl (k:=false) hb (RcAt.lists_lengths p1.isList p2.isList (by rw [size_toArray,size_toArray];simp;omega) (by omega))
   |_=>simp [ji] at h
def qf1 (I:Inv X pins σ H s) {n:Nat} {v u:V} {d e:PyData} {b:Bool} {x y:Value} {A:Around} (hv:DV X.K H v d) (hu:DV X.K H u e) (h:ji d e=some b) (hd:dpt d<=n+1) (hn:A.units+(n+1)<cLine) (rx:jk v x) (ry:jk u y) (hs:dpt d≠0):RcNeAt A s x y (!b):=by
 cases hv with
 |tup hq hs'=>
  cases hu with
  |tup kq ks=>
   rename_i a1 vs1 ds1 a2 vs2 ds2;simp only [ji] at h;obtain ⟨i1,r1,p1,z1⟩:=I.tuple hq;obtain ⟨i2,r2,p2,z2⟩:=I.tuple kq;have l1:=hs'.length;have l2:=ks.length;have m1:=r1.length;have m2:=r2.length;have el:∀ (e:Nat->Bool),(∀ (j:Nat) x y,ds1[j]?=some x->ds2[j]?=some y->ji x y=some (e j))->∀ j (h1:j<i1.toArray.size) (h2:j<i2.toArray.size),EqAt A.in1 s i1.toArray[j] i2.toArray[j] (e j):=λe he j h1 h2=>by
    obtain ⟨w1,g1,q1⟩:=JJ r1 h1;obtain ⟨w2,g2,q2⟩:=JJ r2 h2;obtain ⟨d1,f1,dv1⟩:=hs'.get g1;obtain ⟨d2,f2,dv2⟩:=ks.get g2;have:=VD (mem_of_getElem? f1);exact (SQ I n dv1 dv2 (he j d1 d2 f1 f2) (by simp only [dpt] at hd;omega) (show A.units+1+n<cLine by omega) q1 q2).2
   cases (show x=Value.ref a1 from rx);cases (show y=Value.ref a2 from ry);by_cases hl:ds1.length=ds2.length
   ·obtain ⟨e,he,hb⟩:=JE h hl;have:=RcNeAt.tuples (show s.heap.IsTuple a1 i1.toArray from p1) (show s.heap.IsTuple a2 i2.toArray from p2) (A:=A) (by omega) (el e he);have e1:i1.toArray.size=ds1.length:=by rw [size_toArray];omega
    have e2:i2.toArray.size=ds1.length:=by rw [size_toArray];omega
    rw [e1,e2] at this;rw [hb];simpa using this
   ·obtain ⟨hb,e,he⟩:=JL h hl;have:=RcNeAt.tuples (show s.heap.IsTuple a1 i1.toArray from p1) (show s.heap.IsTuple a2 i2.toArray from p2) (A:=A) (by omega) (el e he);have e1:(i1.toArray.size==i2.toArray.size)=false:=by rw [size_toArray,size_toArray];simp;omega
    rw [e1] at this;rw [hb];simpa using this
  |_=>simp [ji] at h
 |lst hq hs'=>
  cases hu with
  |lst kq ks=>
   rename_i a1 vs1 ds1 a2 vs2 ds2;simp only [ji] at h;obtain ⟨i1,r1,p1,z1⟩:=I.list hq;obtain ⟨i2,r2,p2,z2⟩:=I.list kq;have l1:=hs'.length;have l2:=ks.length;have m1:=r1.length;have m2:=r2.length;have el:∀ (e:Nat->Bool),(∀ (j:Nat) x y,ds1[j]?=some x->ds2[j]?=some y->ji x y=some (e j))->∀ j (h1:j<i1.toArray.size) (h2:j<i2.toArray.size),EqAt A.in1 s i1.toArray[j] i2.toArray[j] (e j):=λe he j h1 h2=>by
    obtain ⟨w1,g1,q1⟩:=JJ r1 h1;obtain ⟨w2,g2,q2⟩:=JJ r2 h2;obtain ⟨d1,f1,dv1⟩:=hs'.get g1;obtain ⟨d2,f2,dv2⟩:=ks.get g2;have:=VD (mem_of_getElem? f1);exact (SQ I n dv1 dv2 (he j d1 d2 f1 f2) (by simp only [dpt] at hd;omega) (show A.units+1+n<cLine by omega) q1 q2).2
   cases (show x=Value.ref a1 from rx);cases (show y=Value.ref a2 from ry);by_cases hl:ds1.length=ds2.length
   ·obtain ⟨e,he,hb⟩:=JE h hl;have:=RcNeAt.lists p1.isList p2.isList (A:=A) (by rw [size_toArray,size_toArray];omega) (by omega) (el e he);have e1:i1.toArray.size=ds1.length:=by rw [size_toArray];omega
    rw [e1] at this;rw [hb];exact this
   ·obtain ⟨hb,e,he⟩:=JL h hl;rw [hb];exact RcNeAt.lists_lengths p1.isList p2.isList (by rw [size_toArray,size_toArray];simp;omega) (by omega)
  |_=>simp [ji] at h
 |_=>simp [dpt] at hs
def qgm (K:Frg) (neg:Bool):R2:=λx y H Q=>∃ d e b,DV K H x d/\DV K H y e/\ji d e=some b/\dpt d<=40/\dpt d≠0/\Q (.bl (if neg then !b else b)) H
def qi8 (hu:X.A.units+64<cLine):OpR X (compareOp .Eq) (qgm X.K false):=by
 intro pins s σ H x y v u Q I rx ry h;obtain ⟨d,e,b,hx,hy,hb,hd,_,q⟩:=h;exact (SQ I 40 hx hy hb hd (by omega) rx ry).1 X.prog X.w X.xe _ ⟨.bl b,H,I,rfl,q⟩
def qhY (hu:X.A.units+64<cLine):OpR X (compareOp .NotEq) (qgm X.K true):=by
 intro pins s σ H x y v u Q I rx ry h;obtain ⟨d,e,b,hx,hy,hb,hd,hs,q⟩:=h;exact qf1 I (n:=40) hx hy hb (by omega) (by omega) rx ry hs X.prog X.w X.xe _ ⟨.bl (!b),H,I,rfl,q⟩
end
def QK (neg:Bool):R3:=λx y G q=>match U8 x y with
 |some k=>q (.bl (if neg then !k else k)) G
 |none=>∃ d e b,Dp G x d/\Dp G y e/\ji d e=some b/\dpt d<=40/\dpt d≠0/\q (.bl (if neg then !b else b)) G
def qV {K:Frg}:DI K (QK false) (λx y H Q=>rEq x y H Q\/qgm K false x y H Q):=λx y v u G H q Q hr rx ry h af=>by
 unfold QK at h;split at h
 ·rename_i k e;obtain ⟨h1,h2⟩:=KJ rx ry e;refine .inl ⟨h1,?_⟩;rw [h2];exact af _ G h _ H (.bl _) hr Kp.refl
 ·obtain ⟨d,e,b,h1,h2,h3,h4,h5,h6⟩:=h;exact .inr ⟨d,e,b,h1.dv hr rx,h2.dv hr ry,h3,h4,h5,af _ G h6 _ H (.bl _) hr Kp.refl⟩
def YR {K:Frg}:DI K (QK true) (λx y H Q=>rNe x y H Q\/qgm K true x y H Q):=λx y v u G H q Q hr rx ry h af=>by
 unfold QK at h;split at h
 ·rename_i k e;obtain ⟨h1,h2⟩:=KJ rx ry e;refine .inl ⟨h1,?_⟩;rw [h2];exact af _ G h _ H (.bl _) hr Kp.refl
 ·obtain ⟨d,e,b,h1,h2,h3,h4,h5,h6⟩:=h;exact .inr ⟨d,e,b,h1.dv hr rx,h2.dv hr ry,h3,h4,h5,af _ G h6 _ H (.bl _) hr Kp.refl⟩
def zB {X:Cx} (hu:X.A.units+64<cLine):OpR X (compareOp .Eq) (λx y H Q=>rEq x y H Q\/qgm X.K false x y H Q):=qm3.or (qi8 hu)
def E9 {X:Cx} (hu:X.A.units+64<cLine):OpR X (compareOp .NotEq) (λx y H Q=>rNe x y H Q\/qgm X.K true x y H Q):=qmd.or (qhY hu)
end L3
namespace L3
open PySem PySem.Spec PyProof.Rows L2
section
variable {X:Cx} {pins:List (Addr×Obj)} {σ:L2.St} {H:Hp} {s:Shared}
mutual
def DV.reads (I:Inv X pins σ H s):∀ {v:V} {d:PyData} {x:Value},DV X.K H v d->jk v x->∃ as,Reads s.heap x d as
 |_,_,x,.non,r=>by cases (show x=Value.none from r);exact ⟨_,.none⟩
 |_,_,x,.bl b,r=>by cases (show x=Value.bool b from r);exact ⟨_,.bool b⟩
 |_,_,x,.int i,r=>by obtain ⟨t,rfl⟩:=(show ∃ t,x=Value.int i t from r);exact ⟨_,.int i t⟩
 |_,_,x,.str y,r=>by obtain ⟨t,rfl⟩:=(show ∃ t,x=Value.str y t from r);exact ⟨_,.str y t⟩
 |_,_,x,.tup (a:=a) h hs,r=>by
  cases (show x=Value.ref a from r);obtain ⟨its,rv,⟨o,h1,h2,n,h3⟩,_⟩:=I.tuple h;obtain ⟨as,ra⟩:=DVs.reads I hs rv;exact ⟨as,.tuple h1 h2 h3 (by simpa using ra)⟩
 |_,_,x,.lst (a:=a) h hs,r=>by
  cases (show x=Value.ref a from r);obtain ⟨its,rv,p,_⟩:=I.list h;obtain ⟨o,h1,h2,n,h3⟩:=p.isList;obtain ⟨as,ra⟩:=DVs.reads I hs rv;exact ⟨a::as,.list h1 h2 h3 (by simpa using ra)⟩
def DVs.reads (I:Inv X pins σ H s):∀ {v:List V} {d:List PyData} {x:List Value},DVs X.K H v d->zj v x->∃ as,ReadsAll s.heap x d as
 |_,_,_,.nil,.nil=>⟨_,.nil⟩
 |_,_,_,.cons a b,.cons c d=>by
  obtain ⟨as,r1⟩:=DV.reads I a c;obtain ⟨bs,r2⟩:=DVs.reads I b d;exact ⟨_,.cons r1 r2⟩
end
structure ShOk (d:PyData):Prop where
 sh:d.showable=true
 nd:d.hasDict=false
 dp:d.depth<=40
 lv:d.leavesShort 13=true
 bk:d.bulk<=2 ^ 20
end
section
variable {X:Cx}
def SX {K:Frg} {H:Hp}:∀ {ys:List T} {vs:List V} (h:Rps K H ys vs),Rps K H ys.reverse vs.reverse
 |_,_,.nil=>.nil
 |_,_,.cons r t=>by rw [List.reverse_cons,List.reverse_cons];exact (SX t).append (.cons r .nil)
end
section
variable {prog:Program} {w:World} {A:Around} {R:Result->Shared->Prop} {s:Shared}
def WW (elt t1 i1 t2 i2:Expr) (f1 f2:List Expr) (scope:Scope) (pos:Pos) (it acc:Value) (env:Env) :
  compTurn (.ListComp elt [⟨t1,i1,f1,0⟩,⟨t2,i2,f2,0⟩] scope pos) 0 it acc env=(do
   standAt i1.pos
   match←pyNext it with
   |none=>pure (.done .next)
   |some v=>
    letOwnedTupleGo t1 it v
    assign t1 env v
    let mut ok:=true
    for c in f1 do
     if ok then ok←isTrue c env (eval c env)
    if ok then
     let x←eval i2 env
     standAt i2.pos
     let x←foldedSetIterable i2 env x
     let _←runOwn (.compStart (.ListComp elt [⟨t1,i1,f1,0⟩,⟨t2,i2,f2,0⟩] scope pos) 1 (← holding [x] (pyIter x)) acc env) env
    again (.compLoop (.ListComp elt [⟨t1,i1,f1,0⟩,⟨t2,i2,f2,0⟩] scope pos) 0 it acc env)):=by rfl
def W6 (elt t1 i1 t2 i2:Expr) (f1 f2:List Expr) (scope:Scope) (pos:Pos) (it acc:Value) (env:Env) :
  compTurn (.ListComp elt [⟨t1,i1,f1,0⟩,⟨t2,i2,f2,0⟩] scope pos) 1 it acc env=(do
   standAt i2.pos
   match←pyNext it with
   |none=>pure (.done .next)
   |some v=>
    letOwnedTupleGo t2 it v
    assign t2 env v
    let mut ok:=true
    for c in f2 do
     if ok then ok←isTrue c env (eval c env)
    if ok then
     (do let _←call (.builtin "list.append") [acc,← eval elt env])
    again (.compLoop (.ListComp elt [⟨t1,i1,f1,0⟩,⟨t2,i2,f2,0⟩] scope pos) 1 it acc env)):=by rfl
def Z4 {elt t1 i1 t2 i2:Expr} {f1 f2:List Expr} {scope:Scope} {pos:Pos} {it acc:Value} {env:Env}
  (h0:codeAny (model prog w) A (.compLoop (.ListComp elt [⟨t1,i1,f1,0⟩,⟨t2,i2,f2,0⟩] scope pos) 1 it acc env) R s)
  (h:wpAny (model prog w) A (pyIter it) (λit' s'=>codeAny (model prog w) A (.compLoop (.ListComp elt [⟨t1,i1,f1,0⟩,⟨t2,i2,f2,0⟩] scope pos) 1 it' acc env) R s')
   (notedBy (model prog w) A env λx s'=>R (.error x) s') s) :
  codeAny (model prog w) A (.compStart (.ListComp elt [⟨t1,i1,f1,0⟩,⟨t2,i2,f2,0⟩] scope pos) 1 it acc env) R s:=by
 refine codeAny_of_tree ?_;show wpAny _ _ ((compStart (.ListComp elt [⟨t1,i1,f1,0⟩,⟨t2,i2,f2,0⟩] scope pos) 1 it acc env).onRaise (λx=>do noteFrame x env;standAt theWindowsPlace)) _ _ s;refine wpAny_notedAt ?_;unfold compStart;show wpAny _ _ (ask >>= _) _ _ s;refine wpAny_bind (wpAny_askSetting (wpAny_ite ?_));split
 ·first
   |exact wpAny_bind (wpAny_pure (wpAny_pure (And.intro rfl h0)))
   |exact wpAny_pure (And.intro rfl h0)
 ·first
   |exact wpAny_bind (wpAny_rule (wpAny_bind (wpAny_standAt (wpAny_bind (wpAny_mono h (λit' s' h'=>wpAny_pure (And.intro rfl h')) λ_ _ x=>x)))))
   | (refine wpAny_bind (wpAny_rule ?_);show wpAny _ _ (standAt i2.pos >>= _) _ _ s;exact wpAny_bind (wpAny_standAt (wpAny_bind (wpAny_mono h (λit' s' h'=>wpAny_pure (And.intro rfl h')) λ_ _ x=>x))))
end
def tIn (wi:TI) (g:TG) (tif:TT) (te:TE) (D:Addr) (N:L2.St->Hp->Prop) (σ:L2.St) (H:Hp):Prop:=wi σ H λJ H1=>
 ∃ W:Nat->Nat->L2.St->Hp->Prop,(∃ n,W 0 n σ H1)/\∀ i n σ H,W i n σ H ->
  (J.stop i H/\N σ H)\/(J.go i H/\∀ x H',J.yld i H x H'->g x σ H' λσ2 H2=>tif σ2 H2 λk H3=>
   if k=true then te σ2 H3 λy H4=>∃ zs,H4 D=some (.lst zs)/\zs.length<sizeLine/\∃ n',n'<n/\W (i+1) n' σ2 (upd H4 D (.lst (zs++[y])))
   else ∃ n',n'<n/\W (i+1) n' σ2 H3)
section
variable {X:Cx}
def qim {elt t1 i1 t2 i2:Expr} {f1 f2:List Expr} {scope:Scope} {pos:Pos} {wi:TI} {g:TG} {tif:TT} {te:TE} {D:Addr} {N:L2.St->Hp->Prop} (hc:X.calm=true) (hx:∀ v s,¬ X.xe v s) (hi:PI X t2 i2 wi) (hg:PG X t2 g) (hf:PF X f2 tif) (he:PE X elt te)
    (hs:∀ x,foldedSetIterable i2 X.env x=pure x) {pins:List (Addr×Obj)} {s:Shared} {σ:L2.St} {H:Hp} {E:Value->Shared->Prop} {α:Type} {kk:Sem α} {Q:α->Shared->Prop} (I:Inv X pins σ H s) (h:tIn wi g tif te D N σ H) (hk:∀ s' σ' H',Inv X pins σ' H' s'->N σ' H'->wpAny (model X.prog X.w) X.A kk Q E s') :
    wpAny (model X.prog X.w) X.A (do
            let x←eval i2 X.env
            standAt i2.pos
            let x←foldedSetIterable i2 X.env x
            let _←runOwn (.compStart (.ListComp elt [⟨t1,i1,f1,0⟩,⟨t2,i2,f2,0⟩] scope pos) 1 (← holding [x] (pyIter x)) (.ref D) X.env) X.env
            kk) Q E s:=by
  refine wpAny_bind (wpAny_mono (hi pins s σ H _ I h) (λv s1 h1=>?_) λ_ _ z=>(hx _ _ z).elim);refine wpAny_bind (wpAny_standAt (wpAny_bind (wpAny_of_eq (hs v) ?_)));refine wpAny_bind (wpAny_holding (wpAny_mono h1 (λitv s2 h2=>?_) λ_ _ z=>(hx _ _ z).elim));obtain ⟨it,fp,tn,J,H2,rfl,I2,T,st2,f2',W,⟨n0,w0⟩,turn⟩:=h2;have stat:∀ {H':Hp},(∀ b∈fp,H' b=none)->∀ b∈fp,C7 X pins H' b:=λhn b hb=>⟨hn b hb,(f2' b hb).2⟩
  refine wpAny_bind (wpAny_runOwn ?_);show codeAny (model X.prog X.w) X.A (.compStart (.ListComp elt [⟨t1,i1,f1,0⟩,⟨t2,i2,f2,0⟩] scope pos) 1 (.ref it) (.ref D) X.env) _ s2;have loop:codeAny (model X.prog X.w) X.A (.compLoop (.ListComp elt [⟨t1,i1,f1,0⟩,⟨t2,i2,f2,0⟩] scope pos) 1 (.ref it) (.ref D) X.env) (λr s'=>match r with
      |.ok f=>wpAny (model X.prog X.w) X.A kk Q E s'
      |.error e=>cameBackBy (model X.prog X.w) X.A X.env E e s') s2:=by
    refine codeAny_loop rfl (λn s'=>∃ i σ' H',Inv X pins σ' H' s'/\tn i s'.heap/\(∀ b∈fp,H' b=none)/\W i n σ' H') (λn s' hI=>?_) n0 ⟨0,σ,H2,I2,st2,λb hb=>(f2' b hb).1,w0⟩;show wpAny _ X.A ((compTurn (.ListComp elt [⟨t1,i1,f1,0⟩,⟨t2,i2,f2,0⟩] scope pos) 1 (.ref it) (.ref D) X.env).onRaise (λx=>do noteFrame x X.env;theTreesLotGoes x)) _ _ s';refine wpAny_noted ?_;rw [W6];refine wpAny_bind (wpAny_standAt (wpAny_bind ?_));obtain ⟨i,σ5,H5,I5,st5,fr5,w5⟩:=hI;rcases turn i n σ5 H5 w5 with ⟨stop,q⟩|⟨go,step⟩
    · refine thn (T.done X rfl rfl rfl hc i pins s' σ5 H5 _ I5 (stat fr5) st5 stop) λr s6 ⟨hr,I6⟩=>?_;subst hr;exact wpAny_pure (hk _ σ5 H5 I6 q)
    · refine thn (T.item X rfl rfl rfl hc i pins s' σ5 H5 _ I5 (stat fr5) st5 go) λr s6 ⟨u,hr,h6⟩=>?_;subst hr;refine wpAny_bind (thn h6 λ_ s7 ⟨x,H7,I7,r7,y7,st7,fr7⟩=>?_);have I7':=I7.pinned (stat fr7) (T.obj _ _ st7);have again:∀ {σ8:L2.St} {H8:Hp} {s8:Shared},Inv X (pins++UW fp s7.heap) σ8 H8 s8->(∃ n',n'<n/\W (i+1) n' σ8 H8) ->
          ∃ m',m'<n/\∃ i σ' H',Inv X pins σ' H' s8/\tn i s8.heap/\(∀ b∈fp,H' b=none)/\W i m' σ' H':=λ{σ8 H8 s8} I8 ⟨n',hn,w8⟩=>by
        refine ⟨n',hn,i+1,σ8,H8,I8.unpinned,T.keep _ _ _ st7 λb hb o e=>(I8.pin (b,o) (mem_append_right _ (mem_append_right _ (zx hb e)))).1,λb hb=>?_,w8⟩;obtain ⟨o,e,d⟩:=T.obj _ _ st7 b hb;exact (I8.pin (b,o) (mem_append_right _ (mem_append_right _ (zx hb e)))).2.1
      refine wpAny_bind (wpAny_mono (hg _ s7 σ5 H7 x u _ I7' r7 (step x H7 y7)) (λ_ s8 ⟨σ8,H8,I8,q8⟩=>?_) λ_ _ z=>(hx _ _ z).elim);refine wpAny_bind (wpAny_mono (hf _ s8 σ8 H8 _ I8 q8) (λk s9 ⟨H9,I9,q9⟩=>?_) λ_ _ z=>(hx _ _ z).elim);cases k with
      |false=>
        rw [if_neg Bool.false_ne_true] at q9;exact wpAny_pure ⟨rfl,again I9 q9⟩
      |true=>
        rw [if_pos rfl] at q9;refine wpAny_bind (wpAny_bind (wpAny_mono (he _ s9 σ8 H9 _ I9 q9) (λw s10 ⟨y,H10,I10,r10,q10⟩=>?_) λ_ _ z=>(hx _ _ z).elim));obtain ⟨zs,hz,hl,q10⟩:=q10;refine wpAny_bind (wpAny_mono (Y7 (X:=X) _ s10 σ8 H10 (.ref D) [y] (.ref D) [w] (λ_ H11=>H11=upd H10 D (.lst (zs++[y]))) I10 rfl (.cons r10 .nil) ⟨D,zs,y,rfl,rfl,hz,hl,rfl⟩) (λ_ s11 ⟨_,H11,I11,_,e11⟩=>?_) λ_ _ z=>(hx _ _ z).elim);subst e11;exact wpAny_pure (wpAny_pure ⟨rfl,again I11 q10⟩)
  exact Z4 loop (T.self X.A 0 _ _ _ st2 loop)
def qo7 (wi:TI) (g:TG) (tif:TT) (wi2:TI) (g2:TG) (tif2:TT) (te:TE) (m:List (Option Nat)):TE:=λσ H Q=>wi σ H λJ H1=>∀ D,H1 D=none ->
 ∃ W:Nat->Nat->L2.St->Hp->Prop,(∃ n,W 0 n (cap m σ) (upd H1 D (.lst [])))/\∀ i n σ H,W i n σ H ->
  (J.stop i H/\Q (.ref D) H)\/(J.go i H/\∀ x H',J.yld i H x H'->g x σ H' λσ2 H2=>tif σ2 H2 λk H3=>
   if k=true then tIn wi2 g2 tif2 te D (λσ4 H4=>∃ n',n'<n/\W (i+1) n' σ4 H4) σ2 H3
   else ∃ n',n'<n/\W (i+1) n' σ2 H3)
def qhK {elt tg iter t2 i2:Expr} {ifs f2:List Expr} {scope:Scope} {pos:Pos} {N':List Str} {m:List (Option Nat)} {wi:TI} {g:TG} {tif:TT} {wi2:TI} {g2:TG} {tif2:TT} {te:TE} (hc:X.calm=true) (hi:PI X tg iter wi)
  (hg:∀ s H fp,PG (qj X N' scope s H fp) tg g) (hf:∀ s H fp,PF (qj X N' scope s H fp) ifs tif) (hi2:∀ s H fp,PI (qj X N' scope s H fp) t2 i2 wi2) (hg2:∀ s H fp,PG (qj X N' scope s H fp) t2 g2) (hf2:∀ s H fp,PF (qj X N' scope s H fp) f2 tif2) (he:∀ s H fp,PE (qj X N' scope s H fp) elt te)
  (hsc:LX X.env.scope scope=true) (hcap:YK X.N N' scope m=true) (hs:∀ x,foldedSetIterable iter X.env x=pure x:=by intro _;rfl) (hs2:∀ s H fp x,foldedSetIterable i2 (qj X N' scope s H fp).env x=pure x:=by intro _ _ _ _;rfl) :
  PE X (.ListComp elt [⟨tg,iter,ifs,0⟩,⟨t2,i2,f2,0⟩] scope pos) (qo7 wi g tif wi2 g2 tif2 te m):=by
 intro pins s σ H Q I h;have sc:=UE hsc;have hcl:∀ y∈scope.names,y.2=.free->∃ c,X.env.cells.lookup y.1=some c:=λy hy e=>by
  rcases (sc.free y hy e).2 with z|z
  ·exact I.ok.has y.1 (.inl z)
  ·exact I.ok.has y.1 (.inr z)
 rw [eval_ListComp];refine wpAny_comprehension_free (use:=none) (g:=⟨tg,iter,ifs,0⟩) (gs:=[⟨t2,i2,f2,0⟩]) rfl hs (ZW hcl) sc.kind sc.loc ?_;show wpAny _ _ (eval iter X.env) _ _ s;refine thn (hi pins s σ H _ I h) λv s1 h1=>thn h1 λitv s2 h2=>?_;obtain ⟨it,fp,tn,J,H2,rfl,I2,T,st2,fF2,hW⟩:=h2;refine wpAny_newObj_type ?_;have hD:H2 s2.heap.objs.size=none:=I2.fresh;obtain ⟨W,⟨n0,w0⟩,turn⟩:=hW _ hD;generalize hDe:s2.heap.objs.size=D at *;have I3:Inv X pins σ (upd H2 D (.lst [])) { s2 with heap:=s2.heap.push { cls:=.type "list",dict:=none,data:=.seq ([]:List Value).toArray } }:=by
  subst hDe;exact I2.laid (t':=s2.toks) (λb u e=>Heap.get?_push_of_some _ e) (Nat.le_refl _) ⟨Nat.zero_le _,[],0,.nil,Heap.get?_push_size _ rfl⟩
 have ob2:=T.obj 0 _ st2;have ob3:∀ b∈fp,∃ o,(s2.heap.push { cls:=.type "list",dict:=none,data:=.seq ([]:List Value).toArray }).get? b=some o:=λb hb=>let ⟨o,e,_⟩:=ob2 b hb;⟨o,Heap.get?_push_of_some _ e⟩
 have f3:∀ b∈fp,C7 X pins (upd H2 D (.lst [])) b:=λb hb=>by
  obtain ⟨o,e,_⟩:=ob2 b hb;have:b≠D:=by rw [← hDe];exact Nat.ne_of_lt (Heap.lt_size e)
  exact ⟨by rw [qq this];exact (fF2 b hb).1,(fF2 b hb).2⟩
 have k23:∀ b o,s2.heap.get? b=some o->(s2.heap.push { cls:=.type "list",dict:=none,data:=.seq ([]:List Value).toArray }).get? b=some o:=λb o e=>Heap.get?_push_of_some _ e;generalize hH3:upd H2 D (.lst [])=H3 at *;generalize hs3:({ s2 with heap:=s2.heap.push { cls:=.type "list",dict:=none,data:=.seq ([]:List Value).toArray } }:Shared)=s3 at *;have ob3:∀ b∈fp,∃ o,s3.heap.get? b=some o:=by rw [← hs3];exact ob3
 have k23:∀ b o,s2.heap.get? b=some o->s3.heap.get? b=some o:=by rw [← hs3];exact k23
 refine jG λh₁ hns hk hown=>?_;have I4:Inv (qj X N' scope s3 H3 fp) [] (cap m σ) H3 { s3 with heap:=h₁ }:=XN hc I3 sc hcap f3 ob3 hns hk hown;have tn4:tn 0 h₁:=T.keep _ _ _ st2 λb hb o e=>hk b o (k23 b o e);have fr4:∀ b∈fp,H3 b=none:=λb hb=>(f3 b hb).1;have stat:∀ {H':Hp},(∀ b∈fp,H' b=none)->∀ b∈fp,C7 (qj X N' scope s3 H3 fp) [] H' b:=λhn b hb=>by
  refine ⟨hn b hb,I4.ok.exf b hb |>.1,I4.ok.exfs b hb,.inl hb,λx c e=>(I4.ok.exf b hb).2 x c e,λp hp=>absurd (show p∈([]:List (Addr×Obj)) from hp) (by simp)⟩
 show codeAny (model X.prog X.w) X.A (.compStart (.ListComp elt [⟨tg,iter,ifs,0⟩,⟨t2,i2,f2,0⟩] scope pos) 0 (.ref it) (.ref D) (qj X N' scope s3 H3 fp).env) (compPost (model X.prog X.w) X.A X.xe none (EP X pins σ Q) (.ref D) s3.heap.objs.size) { s3 with heap:=h₁ };have loop:codeAny (model X.prog X.w) X.A (.compLoop (.ListComp elt [⟨tg,iter,ifs,0⟩,⟨t2,i2,f2,0⟩] scope pos) 0 (.ref it) (.ref D) (qj X N' scope s3 H3 fp).env) (compPost (model X.prog X.w) X.A X.xe none (EP X pins σ Q) (.ref D) s3.heap.objs.size) { s3 with heap:=h₁ }:=by
  refine codeAny_loop rfl (λn s'=>∃ i σ' H',Inv (qj X N' scope s3 H3 fp) [] σ' H' s'/\tn i s'.heap/\(∀ b∈fp,H' b=none)/\W i n σ' H') (λn s' hI=>?_) n0 ⟨0,cap m σ,H3,I4,tn4,fr4,w0⟩;show wpAny _ X.A ((compTurn (.ListComp elt [⟨tg,iter,ifs,0⟩,⟨t2,i2,f2,0⟩] scope pos) 0 (.ref it) (.ref D) (qj X N' scope s3 H3 fp).env).onRaise (λx=>do noteFrame x (qj X N' scope s3 H3 fp).env;theTreesLotGoes x)) _ _ s';refine wpAny_noted ?_;rw [WW];refine wpAny_bind (wpAny_standAt (wpAny_bind ?_));obtain ⟨i,σ5,H5,I5,st5,fr5,w5⟩:=hI;rcases turn i n σ5 H5 w5 with ⟨stop,q⟩|⟨go,step⟩
  ·refine thn (T.done (qj X N' scope s3 H3 fp) rfl rfl rfl rfl i [] s' σ5 H5 _ I5 (stat fr5) st5 stop) λr s6 ⟨hr,I6⟩=>?_;subst hr;refine wpAny_pure ?_;obtain ⟨mm,hn6,_⟩:=I6.loc;exact ⟨mm,hn6,λh' sb=>⟨.ref D,H5,UM I3 f3 I6 sb,rfl,q⟩⟩
  ·refine thn (T.item (qj X N' scope s3 H3 fp) rfl rfl rfl rfl i [] s' σ5 H5 _ I5 (stat fr5) st5 go) λr s6 ⟨u,hr,h6⟩=>?_;subst hr;refine wpAny_bind (thn h6 λ_ s7 ⟨x,H7,I7,r7,y7,st7,fr7⟩=>?_);have I7':=I7.pinned (stat fr7) (T.obj _ _ st7);have again:∀ {σ8:L2.St} {H8:Hp} {s8:Shared},Inv (qj X N' scope s3 H3 fp) ([]++UW fp s7.heap) σ8 H8 s8->(∃ n',n'<n/\W (i+1) n' σ8 H8) ->
     ∃ m',m'<n/\∃ i σ' H',Inv (qj X N' scope s3 H3 fp) [] σ' H' s8/\tn i s8.heap/\(∀ b∈fp,H' b=none)/\W i m' σ' H':=λ{σ8 H8 s8} I8 ⟨n',hn,w8⟩=>by
    refine ⟨n',hn,i+1,σ8,H8,I8.unpinned,T.keep _ _ _ st7 λb hb o e=>(I8.pin (b,o) (mem_append_right _ (mem_append_right _ (zx hb e)))).1,λb hb=>?_,w8⟩;obtain ⟨o,e,d⟩:=T.obj _ _ st7 b hb;exact (I8.pin (b,o) (mem_append_right _ (mem_append_right _ (zx hb e)))).2.1
   refine wpAny_bind (wpAny_mono (hg s3 H3 fp _ s7 σ5 H7 x u _ I7' r7 (step x H7 y7)) (λ_ s8 ⟨σ8,H8,I8,q8⟩=>?_) λ_ _ z=>z.elim);refine wpAny_bind (wpAny_mono (hf s3 H3 fp _ s8 σ8 H8 _ I8 q8) (λk s9 ⟨H9,I9,q9⟩=>?_) λ_ _ z=>z.elim);cases k with
   |false=>
    rw [if_neg Bool.false_ne_true] at q9;exact wpAny_pure ⟨rfl,again I9 q9⟩
   |true=>
    rw [if_pos rfl] at q9;refine qim (X:=qj X N' scope s3 H3 fp) rfl (λ_ _ z=>z) (hi2 s3 H3 fp) (hg2 s3 H3 fp) (hf2 s3 H3 fp) (he s3 H3 fp) (hs2 s3 H3 fp) I9 q9 λs10 σ10 H10 I10 q10=>?_;exact wpAny_pure ⟨rfl,again I10 q10⟩
 exact codeAny_compStart_list loop (T.self X.A 0 _ _ _ tn4 loop)
end
def qge (D:Addr) (stay:Gp->Prop) (g:TG3) (tif:TT3) (te:TE3) (N:St3->Gp->Prop):List T->St3->Gp->Prop
 |[],τ,G=>stay G/\N τ G
 |x::r,τ,G=>stay G/\g x τ G λτ2 G2=>tif τ2 G2 λk G3=>
  if k=true then te τ2 G3 λy G4=>(match G4 D with|some (.lst ys)=>ys.length<sizeLine/\qge D stay g tif te N r τ2 (gu G4 D (.lst (ys++[y])))|_=>False) else qge D stay g tif te N r τ2 G3
def qac (D:Addr) (stay:Gp->Prop) (g:TG3) (tif:TT3) (wi2:TI3) (g2:TG3) (tif2:TT3) (te:TE3) (q:Q3):List T->St3->Gp->Prop
 |[],_,G=>stay G/\q (.ref D) G
 |x::r,τ,G=>stay G/\g x τ G λτ2 G2=>tif τ2 G2 λk G3=>
  if k=true then wi2 τ2 G3 λitems2 stay2 G4=>qge D stay2 g2 tif2 te (λτ' G'=>qac D stay g tif wi2 g2 tif2 te q r τ' G') items2 τ2 G4 else qac D stay g tif wi2 g2 tif2 te q r τ2 G3
def qk3 (wi:TI3) (g:TG3) (tif:TT3) (wi2:TI3) (g2:TG3) (tif2:TT3) (te:TE3) (m:List (Option Nat)):TE3:=λτ G q=>wi τ G λitems stay G1=>∀ D,G1 D=none->qac D stay g tif wi2 g2 tif2 te q items (cap m τ) (gu G1 D (.lst []))
section
variable {K:Frg}
def qfT {wi2:TI3} {g2:TG3} {tif2:TT3} {te:TE3} {D:Addr} {N3:St3->Gp->Prop} {N:L2.St->Hp->Prop} {τ:St3} {G:Gp} {σ:L2.St} {H:Hp} {Gb:Gp} {Hb:Hp} (rl:Rel K τ G σ H) (kb:Kp Gb Hb G H) (h:wi2 τ G λitems stay G1=>qge D stay g2 tif2 te N3 items τ G1)
  (hN:∀ τ' G' σ' H',Rel K τ' G' σ' H'->Kp Gb Hb G' H'->N3 τ' G'->N σ' H'):tIn (lI K wi2) (lG K g2) (lT K tif2) (lE K te) D N σ H:=by
 refine ⟨τ,G,_,rl,h,λitems stay G1 h1 J H1 hr1 k1 ok=>?_⟩;refine ⟨λi n σ' H'=>n=items.length-i/\i<=items.length/\∃ τ' G',Rel K τ' G' σ' H'/\Kp G1 H1 G' H'/\qge D stay g2 tif2 te N3 (items.drop i) τ' G',⟨_,rfl,Nat.zero_le _,τ,G1,rl.next hr1 k1,Kp.refl,by simpa using h1⟩,?_⟩;rintro i n σ' H' ⟨rfl,hi,τ',G',rl',k',h'⟩;by_cases hlt:i<items.length
 ·rw [List.drop_eq_getElem_cons hlt] at h';obtain ⟨hst,h'⟩:=h';obtain ⟨go,yld,_⟩:=ok G' H' rl'.hp k' hst;have hx:items[i]?=some items[i]:=getElem?_eq_getElem hlt;refine .inr ⟨go i _ hx,λv H2 y=>?_⟩;obtain ⟨rv,hr2,k2⟩:=yld i _ v H2 hx y;refine ⟨_,τ',G',_,rv,rl'.next hr2 k2,h',λτ3 G3 h3 σ3 H3 rl3 k3=>⟨τ3,G3,_,rl3,h3,λk G4 h4 H4 hr4 k4=>?_⟩⟩;have kk:=(k2.trans k3).trans k4;cases k with
  |false=>
   rw [if_neg Bool.false_ne_true] at h4;refine qle ?_;exact ⟨_,by omega,rfl,hlt,τ3,G4,rl3.next hr4 k4,k'.trans kk,h4⟩
  |true=>
   rw [if_pos rfl] at h4;refine qk7 ?_;refine ⟨τ3,G4,_,rl3.next hr4 k4,h4,λz G5 h5 w H5 rw5 hr5 k5=>?_⟩;split at h5
   ·rename_i ys e1;obtain ⟨vs,g1,r1⟩:=hr5.lst e1;exact ⟨vs,g1,by rw [← r1.length];exact h5.1,_,by omega,rfl,hlt,τ3,_,((rl3.next hr4 k4).next hr5 k5).next (hr5.wr e1 (r1.append (.cons rw5 .nil))) (Kp.wr e1),((k'.trans kk).trans k5).trans (Kp.wr e1),h5.2⟩
   ·exact h5.elim
 ·have e:i=items.length:=by omega
  subst e;rw [List.drop_length] at h';obtain ⟨_,_,stop⟩:=ok G' H' rl'.hp k' h'.1;exact .inl ⟨stop,hN _ _ _ _ rl' ((kb.trans k1).trans k') h'.2⟩
end
section
variable {X:Cx}
def qlQ {elt tg iter t2 i2:Expr} {ifs f2:List Expr} {scope:Scope} {pos:Pos} (N':List Str) (m:List (Option Nat)) {wi:TI3} {g:TG3} {tif:TT3} {wi2:TI3} {g2:TG3} {tif2:TT3} {te:TE3} (hc:X.calm=true) (hi:I3 X tg iter wi)
  (hg:∀ s H fp,G3 (qj X N' scope s H fp) tg g) (hf:∀ s H fp,F3 (qj X N' scope s H fp) ifs tif) (hi2:∀ s H fp,I3 (qj X N' scope s H fp) t2 i2 wi2) (hg2:∀ s H fp,G3 (qj X N' scope s H fp) t2 g2) (hf2:∀ s H fp,F3 (qj X N' scope s H fp) f2 tif2) (he:∀ s H fp,E3 (qj X N' scope s H fp) elt te)
  (hsc:LX X.env.scope scope=true) (hcap:YK X.N N' scope m=true) (hs:∀ x,foldedSetIterable iter X.env x=pure x:=by intro _;rfl) (hs2:∀ s H fp x,foldedSetIterable i2 (qj X N' scope s H fp).env x=pure x:=by intro _ _ _ _;rfl) :
  E3 X (.ListComp elt [⟨tg,iter,ifs,0⟩,⟨t2,i2,f2,0⟩] scope pos) (qk3 wi g tif wi2 g2 tif2 te m):=
 U3 (qhK (g:=lG X.K g) (tif:=lT X.K tif) (wi2:=lI X.K wi2) (g2:=lG X.K g2) (tif2:=lT X.K tif2) (te:=lE X.K te) hc hi hg hf hi2 hg2 hf2 he hsc hcap hs hs2) λσ H Q ⟨τ,G,q,rl,h,af⟩=>by
  refine ⟨τ,G,_,rl,h,λitems stay G1 h1 J H1 hr1 k1 ok D hD=>?_⟩;have gD:G1 D=none:=hr1.free hD;have h1:=h1 D gD;have hr1':HR X.K (gu G1 D (.lst [])) (upd H1 D (.lst [])):=HR.newL hr1 hD .nil;have k1':Kp G1 H1 (gu G1 D (.lst [])) (upd H1 D (.lst [])):=Kp.newL hD;refine ⟨λi n σ' H'=>n=items.length-i/\i<=items.length/\∃ τ' G',Rel X.K τ' G' σ' H'/\Kp G1 H1 G' H'/\qac D stay g tif wi2 g2 tif2 te q (items.drop i) τ' G',
   ⟨_,rfl,Nat.zero_le _,cap m τ,_,((rl.next hr1 k1).cap m).next hr1' k1',k1',by simpa using h1⟩,?_⟩
  rintro i n σ' H' ⟨rfl,hi,τ',G',rl',k',h'⟩;by_cases hlt:i<items.length
  ·rw [List.drop_eq_getElem_cons hlt] at h';obtain ⟨hst,h'⟩:=h';obtain ⟨go,yld,_⟩:=ok G' H' rl'.hp k' hst;have hx:items[i]?=some items[i]:=getElem?_eq_getElem hlt;refine .inr ⟨go i _ hx,λv H2 y=>?_⟩;obtain ⟨rv,hr2,k2⟩:=yld i _ v H2 hx y;refine ⟨_,τ',G',_,rv,rl'.next hr2 k2,h',λτ3 G3 h3 σ3 H3 rl3 k3=>⟨τ3,G3,_,rl3,h3,λk G4 h4 H4 hr4 k4=>?_⟩⟩;have kk:=(k2.trans k3).trans k4;cases k with
   |false=>
    rw [if_neg Bool.false_ne_true] at h4;refine qle ?_;exact ⟨_,by omega,rfl,hlt,τ3,G4,rl3.next hr4 k4,k'.trans kk,h4⟩
   |true=>
    rw [if_pos rfl] at h4;refine qk7 ?_;exact qfT (rl3.next hr4 k4) (k'.trans kk) h4 λτ5 G5 σ5 H5 rl5 k5 h5=>⟨_,by omega,rfl,hlt,τ5,G5,rl5,k5,h5⟩
  ·have e:i=items.length:=by omega
   subst e;rw [List.drop_length] at h';obtain ⟨_,_,stop⟩:=ok G' H' rl'.hp k' h'.1;exact .inl ⟨stop,af _ _ h'.2 _ H' (.ref D) rl'.hp (k1.trans k')⟩
def qjb {elt tg iter t2 i2:Expr} {ifs f2:List Expr} {scope:Scope} {pos:Pos} (N':List Str) (m:List (Option Nat)) {wi:TI3} {g:TG3} {tif:TT3} {wi2:TI3} {g2:TG3} {tif2:TT3} {te:TE3} (hc:X.calm=true) (hi:jI3 X tg iter wi)
  (hg:∀ s H fp,jG3 (qj X N' scope s H fp) tg g) (hf:∀ s H fp,jF3 (qj X N' scope s H fp) ifs tif) (hi2:∀ s H fp,jI3 (qj X N' scope s H fp) t2 i2 wi2) (hg2:∀ s H fp,jG3 (qj X N' scope s H fp) t2 g2) (hf2:∀ s H fp,jF3 (qj X N' scope s H fp) f2 tif2) (he:∀ s H fp,jE3 (qj X N' scope s H fp) elt te)
  (hsc:LX X.env.scope scope=true) (hcap:YK X.N N' scope m=true) (hs:∀ x,foldedSetIterable iter X.env x=pure x:=by intro _;rfl) (hs2:∀ s H fp x,foldedSetIterable i2 (qj X N' scope s H fp).env x=pure x:=by intro _ _ _ _;rfl) :
  jE3 X (.ListComp elt [⟨tg,iter,ifs,0⟩,⟨t2,i2,f2,0⟩] scope pos) (qk3 wi g tif wi2 g2 tif2 te m):=
 ⟨qlQ N' m hc hi.h (λs H fp=>(hg s H fp).h) (λs H fp=>(hf s H fp).h) (λs H fp=>(hi2 s H fp).h) (λs H fp=>(hg2 s H fp).h) (λs H fp=>(hf2 s H fp).h) (λs H fp=>(he s H fp).h) hsc hcap hs hs2⟩
end
section
variable {X:Cx}
def JY:∀ {its:List Value} {ns:List Int},zj (ns.map V.int) its->IntsAre its ns
 |_,[],h=>by cases h;exact .nil
 |_,n::ns,h=>by
  cases h with
  |cons r t=>
   obtain ⟨k,rfl⟩:=r;exact .cons n k (JY t)
def M8:∀ {its:List Value} {ns:List Int},IntsAre its ns->zj (ns.map V.int) its
 |_,_,.nil=>.nil
 |_,_,.cons n t h=>.cons ⟨t,rfl⟩ (M8 h)
def KZ {K:Frg} {H:Hp}:∀ (ns:List Int),Rps K H (ns.map T.int) (ns.map V.int)
 |[]=>.nil
 |n::ns=>.cons (.int n) (KZ ns)
end
section
variable {X:Cx} {tg a b c:Expr} {pos:Pos}
end
section
variable {X:Cx}
end
section
variable {X:Cx} {a b:Expr} {ta tb:TE3} {pos:Pos}
structure ShW (d:PyData):Prop where
 sh:d.showable=true
 nd:d.hasDict=false
 dp:d.depth<=40
 fit:d.shown.length<=sizeLine
def ShOk.w {d:PyData} (h:ShOk d):ShW d:=⟨h.sh,h.nd,h.dp,PyData.shown_fits_bulk (by decide) (by decide) h.lv h.bk⟩
def MZ (hg:X.A.guards=some []) (hu:X.A.units+64<cLine):JM X (.type "str") (λxs H Q=>∃ a d,xs=[.ref a]/\DV X.K H (.ref a) d/\ShW d/\Q (.str d.shown) H):=by
 intro pins s σ H xs us Q I r h;obtain ⟨a,d,rfl,dv,ok,q⟩:=h;obtain ⟨u,rfl,rp⟩:=W4 r;cases (show u=Value.ref a from rp);obtain ⟨as,rd⟩:=dv.reads I (show jk (.ref a) (.ref a) from rfl);refine str_of_reads rd ok.sh (PyData.noDict_hsm ok.nd) hg (by have:=ok.dp;omega) (λ_ _ e=>e) (λh' u tk hk=>?_) ok.fit;exact ⟨.str _,H,I.kept (h':=h') (t':=tk) hk,⟨_,rfl⟩,q⟩
def shV (st:Bool):V->Hp->(Str->Prop)->Prop:=λv H q=>match v with
 |.non=>q (Str.ofString "None")
 |.bl b=>q (if b=true then Str.ofString "True" else Str.ofString "False")
 |.int i=>i.natAbs.log2<1920/\q (Str.ofString (toString i))
 |.str x=>if st then q x else (reprText x).length<=sizeLine/\q (reprText x)
 |.ref a=>∃ d,DV X.K H (.ref a) d/\ShW d/\q d.shown
 |_=>False
def DL (hg:X.A.guards=some []) (hu:X.A.units+64<cLine):JM X (.type "str") (λxs H Q=>∃ v,xs=[v]/\shV (X:=X) true v H λx=>Q (.str x) H):=by
 intro pins s σ H xs us Q I r h;obtain ⟨v,rfl,h⟩:=h;obtain ⟨u,rfl,rp⟩:=W4 r;cases v with
 |non=>cases (show u=Value.none from rp);exact P.str_of_none ⟨.str _,H,I.tok _,⟨_,rfl⟩,h⟩
 |bl b=>cases (show u=Value.bool b from rp);exact P.str_of_bool ⟨.str _,H,I.tok _,⟨_,rfl⟩,h⟩
 |int i=>obtain ⟨t,rfl⟩:=(show ∃ t,u=Value.int i t from rp);exact P.str_of_int h.1 ⟨.str _,H,I.tok _,⟨_,rfl⟩,h.2⟩
 |str x=>obtain ⟨t,rfl⟩:=(show ∃ t,u=Value.str x t from rp);exact P.str_of_str ⟨.str _,H,I,⟨_,rfl⟩,h⟩
 |ref a=>
  obtain ⟨d,dv,ok,q⟩:=h;exact MZ hg hu _ _ _ _ _ _ _ I r ⟨a,d,rfl,dv,ok,q⟩
 |_=>exact h.elim
def shT (st:Bool):T->Gp->(Str->Prop)->Prop:=λx G q=>match x with
 |.non=>q (Str.ofString "None")
 |.bl b=>q (if b=true then Str.ofString "True" else Str.ofString "False")
 |.int i=>i.natAbs.log2<1920/\q (Str.ofString (toString i))
 |.str x=>if st then q x else (reprText x).length<=sizeLine/\q (reprText x)
 |.tup _=>∃ d,Dp G x d/\ShW d/\q d.shown
 |.ref _=>∃ d,Dp G x d/\ShW d/\q d.shown
def M5 (st:Bool):List T->Gp->Q3->Prop:=λxs G q=>match xs with
 |[x]=>shT st x G λy=>q (.str y) G
 |_=>False
def TR {st:Bool}:LB X.K (M5 st) (λxs H Q=>∃ v,xs=[v]/\shV (X:=X) st v H λx=>Q (.str x) H):=λxs vs G H q Q hr rs h af=>by
 unfold M5 at h;split at h
 ·rename_i x;obtain ⟨v,rfl,r⟩:=CL rs;refine ⟨v,rfl,?_⟩;cases r with
  |non=>exact af _ G h _ H (.str _) hr Kp.refl
  |bl b=>exact af _ G h _ H (.str _) hr Kp.refl
  |int i=>exact ⟨h.1,af _ G h.2 _ H (.str _) hr Kp.refl⟩
  |str x=>
   cases st with
   |true=>exact af _ G h _ H (.str _) hr Kp.refl
   |false=>exact ⟨h.1,af _ G h.2 _ H (.str _) hr Kp.refl⟩
  |tup hs r2=>
   obtain ⟨d,h1,h2,h3⟩:=h;exact ⟨d,h1.dv hr (.tup hs r2),h2,af _ G h3 _ H (.str _) hr Kp.refl⟩
  |ref a=>
   obtain ⟨d,h1,h2,h3⟩:=h;exact ⟨d,h1.dv hr (.ref a),h2,af _ G h3 _ H (.str _) hr Kp.refl⟩
 ·exact h.elim
def qbj:OpR X (binaryOp .Add) (λx y H Q=>∃ a b ys,x=.ref a/\y=.ref b/\SqT X.K H a []/\SqT X.K H b ys/\Q (.ref b) H):=by
 intro pins s σ H x y v u Q I rx ry h;obtain ⟨a,b,ys,rfl,rfl,ha,hb,q⟩:=h;cases rx;cases ry;obtain ⟨its,r1,p1,_⟩:=I.tuple ha;obtain ⟨its2,r2,p2,_⟩:=I.tuple hb;cases r1;obtain ⟨⟨cls,dd,data,sl⟩,ho,hc,n,hd⟩:=id p1;obtain ⟨⟨cls2,dd2,data2,sl2⟩,ho2,hc2,n2,hd2⟩:=id p2;simp only at hc hd hc2 hd2;subst hc hd hc2 hd2;exact concat_meets ⟨_,ho,rfl⟩ ⟨_,ho2,rfl⟩ noFill_tuple_add seq_tuple_add PySem.F.slot_tuple_add PySem.F.entry_tuple_add (PySem.F.args_tuple_add_2 _ _)
   (tuple_addW0 a b #[] its2.toArray n n2 dd dd2 sl sl2 rfl) ⟨ho,ho2,⟨.ref b,H,I,rfl,q⟩⟩
def QW:R3:=λx y G q=>match x,y with
 |.tup xs,.tup ys=>xs.length+ys.length<=sizeLine/\q (.tup (xs++ys)) G
 |.ref a,.ref b=>(match G a,G b with|some (.lst xs),some (.lst ys)=>xs.length+ys.length<=sizeLine/\∀ p,G p=none->q (.ref p) (gu G p (.lst (xs++ys)))|_,_=>False)
 |.int i,.int j=>q (.int (i+j)) G
 |_,_=>False
def qcf:DI X.K QW (λx y H Q=>((rI0 (λi j=>.int (i+j)) x y H Q\/qeq X.K x y H Q)\/qmY x y H Q)\/∃ a b ys,x=.ref a/\y=.ref b/\SqT X.K H a []/\SqT X.K H b ys/\Q (.ref b) H):=λx y v u G H q Q hr rx ry h af=>by
 cases x with
 |tup xs=>
  cases y with
  |tup ys=>
   cases xs with
   |nil=>
    cases rx with
    |tup hs rs=>
     cases rs;cases ry with
     |tup hs' rs'=>exact .inr ⟨_,_,_,rfl,rfl,hs,hs',af _ G h.2 _ H (.tup hs' rs') hr Kp.refl⟩
   |cons x xs=>exact .inl (XB _ _ v u G H q Q hr rx ry ⟨by simp,h⟩ af)
  |_=>exact h.elim
 |ref a=>
  cases y with
  |ref b=>exact .inl (XB (.ref a) (.ref b) v u G H q Q hr rx ry h af)
  |_=>exact h.elim
 |int i=>
  cases y with
  |int j=>exact .inl (XB (.int i) (.int j) v u G H q Q hr rx ry h af)
  |_=>exact h.elim
 |_=>exact h.elim
def zf (ha:jE3 X a ta) (hb:jE3 X b tb):jE3 X (.BinOp a .Add b pos) (o3 QW ta tb):=⟨qbK (((qcF.or qaW).or qdV).or qbj) qcf ha.h hb.h⟩
def UP {prog:Program} {w:World} {A:Around} {E:Value->Shared->Prop} {s:Shared} {t sl:Addr} {items:Array Value} {vl vu:Value} {lo hi:Option Int} {Q:Value->Shared->Prop} (ht:IsTup s.heap t items) (hs:s.heap.IsSliceOf sl vl vu .none) (pl:IsPart vl lo) (pu:IsPart vu hi)
  (hw:HT.sIx items.size 0 lo=0/\HT.sIx items.size items.size hi=items.size) (h:Q (.ref t) s):wpAny (model prog w) A (getItem (.ref t) (.ref sl)) Q E s:=by
 obtain ⟨os,hos,hcs,hds⟩:=id hs;have hTs:s.TypeIs (.ref sl) "slice" := ⟨os,hos,hcs⟩
 unfold getItem
 try with_reducible refine wpAny_holding ?_
 first|refine wpAny_bind (wpAny_pure ?_)|skip
 refine wpAny_bind (wpAny_sequenceKey ht.typeIs (by decide) ?_);refine wpAny_bind (wpAny_callSpecial?_slot (name:=Str.ofString "__getitem__") ht.typeIs PyProof.Rows.slot_tuple_getitem
  (wpAny_call_entry PyProof.Rows.slot_tuple_getitem ht.typeIs entry_tuple_getitem ?_ (args_tuple_getitem _ _)))
 show wpAny _ _ (Builtin.Tuple.tupleItemsOf (.ref t) >>= _) _ _ s;refine wpAny_bind (tupleItemsOf_ ht ?_);refine wpAny_bind (wpAny_typeOf hTs ?_);rw [if_pos (by decide)];refine wpAny_bind (HT.ZZ hs pl pu ?_);have hyes:(((HT.sIx items.size 0 lo:Nat):Int)==0&&(1:Int)==1&&(HT.sIx items.size items.size hi-HT.sIx items.size 0 lo)==items.size)=true:=by
  rw [hw.1,hw.2];simp
 show wpAny _ _ (if (((HT.sIx items.size 0 lo:Nat):Int)==0&&(1:Int)==1&&(HT.sIx items.size items.size hi-HT.sIx items.size 0 lo)==items.size)=true then _ else _) _ _ s;rw [if_pos hyes];unfold Builtin.Tuple.tupleIsExact;refine wpAny_bind (wpAny_bind (wpAny_typeOf ht.typeIs (wpAny_pure ?_)));rw [if_pos (by decide)];refine wpAny_bind (wpAny_rule ?_);exact wpAny_pure ⟨_,rfl,wpAny_pure h⟩
def qoO (K:Frg):V->Option Int->Option Int->Hp->VK->Prop:=λx lo hi H Q=>∃ a xs,x=.ref a/\SqT K H a xs/\(HT.sIx xs.length 0 lo=0/\HT.sIx xs.length xs.length hi=xs.length)/\Q (.ref a) H
def qby:SlR X (qoO X.K):=by
 intro pins s σ H x v vl vu lo hi sl Q I rx hs pl pu h;obtain ⟨a,xs,rfl,hx,hw,q⟩:=h;cases rx;obtain ⟨its,r,ht,hz⟩:=I.tuple hx;have hlen:its.toArray.size=xs.length:=by rw [size_toArray];exact r.length.symm
 refine ⟨"tuple",_,PyProof.Rows.slot_tuple_getitem.lookup,ht.typeIs,?_⟩;exact UP ht hs pl pu (by rw [hlen];exact hw) ⟨.ref a,H,I,rfl,q⟩
def ql4:T->Option Int->Option Int->Gp->Q3->Prop:=λx lo hi G q=>match x with
 |.tup xs=>q (.tup (V3 xs lo hi)) G
 |.ref p=>(match getL G p with|some xs=>∀ a,G a=none->q (.ref a) (gu G a (.lst (V3 xs lo hi)))|none=>False)
 |_=>False
def VU (te:TE3) (tl th:TO3):TE3:=λτ G q=>te τ G λx G1=>tl τ G1 λl G2=>th τ G2 λu G3=>ql4 x l u G3 q
def zt {e:Expr} {te:TE3} {lo hi:Option Expr} {tl th:TO3} {p2:Pos} (he:jE3 X e te) (hl:jP3 X lo tl) (hu:jP3 X hi th):jE3 X (.Subscript e (.Slice lo hi none p2) pos) (VU te tl th):=
 ⟨U3 (qbB ((qh6.or qgb).or qby) he.h hl.h hu.h) λ_ _ _ ⟨τ,G,q,rl,h,af⟩=>zl rl h λx G1 h1 v H1 rx hr1 k1 rl1=>
  ⟨τ,G1,_,rl1,h1,λl G2 h2 H2 hr2 k2=>⟨τ,G2,_,rl1.next hr2 k2,h2,λu G3 h3 H3 hr3 k3=>by
   have kk:=(k1.trans k2).trans k3;have rx3:=(rx.keep hr1 k2).keep hr2 k3;cases x<;>try exact h3.elim
   case tup xs=>
    cases rx3 with
    |tup hs rs=>
     by_cases hw:HT.sIx xs.length 0 l=0/\HT.sIx xs.length xs.length u=xs.length
     ·refine .inr ⟨_,_,rfl,hs,by rw [← rs.length];exact hw,?_⟩;have e:V3 xs l u=xs:=by unfold V3;rw [hw.1,hw.2];simp
      have h4:q (.tup (V3 xs l u)) G3:=h3;rw [e] at h4;exact af _ G3 h4 _ _ (.tup hs rs) hr3 kk
     ·refine .inl (.inl ⟨_,_,rfl,hs,by rw [← rs.length];exact hw,λp hp=>?_⟩);exact af _ G3 h3 _ _ (.tup (SqT.of qJ) ((rs.cut _ _).keep hr3 (Kp.laid hp))) (hr3.laid hp) (kk.trans (Kp.laid hp))
   case ref p=>
    unfold ql4 at h3;simp only at h3;split at h3
    ·rename_i xs e0;cases rx3;obtain ⟨vs,hs,rs⟩:=zK hr3 e0;refine .inl (.inr ⟨p,vs,rfl,hs,λa ha=>?_⟩);exact af _ _ (h3 a (hr3.free ha)) _ _ (.ref a) (hr3.newL ha (rs.cut _ _)) (kk.trans (Kp.newL ha))
    ·exact h3.elim⟩⟩⟩
end
end L3
namespace HT
open PySem PySem.Spec PyProof.Rows
section
variable {prog:Program} {w:World} {A:Around} {E:Value->Shared->Prop} {s:Shared}
def LG (n:Nat):Builtin.Slice.sliceAdjust none none (-1) (n:Int)=((n:Int)-1,-1):=rfl
def LP (n:Nat):Builtin.Slice.slicePlaces ((n:Int)-1) (-1) (-1)=n:=by
 unfold Builtin.Slice.slicePlaces;rw [if_neg (by decide)];have e:- (-1:Int)=1:=by decide
 rw [e,Int.ediv_one];split<;>omega
def U2 {sl:Addr} {vk:Value} {n:Nat} {Q:Int×Int×Nat->Shared->Prop} (hs:s.heap.IsSliceOf sl .none .none vk) (pk:IsPart vk (some (-1)))
  (h:Q ((n:Int)-1,-1,n) s):wpAny (model prog w) A (Builtin.Slice.sliceApplied (.ref sl) (pure (n:Int))) Q E s:=by
 obtain ⟨os,hos,hcs,hds⟩:=id hs;unfold Builtin.Slice.sliceApplied Builtin.Slice.sliceFields;refine wpAny_bind (wpAny_bind (wpAny_field hos hds (x:=.none) rfl (wpAny_bind (wpAny_field hos hds (x:=.none) rfl (wpAny_bind (wpAny_field hos hds (x:=vk) rfl (wpAny_pure ?_)))))));refine wpAny_bind (V6 pk ?_);show wpAny _ _ (if ((-1:Int)==0)=true then _ else _) _ _ s;rw [if_neg (by decide)];refine wpAny_bind (slicePart_none (wpAny_bind (slicePart_none (wpAny_bind (wpAny_pure ?_)))));show wpAny _ _ (match Builtin.Slice.sliceAdjust none none (-1) (n:Int) with|(lo,hi)=>pure (lo,(-1:Int),Builtin.Slice.slicePlaces lo hi (-1))) _ _ s;rw [LG n];show wpAny _ _ (pure ((n:Int)-1,(-1:Int),Builtin.Slice.slicePlaces ((n:Int)-1) (-1) (-1))) _ _ s;rw [LP];exact wpAny_pure h
def KA {α β:Type} {f g:α->Option β}:∀ {l:List α},(∀ x∈l,f x=g x)->l.filterMap f=l.filterMap g
 |[],_=>rfl
 |x::l,h=>by rw [List.filterMap_cons,List.filterMap_cons,h x (by simp),KA λy hy=>h y (by simp [hy])]
def qci (xs:Array Value):((List.range xs.size).filterMap λ(m:Nat)=>xs[((xs.size:Int)-1+(m:Int)*(-1)).toNat]?).toArray=xs.toList.reverse.toArray:=by
 congr 1;have e:((List.range xs.size).filterMap λ(m:Nat)=>xs[((xs.size:Int)-1+(m:Int)*(-1)).toNat]?)=(List.range xs.size).filterMap λ(m:Nat)=>xs.toList.reverse[m]?:=by
  refine KA λm hm=>?_;have hm:=mem_range.mp hm;have h1:((xs.size:Int)-1+(m:Int)*(-1)).toNat=xs.size-1-m:=by omega
  rw [h1,List.getElem?_reverse (by simpa using hm),Array.getElem?_toList,Array.length_toList]
 rw [e];have l:xs.size=xs.toList.reverse.length:=by simp
 rw [l];generalize xs.toList.reverse=ys;clear e l;induction ys with
 |nil=>rfl
 |cons y ys ih=>
  rw [length_cons,List.range_succ_eq_map,List.filterMap_cons];simp only [getElem?_cons_zero,List.filterMap_map];congr 1
def V9 {t sl:Addr} {items:Array Value} {vk:Value} {Q:Value->Shared->Prop} (ht:IsTup s.heap t items) (hs:s.heap.IsSliceOf sl .none .none vk) (pk:IsPart vk (some (-1)))
  (h:Q (.ref s.heap.objs.size) { s with heap:=s.heap.push { cls:=.type "tuple",data:=.seq items.toList.reverse.toArray } })
  (hsz:items.size<=sizeLine):wpAny (model prog w) A (getItem (.ref t) (.ref sl)) Q E s:=by
 have htake:sizeOk (.seq items.toList.reverse.toArray):=by
  show items.toList.reverse.toArray.size<=sizeLine;rw [size_toArray,List.length_reverse,Array.length_toList];exact hsz
 obtain ⟨os,hos,hcs,hds⟩:=id hs;have hTs:s.TypeIs (.ref sl) "slice" := ⟨os,hos,hcs⟩
 unfold getItem
 try with_reducible refine wpAny_holding ?_
 first|refine wpAny_bind (wpAny_pure ?_)|skip
 refine wpAny_bind (wpAny_sequenceKey ht.typeIs (by decide) ?_);refine wpAny_bind (wpAny_callSpecial?_slot (name:=Str.ofString "__getitem__") ht.typeIs PyProof.Rows.slot_tuple_getitem
  (wpAny_call_entry PyProof.Rows.slot_tuple_getitem ht.typeIs entry_tuple_getitem ?_ (args_tuple_getitem _ _)))
 show wpAny _ _ (Builtin.Tuple.tupleItemsOf (.ref t) >>= _) _ _ s;refine wpAny_bind (tupleItemsOf_ ht ?_);refine wpAny_bind (wpAny_typeOf hTs ?_);rw [if_pos (by decide)];refine wpAny_bind (U2 hs pk ?_);show wpAny _ _ (if ((((items.size:Int)-1)==0&&(-1:Int)==1&&items.size==items.size)=true) then _ else _) _ _ s;rw [if_neg (by intro q;rw [Bool.and_eq_true,Bool.and_eq_true] at q;exact absurd q.1.2 (by decide)),qci]
 first
  |exact wpAny_bind (m:=Builtin.Tuple.tupleExact _) (wpAny_newObj_type (wpAny_pure ⟨_,rfl,wpAny_pure h⟩) htake)
  |exact wpAny_bind (m:=Builtin.Tuple.tupleExact _) (wpAny_newObj_type (wpAny_bind (wpAny_pure (wpAny_pure ⟨_,rfl,wpAny_pure h⟩))) htake)
  |exact wpAny_bind (wpAny_bind (m:=Builtin.Tuple.tupleExact _) (wpAny_newObj_type (wpAny_pure (wpAny_pure ⟨_,rfl,wpAny_pure h⟩)) htake))
  |exact wpAny_bind (wpAny_bind (m:=Builtin.Tuple.tupleExact _) (wpAny_newObj_type (wpAny_pure ⟨_,rfl,wpAny_pure h⟩) htake))
end
end HT
namespace L3
open PySem PySem.Spec PyProof.Rows L2
section
variable {X:Cx} {e ek:Expr} {p2 pos:Pos}
def qoY (K:Frg) (te:TE) (tk:TO):TE:=λσ H Q=>te σ H λx H1=>tk σ H1 λk H2=>k=some (-1)/\((∃ a xs,x=.ref a/\SqL K H2 a xs/\∀ p,H2 p=none->Q (.ref p) (upd H2 p (.lst xs.reverse)))\/(∃ a xs,x=.ref a/\SqT K H2 a xs/\∀ p,H2 p=none->Q (.ref p) (upd H2 p (.tup xs.reverse))))
def qka {te:TE} {tk:TO} (he:PE X e te) (hk:PO X (some ek) tk) {ops:Value->Value->List Value} (hs:∀ v w,subscripted (.Slice none none (some ek) p2) false v w=operate (ops v w) (getItem v w)):PE X (.Subscript e (.Slice none none (some ek) p2) pos) (qoY X.K te tk):=by
 intro pins s σ H Q I h;refine Subscript_ (thn (he pins s σ H _ I h) λv s1 ⟨x,H1,I1,r1,q1⟩=>?_);refine wpAny_Slice ?_;rw [evalPart_none];refine wpAny_pure ?_;refine wpAny_pure ?_;refine thn (hk pins s1 σ H1 _ I1 q1) λvk s3 ⟨k,H3,I3,pk,q3⟩=>?_;obtain ⟨rfl,q3⟩:=q3;have I4:Inv X pins σ H3 { s3 with heap:=s3.heap.push { cls:=.type "slice",data:=.fields #[.none,.none,vk] } }:=I3.kept (t':=s3.toks) λb ob q=>Heap.get?_push_of_some _ q;rcases q3 with ⟨a,xs,rfl,hx,q⟩|⟨a,xs,rfl,hx,q⟩
 ·cases r1;obtain ⟨its,r,ht,hz⟩:=I4.list hx;have hlen:=r.length;show wpAny (model X.prog X.w) X.A (subscriptTail e (.Slice none none (some ek) p2) (.ref a) (.ref s3.heap.objs.size)) (EP X pins σ Q) X.xe { s3 with heap:=s3.heap.push { cls:=.type "slice",data:=.fields #[.none,.none,vk] } };refine tail_any (ops:=ops (.ref a) (.ref s3.heap.objs.size)) (T:="list") ht.isList.typeIs slot_list_getitem.lookup ?_ (hs _ _);refine wpAny_getItem_list_slice ht.isList (Heap.IsSliceOf.new ..) .none .none pk (by decide) ?_ (by rw [size_toArray]<;>omega);rw [PySem.W.krv_pick];refine ⟨.ref _,_,I4.laid (t':=s3.toks) (o:=.lst xs.reverse) (λb ob q=>Heap.get?_push_of_some _ q) (Nat.le_refl _) ?_,rfl,q _ (I4.hok.fresh (Nat.le_refl _))⟩;exact ⟨by rw [List.length_reverse];exact hz,_,0,r.reverse,Heap.get?_push_size _ rfl⟩
 ·cases r1;obtain ⟨its,r,ht,hz⟩:=I4.tuple hx;have hlen:its.toArray.size=xs.length:=by rw [size_toArray];exact r.length.symm
  show wpAny (model X.prog X.w) X.A (subscriptTail e (.Slice none none (some ek) p2) (.ref a) (.ref s3.heap.objs.size)) (EP X pins σ Q) X.xe { s3 with heap:=s3.heap.push { cls:=.type "slice",data:=.fields #[.none,.none,vk] } };refine tail_any (ops:=ops (.ref a) (.ref s3.heap.objs.size)) (T:="tuple") ht.typeIs PyProof.Rows.slot_tuple_getitem.lookup ?_ (hs _ _);refine HT.V9 ht (Heap.IsSliceOf.new ..) pk ?_ (by rw [hlen];exact hz);refine ⟨.ref _,_,I4.laid (t':=s3.toks) (o:=.tup xs.reverse) (λb ob q=>Heap.get?_push_of_some _ q) (Nat.le_refl _) ?_,rfl,q _ (I4.hok.fresh (Nat.le_refl _))⟩;exact ⟨by rw [List.length_reverse];exact hz,_,r.reverse,JH.new _ _⟩
def qlA (te:TE3) (tk:TO3):TE3:=λτ G q=>te τ G λx G1=>tk τ G1 λk G2=>k=some (-1)/\(match x with|.tup xs=>q (.tup xs.reverse) G2|.ref p=>(match getL G2 p with|some xs=>∀ a,G2 a=none->q (.ref a) (gu G2 a (.lst xs.reverse))|none=>False)|_=>False)
def qhC {te:TE3} {tk:TO3} (he:jE3 X e te) (hk:jP3 X (some ek) tk) {ops:Value->Value->List Value} (hs:∀ v w,subscripted (.Slice none none (some ek) p2) false v w=operate (ops v w) (getItem v w)):jE3 X (.Subscript e (.Slice none none (some ek) p2) pos) (qlA te tk):=
 ⟨U3 (qka he.h hk.h hs) λ_ _ _ ⟨τ,G,q,rl,h,af⟩=>zl rl h λx G1 h1 v H1 rx hr1 k1 rl1=>
  ⟨τ,G1,_,rl1,h1,λk G2 h2 H2 hr2 k2=>by
   obtain ⟨hk,h2⟩:=h2;have rx2:=rx.keep hr1 k2;cases x<;>try exact h2.elim
   case tup xs=>
    cases rx2 with
    |tup hs' rs=>exact ⟨hk,.inr ⟨_,_,rfl,hs',λp hp=>af _ G2 h2 _ _ (.tup (SqT.of qJ) ((SX rs).keep hr2 (Kp.laid hp))) (hr2.laid hp) ((k1.trans k2).trans (Kp.laid hp))⟩⟩
   case ref p=>
    simp only at h2;split at h2
    ·rename_i xs e0;cases rx2;obtain ⟨vs,hs',rs⟩:=zK hr2 e0;exact ⟨hk,.inl ⟨p,vs,rfl,hs',λa ha=>af _ _ (h2 a (hr2.free ha)) _ _ (.ref a) (hr2.newL ha (SX rs)) ((k1.trans k2).trans (Kp.newL ha))⟩⟩
    ·exact h2.elim⟩⟩
end
section
variable {X:Cx} {a b:Expr} {ta tb:TE3} {pos:Pos}
def nbT:T->Option Int
 |.int i=>some i
 |.bl k=>some (if k=true then 1 else 0)
 |_=>none
def nbV:V->Option Int
 |.int i=>some i
 |.bl k=>some (if k=true then 1 else 0)
 |_=>none
def qeu {K:Frg} {H:Hp} {x:T} {v:V} {i:Int} (r:Rp K H x v) (h:nbT x=some i):nbV v=some i:=by
 cases r<;>first|exact h|cases h
end
abbrev Rd (sp:Sp3) (n:Nat) (t:TS3) (N:List Str):Prop:=∀ ts G q,sp ts G q->ts.length=n/\t { nx:=λ_ G'=>q .non G',rt:=q } (qE N ts) G
def jgn {pos:Pos} {X:Cx} {x:Str} (i:Nat) (hN:decide X.N.Nodup=true:=by kernel_rfl) (hi:X.N[i]?=some x:=by rfl) (hx:Loc X.env.scope x:=by first|exact Or.inl rfl|exact Or.inr rfl) (hf:X.fn x=true\/X.env.scope.names.lookup x=some .local:=by first|exact .inl rfl|exact .inr rfl):jG3 X (.Name x pos) (gn3 i):=
 zd (of_decide_eq_true hN) hi hx hf
end L3
namespace L2
open PySem PySem.Spec PyProof.Rows
section
variable {X:Cx} {pos:Pos}
end
end L2
namespace L3
open PySem PySem.Spec PyProof.Rows L2
section
variable {X:Cx} {pos:Pos}
end
end L3
namespace HT
open PySem PyProof.Rows
section
variable {prog:Program} {w:World} {A:Around} {E:Value->Shared->Prop} {s:Shared}
end
end HT
namespace L3
open PySem PySem.Spec PyProof.Rows L2
section
variable {X:Cx}
end
def IsZ (h:Heap) (z ti to:Addr) (f0 f1:Value):Prop:=h.get? z=some { cls:=.type "zip",data:=.fields #[f0,f1,.bool false,.ref ti,.ref to] }
def F0 (f0:Value):Prop:=f0=.none\/∃ n:Nat,f0=rawInt n
def MY {prog:Program} {w:World} {A:Around} {E:Value->Shared->Prop} {s:Shared} {a:Addr} {Q:Option Obj->Shared->Prop} (h:Q (s.heap.get? a) s):wpAny (model prog w) A (loadIfAlive a) Q E s:=λ_ _ _=>h
section
variable {P:Program} {w:World} {A:Around} {s:Shared} {z ti to i1 i2 c1 c2:Addr} {S1 S2:Nat->Heap->Prop} {H1 H2:Array Value->Heap->Prop} {k1 k2:Nat} {xs ys:Array Value} {x y a b f0 f1:Value} {E:Value->Shared->Prop}
def TV {Q:Bool->Shared->Prop} (hz:IsZ s.heap z ti to f0 f1) (hf:F0 f0) (hA:Q true s) (hB:∀ h' f1',IsZ h' z ti to f0 f1'->Heap.SameBut z s.heap h'->Q false { s with heap:=h' }) :
  wpAny (model P w) A (Builtin.SmallTypes.ownedTupleIsFree (.ref z)) Q E s:=by
 unfold Builtin.SmallTypes.ownedTupleIsFree;rcases hf with rfl|⟨n,rfl⟩
 ·exact wpAny_bind (wpAny_field hz rfl (x:=Value.none) rfl (wpAny_pure hA))
 ·refine wpAny_bind (wpAny_field hz rfl (x:=rawInt n) rfl ?_);show wpAny _ _ (loadIfAlive ((n:Int)).toNat >>= _) _ _ _;refine wpAny_bind (MY ?_);cases e:s.heap.get? ((n:Int)).toNat with
  |none=>exact wpAny_ite_true rfl (wpAny_pure hA)
  |some o=>
   refine wpAny_ite_false rfl ?_;refine wpAny_bind (wpAny_field hz rfl (x:=f1) rfl ?_);by_cases c:(f1 != Value.bool true)=true
   ·rw [if_pos c];refine wpAny_bind (wpAny_setField_rec hz (by simp) λg1 z1 s1=>?_);exact wpAny_pure (hB g1 _ z1 s1)
   ·rw [if_neg c];exact wpAny_pure (hB s.heap f1 hz ⟨rfl,λ_ _=>rfl⟩)
def N0 {Q:Value->Shared->Prop} (R1:Src P w i1 c1 S1 H1) (R2:Src P w i2 c2 S2 H2) (D:ZA z ti to i1 i2 c1 c2) (hz:IsZ s.heap z ti to f0 f1) (hf:F0 f0) (hi:IsPair s.heap ti (.ref i1) (.ref i2)) (ho:IsPair s.heap to a b)
  (p1:S1 k1 s.heap) (p2:S2 k2 s.heap) (l1:H1 xs s.heap) (l2:H2 ys s.heap) (hx:xs[k1]?=some x) (hy:ys[k2]?=some y)
  (hQ:∀ h',(∃ f0' f1',IsZ h' z ti to f0' f1'/\F0 f0')->(∃ a b,IsPair h' to a b)->S1 (k1+1) h'->S2 (k2+1) h'->IsPair h' s.heap.objs.size x y->(∀ c o,c∉[z,to,i1,i2]->s.heap.get? c=some o->h'.get? c=some o)->Q (.ref s.heap.objs.size) { s with heap:=h' }) :
  wpAny (model P w) A (Builtin.«zip.__next__» ⟨[.ref z],[]⟩) (λfin s'=>∃ v,fin=.done (.ret v)/\Q v s') E s:=by
 have ne:=D.ne;simp only [List.nodup_cons,mem_cons,not_mem_nil,not_or,or_false] at ne;obtain ⟨⟨n1,n2,n3,n4⟩,⟨n5,n6,n7⟩,⟨n8,n9⟩,n10,_⟩:=ne;have a1:=D.a1;have a2:=D.a2;simp only [mem_cons,not_mem_nil,not_or,or_false] at a1 a2;obtain ⟨q1,q2,q3,q4⟩:=a1;obtain ⟨r1,r2,r3,r4⟩:=a2;refine wpAny_bind (m:=field (.ref z) 2) (wpAny_field hz rfl (x:=.bool false) rfl ?_);refine wpAny_bind (m:=field (.ref z) 3) (wpAny_field hz rfl (x:=.ref ti) rfl ?_);refine wpAny_bind (wpAny_seqItems hi rfl ?_);refine wpAny_bind (m:=Builtin.SmallTypes.ownedTupleIsFree (.ref z)) (TV hz hf ?_ λg0 f1' z0 s0=>?_)
 ·simp only [if_true];refine wpAny_bind (wpAny_rule (wpAny_bind (wpAny_field hz rfl (x:=.ref to) rfl (wpAny_bind (wpAny_setField_rec hz (by simp) λg1 z1 s1=>?_)))))
  replace z1:IsZ g1 z ti to Value.ellipsis f1:=z1
  refine wpAny_bind ?_;simp only [List.zipIdx_cons,List.zipIdx_nil,List.forIn_cons,List.forIn_nil];refine wpAny_bind (wpAny_bind (wpAny_onRaise (wpAny_bind (m:=Builtin.SmallTypes.nextOf (.ref i1)) ?_)));refine R1.item (R1.keep p1 λo e=>s1.extBut _ _ (Ne.symm n3) e) (R1.hkeep l1 λo e=>s1.extBut _ _ q1 e) hx λg2 p12 s2=>wpAny_pure ?_;have t2:IsPair g2 to a b:=s2.extBut _ _ n8 (s1.extBut _ _ (Ne.symm n2) ho);refine wpAny_bind (wpAny_seqItems t2 rfl (wpAny_bind (wpAny_updateSeq_pair t2 λg3 t3 s3=>?_)))
  replace t3:IsPair g3 to x b:=t3
  refine wpAny_bind (wpAny_letGo (wpAny_pure (wpAny_bind (wpAny_bind (wpAny_onRaise (wpAny_bind (m:=Builtin.SmallTypes.nextOf (.ref i2)) ?_))))));refine R2.item (R2.keep p2 λo e=>s3.extBut _ _ (Ne.symm n9) (s2.extBut _ _ (Ne.symm n10) (s1.extBut _ _ (Ne.symm n4) e))) (R2.hkeep l2 λo e=>s3.extBut _ _ r2 (s2.extBut _ _ r3 (s1.extBut _ _ r1 e))) hy λg4 p24 s4=>wpAny_pure ?_;have t4:IsPair g4 to x b:=s4.extBut _ _ n9 t3;refine wpAny_bind (wpAny_seqItems t4 rfl (wpAny_bind (wpAny_updateSeq_pair t4 λg5 t5 s5=>?_)))
  replace t5:IsPair g5 to x y:=t5
  refine wpAny_bind (wpAny_letGo (wpAny_pure (wpAny_pure (wpAny_bind (wpAny_seqItems t5 rfl (wpAny_bind (wpAny_newTuple ?_)))))));have sz:g5.objs.size=s.heap.objs.size:=by rw [s5.1,s4.1,s3.1,s2.1,s1.1]
  have z5:IsZ g5 z ti to Value.ellipsis f1:=s5.extBut _ _ n2 (s4.extBut _ _ n4 (s3.extBut _ _ n2 (s2.extBut _ _ n3 z1)));have kk:∀ c o,c∉[z,to,i1,i2]->s.heap.get? c=some o->g5.get? c=some o:=λc o hc e=>by
   simp only [mem_cons,not_mem_nil,not_or,or_false] at hc;exact s5.extBut _ _ hc.2.1 (s4.extBut _ _ hc.2.2.2 (s3.extBut _ _ hc.2.1 (s2.extBut _ _ hc.2.2.1 (s1.extBut _ _ hc.1 e))))
  have p15:S1 (k1+1) g5:=R1.keep p12 λo e=>s5.extBut _ _ (Ne.symm n8) (s4.extBut _ _ n10 (s3.extBut _ _ (Ne.symm n8) e));have p25:S2 (k2+1) g5:=R2.keep p24 λo e=>s5.extBut _ _ (Ne.symm n9) e;have zlt:z<g5.objs.size:=Heap.lt_size z5;refine wpAny_bind (m:=Builtin.SmallTypes.ownedTupleHandOut (.ref z) (.ref g5.objs.size)) ?_;unfold Builtin.SmallTypes.ownedTupleHandOut;have z6:IsZ (g5.push { cls:=.type "tuple",data:=.seq #[x,y] }) z ti to Value.ellipsis f1:=Heap.get?_push_of_some _ z5;refine wpAny_bind (wpAny_setField_rec z6 (by simp) λg7 z7 s7=>?_);refine wpAny_setField_rec z7 (by simp) λg8 z8 s8=>?_;have up:∀ c o,c≠z->g5.get? c=some o->g8.get? c=some o:=λc o hc e=>s8.extBut _ _ hc (s7.extBut _ _ hc (Heap.get?_push_of_some _ e));have t8:IsPair g8 g5.objs.size x y:=s8.extBut _ _ (Nat.ne_of_gt zlt) (s7.extBut _ _ (Nat.ne_of_gt zlt) (Heap.get?_push_size _ rfl));rw [sz] at t8;refine wpAny_pure ⟨_,rfl,?_⟩;show Q (Value.ref g5.objs.size) _;rw [sz];exact hQ g8 ⟨_,_,z8,.inr ⟨_,rfl⟩⟩ ⟨_,_,up _ _ (Ne.symm n2) t5⟩ (R1.keep p15 λo e=>up _ o (Ne.symm n3) e) (R2.keep p25 λo e=>up _ o (Ne.symm n4) e) t8 λc o hc e=>up c o (λq=>hc (by simp [q])) (kk c o hc e)
 ·refine wpAny_ite_false rfl ?_;refine wpAny_bind ?_;simp only [List.forIn_toArray,List.forIn_cons,List.forIn_nil];refine wpAny_bind (wpAny_bind (wpAny_holding (wpAny_bind (m:=Builtin.SmallTypes.nextOf (.ref i1)) ?_)));refine R1.item (R1.keep p1 λo e=>s0.extBut _ _ (Ne.symm n3) e) (R1.hkeep l1 λo e=>s0.extBut _ _ q1 e) hx λg2 p12 s2=>wpAny_pure ?_;refine wpAny_pure ?_;refine wpAny_bind (wpAny_bind (wpAny_holding (wpAny_bind (m:=Builtin.SmallTypes.nextOf (.ref i2)) ?_)));refine R2.item (R2.keep p2 λo e=>s2.extBut _ _ (Ne.symm n10) (s0.extBut _ _ (Ne.symm n4) e)) (R2.hkeep l2 λo e=>s2.extBut _ _ r3 (s0.extBut _ _ r1 e)) hy λg4 p24 s4=>wpAny_pure ?_;refine wpAny_pure (wpAny_pure ?_);have sz:g4.objs.size=s.heap.objs.size:=by rw [s4.1,s2.1,s0.1]
  refine wpAny_bind (wpAny_newTuple ?_ (by show 2<=sizeLine;decide));have up:∀ c o,g4.get? c=some o->(g4.push { cls:=.type "tuple",data:=.seq #[x,y] }).get? c=some o:=λc o e=>Heap.get?_push_of_some _ e;have z4:IsZ g4 z ti to f0 f1':=s4.extBut _ _ n4 (s2.extBut _ _ n3 z0);have t8:IsPair (g4.push { cls:=.type "tuple",data:=.seq #[x,y] }) g4.objs.size x y:=Heap.get?_push_size _ rfl;rw [sz] at t8;refine wpAny_pure ⟨_,rfl,?_⟩;show Q (Value.ref g4.objs.size) _;rw [sz];refine hQ _ ⟨_,_,up _ _ z4,hf⟩ ⟨_,_,up _ _ (s4.extBut _ _ n9 (s2.extBut _ _ n8 (s0.extBut _ _ (Ne.symm n2) ho)))⟩ (R1.keep p12 λo e=>up _ o (s4.extBut _ _ n10 e)) (R2.keep p24 λo e=>up _ o e) t8 λc o hc e=>?_;simp only [mem_cons,not_mem_nil,not_or,or_false] at hc;exact up _ o (s4.extBut _ _ hc.2.2.2 (s2.extBut _ _ hc.2.2.1 (s0.extBut _ _ hc.1 e)))
def qcm {Q:Fin->Shared->Prop} (hh:A.handled=none) (R1:Src P w i1 c1 S1 H1) (R2:Src P w i2 c2 S2 H2) (D:ZA z ti to i1 i2 c1 c2) (hz:IsZ s.heap z ti to f0 f1) (hf:F0 f0) (hi:IsPair s.heap ti (.ref i1) (.ref i2)) (ho:IsPair s.heap to a b)
  (p1:S1 k1 s.heap) (p2:S2 k2 s.heap) (l1:H1 xs s.heap) (l2:H2 ys s.heap) (hend:xs[k1]?=none\/ys[k2]?=none)
  (hE:∀ h' e,(∀ c o,c∉[z,to,i1,i2]->s.heap.get? c=some o->h'.get? c=some o)->(∃ o,h'.get? e=some o/\o.cls=.type "StopIteration")->E (.ref e) { s with heap:=h' }) :
  wpAny (model P w) A (Builtin.«zip.__next__» ⟨[.ref z],[]⟩) Q E s:=by
 have ne:=D.ne;simp only [List.nodup_cons,mem_cons,not_mem_nil,not_or,or_false] at ne;obtain ⟨⟨n1,n2,n3,n4⟩,⟨n5,n6,n7⟩,⟨n8,n9⟩,n10,_⟩:=ne;have a1:=D.a1;have a2:=D.a2;simp only [mem_cons,not_mem_nil,not_or,or_false] at a1 a2;obtain ⟨q1,q2,q3,q4⟩:=a1;obtain ⟨r1,r2,r3,r4⟩:=a2;refine wpAny_bind (m:=field (.ref z) 2) (wpAny_field hz rfl (x:=.bool false) rfl ?_);refine wpAny_bind (m:=field (.ref z) 3) (wpAny_field hz rfl (x:=.ref ti) rfl ?_);refine wpAny_bind (wpAny_seqItems hi rfl ?_);refine wpAny_bind (m:=Builtin.SmallTypes.ownedTupleIsFree (.ref z)) (TV hz hf ?_ λg0 f1' z0 s0=>?_)
 ·simp only [if_true];refine wpAny_bind (wpAny_rule (wpAny_bind (wpAny_field hz rfl (x:=.ref to) rfl (wpAny_bind (wpAny_setField_rec hz (by simp) λg1 z1 s1=>?_)))))
  replace z1:IsZ g1 z ti to Value.ellipsis f1:=z1
  refine wpAny_bind ?_;simp only [List.zipIdx_cons,List.zipIdx_nil,List.forIn_cons,List.forIn_nil];refine wpAny_bind (wpAny_bind (wpAny_onRaise (wpAny_bind (m:=Builtin.SmallTypes.nextOf (.ref i1)) ?_)));cases hx:xs[k1]? with
  |none=>
   refine R1.done hh (R1.keep p1 λo e=>s1.extBut _ _ (Ne.symm n3) e) (R1.hkeep l1 λo e=>s1.extBut _ _ q1 e) hx λg2 e s2 ⟨oe,he,ce⟩=>?_;have z2:IsZ g2 z ti to Value.ellipsis f1:=s2 _ _ n3 z1;have ez:e≠z:=λq=>by subst q;rw [z2] at he;cases he;simp at ce
   refine wpAny_setField_rec z2 (by simp) λg3 _ s3=>hE g3 e (λc o hc q=>?_) ⟨oe,s3.extBut _ _ ez he,ce⟩;simp only [mem_cons,not_mem_nil,not_or,or_false] at hc;exact s3.extBut _ _ hc.1 (s2 _ _ hc.2.2.1 (s1.extBut _ _ hc.1 q))
  |some x=>
   have hy:ys[k2]?=none:=by rcases hend with q|q;rw [hx] at q;cases q;exact q
   refine R1.item (R1.keep p1 λo e=>s1.extBut _ _ (Ne.symm n3) e) (R1.hkeep l1 λo e=>s1.extBut _ _ q1 e) hx λg2 p12 s2=>wpAny_pure ?_;have t2:IsPair g2 to a b:=s2.extBut _ _ n8 (s1.extBut _ _ (Ne.symm n2) ho);refine wpAny_bind (wpAny_seqItems t2 rfl (wpAny_bind (wpAny_updateSeq_pair t2 λg3 t3 s3=>?_)));refine wpAny_bind (wpAny_letGo (wpAny_pure (wpAny_bind (wpAny_bind (wpAny_onRaise (wpAny_bind (m:=Builtin.SmallTypes.nextOf (.ref i2)) ?_))))));refine R2.done hh (R2.keep p2 λo e=>s3.extBut _ _ (Ne.symm n9) (s2.extBut _ _ (Ne.symm n10) (s1.extBut _ _ (Ne.symm n4) e))) (R2.hkeep l2 λo e=>s3.extBut _ _ r2 (s2.extBut _ _ r3 (s1.extBut _ _ r1 e))) hy λg4 e s4 ⟨oe,he,ce⟩=>?_;have z4:IsZ g4 z ti to Value.ellipsis f1:=s4 _ _ n4 (s3.extBut _ _ n2 (s2.extBut _ _ n3 z1));have ez:e≠z:=λq=>by subst q;rw [z4] at he;cases he;simp at ce
   refine wpAny_setField_rec z4 (by simp) λg5 _ s5=>hE g5 e (λc o hc q=>?_) ⟨oe,s5.extBut _ _ ez he,ce⟩;simp only [mem_cons,not_mem_nil,not_or,or_false] at hc;exact s5.extBut _ _ hc.1 (s4 _ _ hc.2.2.2 (s3.extBut _ _ hc.2.1 (s2.extBut _ _ hc.2.2.1 (s1.extBut _ _ hc.1 q))))
 ·refine wpAny_ite_false rfl ?_;refine wpAny_bind ?_;simp only [List.forIn_toArray,List.forIn_cons,List.forIn_nil];refine wpAny_bind (wpAny_bind (wpAny_holding (wpAny_bind (m:=Builtin.SmallTypes.nextOf (.ref i1)) ?_)));cases hx:xs[k1]? with
  |none=>
   refine R1.done hh (R1.keep p1 λo e=>s0.extBut _ _ (Ne.symm n3) e) (R1.hkeep l1 λo e=>s0.extBut _ _ q1 e) hx λg2 e s2 oe=>hE g2 e (λc o hc q=>?_) oe;simp only [mem_cons,not_mem_nil,not_or,or_false] at hc;exact s2 _ _ hc.2.2.1 (s0.extBut _ _ hc.1 q)
  |some x=>
   have hy:ys[k2]?=none:=by rcases hend with q|q;rw [hx] at q;cases q;exact q
   refine R1.item (R1.keep p1 λo e=>s0.extBut _ _ (Ne.symm n3) e) (R1.hkeep l1 λo e=>s0.extBut _ _ q1 e) hx λg2 p12 s2=>wpAny_pure ?_;refine wpAny_pure ?_;refine wpAny_bind (wpAny_bind (wpAny_holding (wpAny_bind (m:=Builtin.SmallTypes.nextOf (.ref i2)) ?_)));refine R2.done hh (R2.keep p2 λo e=>s2.extBut _ _ (Ne.symm n10) (s0.extBut _ _ (Ne.symm n4) e)) (R2.hkeep l2 λo e=>s2.extBut _ _ r3 (s0.extBut _ _ r1 e)) hy λg4 e s4 oe=>hE g4 e (λc o hc q=>?_) oe;simp only [mem_cons,not_mem_nil,not_or,or_false] at hc;exact s4 _ _ hc.2.2.2 (s2.extBut _ _ hc.2.2.1 (s0.extBut _ _ hc.1 q))
end
def qbC (b1 b2:Bool) (z ti to i1 i2 c1 c2:Addr) (k:Nat) (h:Heap):Prop:=
 (∃ f0 f1,IsZ h z ti to f0 f1/\F0 f0)/\IsPair h ti (.ref i1) (.ref i2)/\(∃ a b,IsPair h to a b)/\LI b1 i1 c1 k h/\LI b2 i2 c2 k h
section
variable {P:Program} {w:World} {A:Around} {s:Shared} {E:Value->Shared->Prop}
def MP {b1 b2:Bool} {z ti to i1 i2 c1 c2:Addr} {k:Nat} {xs ys:Array Value} {x y:Value} {Q:Option Value->Shared->Prop} (D:ZA z ti to i1 i2 c1 c2) (st:qbC b1 b2 z ti to i1 i2 c1 c2 k s.heap) (l1:WO b1 c1 xs s.heap) (l2:WO b2 c2 ys s.heap) (hx:xs[k]?=some x) (hy:ys[k]?=some y)
  (hQ:∀ h',(∃ f0 f1,IsZ h' z ti to f0 f1/\F0 f0)->IsPair h' ti (.ref i1) (.ref i2)->(∃ a b,IsPair h' to a b)->LI b1 i1 c1 (k+1) h'->LI b2 i2 c2 (k+1) h'->IsPair h' s.heap.objs.size x y->(∀ c o,c∉[z,to,i1,i2]->s.heap.get? c=some o->h'.get? c=some o)->Q (some (.ref s.heap.objs.size)) { s with heap:=h' }) :
  wpAny (model P w) A (pyNext (.ref z)) Q E s:=by
 obtain ⟨⟨f0,f1,hz,hf⟩,hi,⟨a,b,ho⟩,p1,p2⟩:=st;have ty:s.TypeIs (.ref z) "zip" := ⟨_,hz,rfl⟩
 have nti:ti∉[z,to,i1,i2]:=by
  have ne:=D.ne;simp only [List.nodup_cons,mem_cons,not_mem_nil,not_or,or_false] at ne ⊢;exact ⟨Ne.symm ne.1.1,ne.2.1.1,ne.2.1.2.1,ne.2.1.2.2⟩
 unfold pyNext;exact wpAny_bind (wpAny_attempt (wpAny_callSpecial?_slot (name:=Str.ofString "__next__") ty F.slot_zip_next (wpAny_call_entry F.slot_zip_next ty F.entry_zip_next
  (N0 (qH b1 i1 c1) (qH b2 i2 c2) D hz hf hi ho p1 p2 l1 l2 hx hy λh' u1 u2 u3 u4 u5 u6=>wpAny_pure (hQ h' u1 (u6 _ _ nti hi) u2 u3 u4 u5 u6)) (F.args_zip_next_1 _))))
def XO {b1 b2:Bool} {z ti to i1 i2 c1 c2:Addr} {k:Nat} {xs ys:Array Value} {Q:Option Value->Shared->Prop} (hh:A.handled=none) (D:ZA z ti to i1 i2 c1 c2) (st:qbC b1 b2 z ti to i1 i2 c1 c2 k s.heap) (l1:WO b1 c1 xs s.heap) (l2:WO b2 c2 ys s.heap) (hend:xs[k]?=none\/ys[k]?=none)
  (hQ:∀ h',(∀ c o,c∉[z,to,i1,i2]->s.heap.get? c=some o->h'.get? c=some o)->Q none { s with heap:=h' }):wpAny (model P w) A (pyNext (.ref z)) Q E s:=by
 obtain ⟨⟨f0,f1,hz,hf⟩,hi,⟨a,b,ho⟩,p1,p2⟩:=st;have ty:s.TypeIs (.ref z) "zip" := ⟨_,hz,rfl⟩
 unfold pyNext;refine wpAny_bind (wpAny_attempt (wpAny_callSpecial?_slot (name:=Str.ofString "__next__") ty F.slot_zip_next (wpAny_call_entry F.slot_zip_next ty F.entry_zip_next
  (qcm hh (qH b1 i1 c1) (qH b2 i2 c2) D hz hf hi ho p1 p2 l1 l2 hend λh' e hk ⟨o,q1,q2⟩=>?_) (F.args_zip_next_1 _))))
 exact wpAny_bind (wpAny_isInstance (T:="StopIteration") (b:=true) ⟨o,q1,q2⟩ isSubtype_stop (wpAny_pure (hQ _ hk)))
end
def NV {P:Program} {w:World} {K:Frg} {nm:Str} {pt:Pos} {b1 b2:Bool} {z ti to i1 i2 c1 c2:Addr} (D:ZA z ti to i1 i2 c1 c2):Turn P w K (.Name nm pt) (Itz K b1 b2 c1 c2) [z,ti,to,i1,i2] z (qbC b1 b2 z ti to i1 i2 c1 c2) where
 mem:=by simp
 obj:=λi h ⟨⟨f0,f1,hz,hf⟩,hi,⟨a,b,ho⟩,p1,p2⟩ c hc=>by
  simp only [mem_cons,not_mem_nil,or_false] at hc;rcases hc with rfl|rfl|rfl|rfl|rfl
  ·exact ⟨_,hz,λv q=>by cases q⟩
  ·exact ⟨_,hi,λv q=>by cases q⟩
  ·exact ⟨_,ho,λv q=>by cases q⟩
  ·exact (qH (P:=P) (w:=w) b1 c c1).obj p1
  ·exact (qH (P:=P) (w:=w) b2 c c2).obj p2
 keep:=λi h h' ⟨⟨f0,f1,hz,hf⟩,hi,⟨a,b,ho⟩,p1,p2⟩ k=>
  ⟨⟨f0,f1,k z (by simp) _ hz,hf⟩,k ti (by simp) _ hi,⟨a,b,k to (by simp) _ ho⟩,(qH (P:=P) (w:=w) b1 i1 c1).keep p1 λo e=>k i1 (by simp) o e,(qH (P:=P) (w:=w) b2 i2 c2).keep p2 λo e=>k i2 (by simp) o e⟩
 item:=by
  intro X hP hw hK hc i pins s σ H E I hf st hg;subst hP hw hK;obtain ⟨xs,ys,x,y,sq1,sq2,hx,hy⟩:=hg;obtain ⟨its1,rv1,l1,z1⟩:=sq1.get I;obtain ⟨its2,rv2,l2,z2⟩:=sq2.get I;obtain ⟨u1,hu1,ru1⟩:=rv1.get hx;obtain ⟨u2,hu2,ru2⟩:=rv2.get hy;refine MP D st l1 l2 (x:=u1) (y:=u2) (by simpa using hu1) (by simpa using hu2) λh' hz hi ho p1 p2 hp hk=>?_;have hfr:H s.heap.objs.size=none:=I.fresh;have free:∀ b∈[z,ti,to,i1,i2],H b=none:=λb hb=>(hf b hb).1;refine ⟨_,rfl,wpAny_pure ?_⟩;have zlt:z<s.heap.objs.size:=by obtain ⟨⟨f0,f1,hz0,hf0⟩,_⟩:=st;exact Heap.lt_size hz0
  have hp2:IsPair h' s.heap.objs.size u1 u2:=hp;have ne:=D.ne;simp only [List.nodup_cons,mem_cons,not_mem_nil,not_or,or_false] at ne;have up:∀ c o,c≠z->h'.get? c=some o->h'.get? c=some o:=λc o hc e=>e;have kk:∀ c o,c∉[z,to,i1,i2]->s.heap.get? c=some o->h'.get? c=some o:=λc o hc e=>up c o (λq=>hc (by simp [q])) (hk c o hc e);have I3:Inv X pins σ (upd H s.heap.objs.size (.tup [x,y])) { s with heap:=h' }:=by
   refine I.step (g':=s.gens) (d':=s.drawn) (t':=s.toks) (ch:=[z,to,i1,i2]) (λb hb=>?_) (λb o _ _ hcb e _=>kk b o hcb e) (λb o _ _ hcb e _=>⟨o.slots,kk b o hcb e⟩) (λb o _ e n=>by rw [qq (Nat.ne_of_lt (Heap.lt_size e))];exact n) (λb o hcb e=>⟨o,kk b o hcb e⟩)
    (λb _ e=>by rw [qq (qo e hfr)];exact e) (λb _ _ e=>by rw [qq (qo e hfr)];exact e) (λb ps e=>⟨#[],by rw [qq (qo e hfr),e];simp⟩) (λm hm=>?_) (λb u e=>?_) I.bare
   ·obtain ⟨f0,f1,f2,f3,f4,f5⟩:=hf b (by simp only [mem_cons,not_mem_nil,or_false] at hb ⊢;rcases hb with q|q|q|q<;>simp [q]);exact ⟨f3,f1,f4,f5⟩
   ·obtain ⟨o,es',ep,ho',r⟩:=hm;refine ⟨o,es',ep,kk _ o (λq=>?_) ho',r⟩;obtain ⟨f0,f1,_⟩:=hf X.env.locals (by simp only [mem_cons,not_mem_nil,or_false] at q ⊢;rcases q with q|q|q|q<;>simp [q]);exact f1 rfl
   ·by_cases hb:b=s.heap.objs.size
    ·subst hb;rw [qJ] at e;cases e;exact ⟨by show 2<=sizeLine;decide,[u1,u2],.cons ru1 (.cons ru2 .nil),⟨_,hp2,rfl,_,rfl,rfl⟩⟩
    ·rw [qq hb] at e;refine (I.hok b u e).stay (λc v hcb q=>kk c v (λm=>?_) q) (λ_ q=>by rw [qq (qo q hfr)];exact q) λ_ _ q=>by rw [qq (qo q hfr)];exact q
     have hn:=free c (by simp only [mem_cons,not_mem_nil,or_false] at m ⊢;rcases m with q|q|q|q<;>simp [q]);rcases hcb with q|q
     ·rw [q] at hn;rw [hn] at e;cases e
     ·rw [hn] at q;cases q
  refine ⟨.ref s.heap.objs.size,_,I3,rfl,⟨_,x,y,hfr,rfl,rfl,λzs q=>by rw [q.inj I sq1];exact hx,λzs q=>by rw [q.inj I sq2];exact hy⟩,⟨hz,up _ _ (Ne.symm ne.1.1) hi,let ⟨a,b,q⟩:=ho;⟨a,b,up _ _ (Ne.symm ne.1.2.1) q⟩,(qH (P:=X.prog) (w:=X.w) b1 i1 c1).keep p1 λo e=>up _ o (Ne.symm ne.1.2.2.1) e,(qH (P:=X.prog) (w:=X.w) b2 i2 c2).keep p2 λo e=>up _ o (Ne.symm ne.1.2.2.2) e⟩,λb hb=>?_⟩;rw [qq (λq=>?_)]
  ·exact free b hb
  ·subst q;obtain ⟨_,hi0,⟨a0,b0,ho0⟩,q1,q2⟩:=st;simp only [mem_cons,not_mem_nil,or_false] at hb;rcases hb with q|q|q|q|q
   ·exact absurd q (Nat.ne_of_gt zlt)
   ·exact absurd q (Nat.ne_of_gt (Heap.lt_size hi0))
   ·exact absurd q (Nat.ne_of_gt (Heap.lt_size ho0))
   ·obtain ⟨o,e,_⟩:=(qH (P:=X.prog) (w:=X.w) b1 i1 c1).obj q1;exact absurd q (Nat.ne_of_gt (Heap.lt_size e))
   ·obtain ⟨o,e,_⟩:=(qH (P:=X.prog) (w:=X.w) b2 i2 c2).obj q2;exact absurd q (Nat.ne_of_gt (Heap.lt_size e))
 done:=by
  intro X hP hw hK hc i pins s σ H E I hf st hg;subst hP hw hK;obtain ⟨xs,ys,sq1,sq2,hend⟩:=hg;obtain ⟨its1,rv1,l1,z1⟩:=sq1.get I;obtain ⟨its2,rv2,l2,z2⟩:=sq2.get I;have e1:=rv1.length;have e2:=rv2.length;refine XO (I.ok.hd hc) D st l1 l2 (by rcases hend with q|q;exact .inl (by simp;omega);exact .inr (by simp;omega)) λh' hk=>⟨rfl,?_⟩
  have free:∀ b∈[z,ti,to,i1,i2],H b=none:=λb hb=>(hf b hb).1;refine I.step (g':=s.gens) (d':=s.drawn) (t':=s.toks) (ch:=[z,to,i1,i2]) (λb hb=>?_) (λb o _ _ hcb e _=>hk b o hcb e) (λb o _ _ hcb e _=>⟨o.slots,hk b o hcb e⟩) (λ_ _ _ _ n=>n) (λb o hcb e=>⟨o,hk b o hcb e⟩) (λ_ _ e=>e) (λ_ _ _ e=>e) (λb ps e=>⟨#[],by rw [e];simp⟩) (λm hm=>?_) (λb u e=>?_) I.bare
  ·obtain ⟨f0,f1,f2,f3,f4,f5⟩:=hf b (by simp only [mem_cons,not_mem_nil,or_false] at hb ⊢;rcases hb with q|q|q|q<;>simp [q]);exact ⟨f3,f1,f4,f5⟩
  ·obtain ⟨o,es',ep,ho',r⟩:=hm;refine ⟨o,es',ep,hk _ o (λq=>?_) ho',r⟩;obtain ⟨f0,f1,_⟩:=hf X.env.locals (by simp only [mem_cons,not_mem_nil,or_false] at q ⊢;rcases q with q|q|q|q<;>simp [q]);exact f1 rfl
  ·refine (I.hok b u e).stay (λc v hcb q=>hk c v (λm=>?_) q) (λ_ q=>q) λ_ _ q=>q;have hn:=free c (by simp only [mem_cons,not_mem_nil,or_false] at m ⊢;rcases m with q|q|q|q<;>simp [q]);rcases hcb with q|q
   ·rw [q] at hn;rw [hn] at e;cases e
   ·rw [hn] at q;cases q
 self:=λA i s Q E st h=>by
  obtain ⟨⟨f0,f1,hz,hf⟩,_⟩:=st;have hT:s.TypeIs (.ref z) "zip" := ⟨_,hz,rfl⟩
  exact wpAny_pyIter_slot hT F.slot_zip_iter (wpAny_call_entry F.slot_zip_iter hT F.entry_zip_iter (wpAny_pure ⟨.ref z,rfl,"zip",.builtin "zip.__next__",hT,F.slot_zip_next.lookup,h⟩) (F.args_zip_iter_1 _))
section
variable {X:Cx} {a b e l:Expr} {es:List Expr} {pos:Pos} {t:TA3}
def qfF {p pt:Pos} {nm:Str} {ta:TA} (hg:Gl X "zip") (hm:X.mg "zip" = none) (ha:PA X [a,b] ta) (hs:starEach [a,b] X.env=[(false,eval a X.env),(false,eval b X.env)]:=by rfl) (hs2:starEach [b] X.env=[(false,eval b X.env)]:=by rfl) :
  PI X (.Name nm pt) (.Call (.Name "zip" p) [a,b] [] pos) (λσ H R=>ta σ H λvs H1=>∃ b1 b2 c1 c2 xs ys,vs=[.ref c1,.ref c2]/\SqB X.K b1 H1 c1 xs/\SqB X.K b2 H1 c2 ys/\R (Itz X.K b1 b2 c1 c2) H1):=by
 intro pins s σ H R I h;refine Call_ (YG I hg hm PyProof.Rows.boot_zip (PyProof.Rows.callWith_type1 (thn (ha pos pins s σ H _ I h) λus s1 ⟨vs,H1,I1,r1,q1⟩=>?_) (by rw [hs,hs2]) (by rw [hs2];rfl)));obtain ⟨b1,b2,c1,c2,xs,ys,rfl,sq1,sq2,q⟩:=q1;obtain ⟨u1,u2,rfl,e1,e2⟩:=K1 r1;cases (show u1=Value.ref c1 from e1);cases (show u2=Value.ref c2 from e2);obtain ⟨its1,rv1,l1,z1⟩:=sq1.get I1;obtain ⟨its2,rv2,l2,z2⟩:=sq2.get I1;refine T5 l1 l2 λh' st0 hk=>wpAny_pyIter_zip st0.1 ?_;refine ⟨s1.heap.objs.size+4,[s1.heap.objs.size+4,s1.heap.objs.size+2,s1.heap.objs.size+3,s1.heap.objs.size,s1.heap.objs.size+1],_,_,H1,rfl,I1.kept (t':=s1.toks) hk,NV (qda (N4 l1) (N4 l2)),(show qbC _ _ _ _ _ _ _ _ _ _ _ from ⟨⟨_,_,st0.1,.inl rfl⟩,st0.2⟩),λc hc=>?_,q⟩;have hle:s1.heap.objs.size<=c:=by
  simp only [mem_cons,not_mem_nil,or_false] at hc;rcases hc with rfl|rfl|rfl|rfl|rfl<;>first|exact Nat.le_refl _|exact Nat.le_add_right _ _
 exact I1.fpOk hle (I1.hok.fresh hle)
def qfX {p pt:Pos} {nm:Str} (hg:Gl X "zip") (hm:X.mg "zip" = none) (ha:jA3 X [a,b] t) (hs:starEach [a,b] X.env=[(false,eval a X.env),(false,eval b X.env)]:=by rfl) (hs2:starEach [b] X.env=[(false,eval b X.env)]:=by rfl) :
  jI3 X (.Name nm pt) (.Call (.Name "zip" p) [a,b] [] pos) (X6 t):=
 ⟨qgh (qfF hg hm ha.h hs hs2) λσ H R ⟨τ,G,r,rl,h,af⟩=>QR rl h λxs G1 h1 vs H1 rs hr1 k1 rl1=>by
  split at h1
  ·rename_i x y;split at h1
   ·rename_i us ws e1 e2;obtain ⟨v,u,rfl,r1,r2⟩:=qk4 rs;obtain ⟨b1,c1,rfl,f1⟩:=RD hr1 r1 e1;obtain ⟨b2,c2,rfl,f2⟩:=RD hr1 r2 e2;obtain ⟨p,sp,_⟩:=f1 G1 H1 hr1 Kp.refl e1;obtain ⟨q,sq,_⟩:=f2 G1 H1 hr1 Kp.refl e2;exact ⟨b1,b2,c1,c2,p,q,rfl,sp,sq,af _ _ G1 h1 _ H1 hr1 k1 (qc5 f1 f2)⟩
   ·exact h1.elim
  ·exact h1.elim⟩
end
end L3
namespace Tb8
open PySem PySem.SetTable
end Tb8
namespace Tb8
open PySem PyProof.Rows
section
variable {prog:Program} {w:World} {A:Around} {E:Value->Shared->Prop} {s:Shared}
end
end Tb8
namespace Tb8
open PySem PyProof.Rows PySem.SetTable
section
variable {prog:Program} {w:World} {A:Around} {E:Value->Shared->Prop} {s:Shared}
end
end Tb8
namespace Tb8
open PySem PySem.SetTable
end Tb8
namespace Tb8
open PySem PyProof.Rows PySem.SetTable
section
variable {prog:Program} {w:World} {A:Around} {E:Value->Shared->Prop} {s:Shared}
end
section
variable {prog:Program} {w:World} {A:Around} {R:Result->Shared->Prop} {I:Addr} {fp wr:List Addr} {n:Nat} {P:Nat->Value->Prop} {St:Nat->Heap->Prop}
end
section
variable {prog:Program} {w:World} {A:Around} {E:Value->Shared->Prop} {s:Shared}
end
end Tb8
namespace L3
open PySem PySem.Spec PyProof.Rows L2
section
variable {X:Cx}
end
end L3
namespace Tb8
open PySem PyProof.Rows PySem.SetTable
section
variable {prog:Program} {w:World} {A:Around} {E:Value->Shared->Prop} {s:Shared}
end
end Tb8
namespace L3
open PySem PySem.Spec PyProof.Rows L2
section
variable {X:Cx}
end
section
variable {X:Cx} {K:Frg} {w:World} {mg:Str->Option Value}
end
section
variable {X:Cx}
end
open PySem.SeqAt
section
variable {X:Cx} {pins:List (Addr×Obj)} {σ:L2.St} {H:Hp} {s:Shared}
end
end L3
namespace HT
open PySem PySem.Spec PyProof.Rows L2
section
open PySem.SeqAt
open PySem.MeetsSeq PySem.MeetsSeq2 PySem.MeetsSeq3
end
section
variable {prog:Program} {w:World} {A:Around} {E:Value->Shared->Prop} {s:Shared}
end
end HT
namespace L3
open PySem PySem.Spec PyProof.Rows L2
section
variable {X:Cx}
def qdL (K:Frg):V->List V->Hp->VK->Prop:=λx vs H Q=>∃ l ns k,x=.ref l/\vs=[.int k]/\SqL K H l (ns.map V.int)/\(PyData.list (List.map PyData.int ns)).layable0=true/\k∈ns/\Q (.int (List.idxOf k ns:Nat)) H
def qbh:MtR X "list.index" (qdL X.K):=by
 intro pins s σ H x vs v us Q I rx rv h;obtain ⟨l,ns,k,rfl,rfl,hq,hl,hk,q⟩:=h;cases rx;obtain ⟨u,rfl,ru⟩:=rv.one;obtain ⟨t,rfl⟩:=ru;obtain ⟨its,rv',pl,hz⟩:=I.list hq;exact index_list_ints pl.isList (JY rv') hl hk ⟨.int _,H,I.tok _,⟨_,rfl⟩,q⟩
def qgd:T->List T->Gp->Q3->Prop:=λx xs G q=>match x,xs with
 |.ref l,[.int k]=>(match getL G l with|some ys=>(match WY ys with|some ns=>(PyData.list (List.map PyData.int ns)).layable0=true/\k∈ns/\q (.int (List.idxOf k ns:Nat)) G|none=>False)|none=>False)
 |_,_=>False
def qe5 {K:Frg}:qk9 K qgd (qdL K):=λx xs v vs G H q Q hr rx rs h af=>by
 unfold qgd at h;split at h
 ·rename_i l k;split at h
  ·rename_i ys e0;split at h
   ·rename_i ns e1;cases rx;obtain ⟨u,rfl,r⟩:=CL rs;cases r;obtain ⟨us,hs,r2⟩:=zK hr e0;have:=EQ e1;subst this;have:=EK r2;subst this;exact ⟨l,ns,k,rfl,rfl,hs,h.1,h.2.1,af _ _ h.2.2 _ _ (.int _) hr Kp.refl⟩
   ·exact h.elim
  ·exact h.elim
 ·exact h.elim
def qbX {t:TA3} {e:Expr} {o:Expr} {to:TE3} {apos cpos:Pos} (ho:jE3 X o to) (ha:jA3 X [e] t)
  (hbase:attributeBase o "index" X.env (eval o X.env)=eval o X.env:=by rfl)
  (hfew:((backTo cpos (starEach [e] X.env)).all (λx=>!x.1)&&(backToKw cpos (keywordEach [] X.env)).all (λx=>x.1.isSome)
   && decide (([e]:List Expr).length+([]:List Keyword).length+(if ([]:List Keyword).isEmpty then 0 else 1)<30))=true:=by rfl)
  (hline:(apos.endLine==cpos.line)=true:=by rfl) (hs:starEach [e] X.env=(false,eval e X.env)::starEach [] X.env:=by rfl) (hplain:(backTo cpos (starEach [] X.env)).any (·.1)=false:=by rfl) :
  jE3 X (.Call (.Attribute o "index" apos) [e] [] cpos) (bm3 qgd to t):=⟨qny PySem.F.slot_list_index PySem.F.type_list_index qbh qe5 ho.h ha.h hbase hfew hline hs hplain⟩
end
end L3
namespace HT
open PySem PyProof.Rows
section
variable {prog:Program} {w:World} {A:Around} {R:Result->Shared->Prop} {I:Addr} {fp wr:List Addr} {n:Nat} {P:Nat->Value->Prop} {St:Nat->Heap->Prop}
end
section
variable {prog:Program} {w:World} {A:Around} {E:Value->Shared->Prop} {s:Shared}
end
end HT
namespace L3
open PySem PySem.Spec PyProof.Rows L2
section
variable {X:Cx}
end
section
variable {X:Cx}
end
section
variable {X:Cx}
end
section
variable {X:Cx} {a b:Expr} {ta tb:TE3} {pos:Pos}
end
end L3
namespace L3
open PySem PySem.Spec PyProof.Rows L2 PySem.SeqAt
section
variable {X:Cx} {a b:Expr} {ta tb:TE3} {pos:Pos}
end
end L3
namespace L3
open PySem PySem.Spec PyProof.Rows L2
section
variable {X:Cx} {a b e:Expr} {ta tb te:TE3} {pos:Pos}
end
section
variable {X:Cx} {a b:Expr} {ta tb:TE3} {pos:Pos}
def qbD:OpR X (binaryOp .Sub) (λx y H Q=>∃ i j,x=.int i/\nbV y=some j/\Q (.int (i-j)) H):=by
 intro pins s σ H x y v u Q I rx ry h;obtain ⟨i,j,rfl,e,q⟩:=h;obtain ⟨t,rfl⟩:=rx;cases y<;>cases e
 ·cases ry;exact PySem.IntBool.sub_int_bool ⟨.int _,H,I.tok _,⟨_,rfl⟩,q⟩
 ·obtain ⟨t',rfl⟩:=ry;exact sub_int ⟨.int _,H,I.tok _,⟨_,rfl⟩,q⟩
def nR3:R3:=λx y G q=>match x,nbT y with|.int i,some j=>q (.int (i-j)) G|_,_=>False
def qjE {K:Frg}:DI K nR3 (λx y H Q=>∃ i j,x=.int i/\nbV y=some j/\Q (.int (i-j)) H):=λx y v u G H q Q hr rx ry h af=>by
 unfold nR3 at h;split at h
 ·rename_i i j e;cases rx;exact ⟨_,j,rfl,qeu ry e,af _ G h _ H (.int _) hr Kp.refl⟩
 ·exact h.elim
def qb5 (ha:jE3 X a ta) (hb:jE3 X b tb):jE3 X (.BinOp a .Sub b pos) (o3 nR3 ta tb):=⟨qbK qbD qjE ha.h hb.h⟩
end
section
variable {X:Cx}
end
def ev {α:Type}:List α->List α
 |[]=>[]
 |[x]=>[x]
 |x::_::r=>x::ev r
def WS {α:Type}:∀ xs:List α,(ev xs).length=(xs.length+1)/2
 |[]=>by simp [ev]
 |[_]=>by simp [ev]
 |x::y::r=>by simp only [ev,length_cons,WS r];omega
def qaz {α:Type}:∀ xs:List α,(List.range ((xs.length+1)/2)).filterMap (λk=>xs[2*k]?)=ev xs
 |[]=>by simp [ev]
 |[x]=>by simp [ev,List.range_succ]
 |x::y::r=>by
  have e:((x::y::r).length+1)/2=(r.length+1)/2+1:=by simp only [length_cons];omega
  rw [e,List.range_succ_eq_map,List.filterMap_cons,List.filterMap_map];have e0:(x::y::r)[2*0]?=some x:=rfl;simp only [e0,ev];rw [← qaz r];congr 1
def qeK (its:List Value) (i:Nat) (h:i<=its.length):slicePick its.toArray (some (i:Int)) none (some 2)=(ev (its.drop i)).toArray:=by
 unfold slicePick sliceBounds sliceRange;have e1:(max 0 (min (if (i:Int)<0 then (i:Int)+(its.toArray.size:Int) else (i:Int)) (its.toArray.size:Int)))=(i:Int):=by
  rw [if_neg (by omega),size_toArray];omega
 simp only [Option.getD_some,show ((2:Int) > 0)=True from by simp,if_true,e1];have e2:(if (i:Int)<(its.toArray.size:Int) then ((its.toArray.size:Int)-(i:Int)+2-1)/2 else 0).toNat=((its.drop i).length+1)/2:=by
  rw [size_toArray,List.length_drop];split<;>omega
 rw [e2,List.filterMap_map];congr 1;rw [← qaz (its.drop i)];congr 1;funext k;simp only [Function.comp_apply];have e3:((i:Int)+2*(k:Int)).toNat=i+2*k:=by omega
 rw [e3,List.getElem?_drop];simp
section
variable {X:Cx} {e el ek:Expr} {p2 pos:Pos}
def MD:∀ {xs:List V} {us:List Value},zj xs us->zj (ev xs) (ev us)
 |_,_,.nil=>.nil
 |_,_,.cons r .nil=>.cons r .nil
 |_,_,.cons r (.cons _ t)=>.cons r (MD t)
def qds {K:Frg} {H:Hp}:∀ {ys:List T} {vs:List V},Rps K H ys vs->Rps K H (ev ys) (ev vs)
 |_,_,.nil=>.nil
 |_,_,.cons r .nil=>.cons r .nil
 |_,_,.cons r (.cons _ t)=>.cons r (qds t)
def qoH (K:Frg) (te:TE) (tl tk:TO):TE:=λσ H Q=>te σ H λx H1=>tl σ H1 λl H2=>tk σ H2 λk H3=>k=some 2/\∃ a xs,∃ i:Nat,l=some (i:Int)/\x=.ref a/\SqL K H3 a xs/\i<=xs.length/\∀ p,H3 p=none->Q (.ref p) (upd H3 p (.lst (ev (xs.drop i))))
def qh8 {te:TE} {tl tk:TO} (he:PE X e te) (hl:PO X (some el) tl) (hk:PO X (some ek) tk) {ops:Value->Value->List Value} (hs:∀ v w,subscripted (.Slice (some el) none (some ek) p2) false v w=operate (ops v w) (getItem v w)):PE X (.Subscript e (.Slice (some el) none (some ek) p2) pos) (qoH X.K te tl tk):=by
 intro pins s σ H Q I h;refine Subscript_ (thn (he pins s σ H _ I h) λv s1 ⟨x,H1,I1,r1,q1⟩=>?_);refine wpAny_Slice ?_;refine thn (hl pins s1 σ H1 _ I1 q1) λvl s2 ⟨l,H2,I2,pl,q2⟩=>?_;rw [evalPart_none];refine wpAny_pure ?_;refine thn (hk pins s2 σ H2 _ I2 q2) λvk s3 ⟨k,H3,I3,pk,q3⟩=>?_;obtain ⟨rfl,a,xs,i,rfl,rfl,hx,hi,q⟩:=q3;have I4:Inv X pins σ H3 { s3 with heap:=s3.heap.push { cls:=.type "slice",data:=.fields #[vl,.none,vk] } }:=I3.kept (t':=s3.toks) λb ob q=>Heap.get?_push_of_some _ q;cases r1;obtain ⟨its,r,ht,hz⟩:=I4.list hx;have hlen:=r.length;show wpAny (model X.prog X.w) X.A (subscriptTail e (.Slice (some el) none (some ek) p2) (.ref a) (.ref s3.heap.objs.size)) (EP X pins σ Q) X.xe { s3 with heap:=s3.heap.push { cls:=.type "slice",data:=.fields #[vl,.none,vk] } };refine tail_any (ops:=ops (.ref a) (.ref s3.heap.objs.size)) (T:="list") ht.isList.typeIs slot_list_getitem.lookup ?_ (hs _ _);refine wpAny_getItem_list_slice ht.isList (Heap.IsSliceOf.new ..) pl .none pk (by decide) ?_ (by rw [size_toArray]<;>omega);rw [qeK its i (by omega)];refine ⟨.ref _,_,I4.laid (t':=s3.toks) (o:=.lst (ev (xs.drop i))) (λb ob q=>Heap.get?_push_of_some _ q) (Nat.le_refl _) ?_,rfl,q _ (I4.hok.fresh (Nat.le_refl _))⟩;exact ⟨by rw [WS,List.length_drop];omega,_,0,MD (r.drop i),Heap.get?_push_size _ rfl⟩
def qir (te:TE3) (tl tk:TO3):TE3:=λτ G q=>te τ G λx G1=>tl τ G1 λl G2=>tk τ G2 λk G3=>k=some 2/\(match x,l with|.ref p,some i=>(match getL G3 p with|some xs=>0<=i/\i<=xs.length/\∀ a,G3 a=none->q (.ref a) (gu G3 a (.lst (ev (xs.drop i.toNat))))|none=>False)|_,_=>False)
def TQ {K:Frg} {H:Hp}:∀ {ys:List T} {vs:List V} (i:Nat),Rps K H ys vs->Rps K H (ys.drop i) (vs.drop i)
 |_,_,0,h=>h
 |_,_,_+1,.nil=>.nil
 |_,_,i+1,.cons _ t=>TQ i t
def qau {te:TE3} {tl tk:TO3} (he:jE3 X e te) (hl:jP3 X (some el) tl) (hk:jP3 X (some ek) tk) {ops:Value->Value->List Value} (hs:∀ v w,subscripted (.Slice (some el) none (some ek) p2) false v w=operate (ops v w) (getItem v w)):jE3 X (.Subscript e (.Slice (some el) none (some ek) p2) pos) (qir te tl tk):=
 ⟨U3 (qh8 he.h hl.h hk.h hs) λ_ _ _ ⟨τ,G,q,rl,h,af⟩=>zl rl h λx G1 h1 v H1 rx hr1 k1 rl1=>
  ⟨τ,G1,_,rl1,h1,λl G2 h2 H2 hr2 k2=>⟨τ,G2,_,rl1.next hr2 k2,h2,λk G3 h3 H3 hr3 k3=>by
   obtain ⟨hk,h3⟩:=h3;have rx3:=(rx.keep hr1 k2).keep hr2 k3;cases x<;>try exact h3.elim
   case ref p=>
    cases l with
    |none=>exact h3.elim
    |some i=>
    simp only at h3;split at h3
    ·rename_i xs e0;obtain ⟨i0,i1,h3⟩:=h3;cases rx3;obtain ⟨vs,hs',rs⟩:=zK hr3 e0;have:=rs.length;exact ⟨hk,p,vs,i.toNat,by rw [Int.toNat_of_nonneg i0],rfl,hs',by omega,λa ha=>af _ _ (h3 a (hr3.free ha)) _ _ (.ref a) (hr3.newL ha (qds (TQ _ rs))) (((k1.trans k2).trans k3).trans (Kp.newL ha))⟩
    ·exact h3.elim⟩⟩⟩
end
def RH {M:Model} {A:Around} {E:Value->Shared->Prop} {s:Shared} {a b:Value} {Q:Value->Shared->Prop} (ha:s.TypeIs a "list") (hb:s.TypeIs b "list") (hc:wpAny M A (call (.builtin "list.__iadd__") [a,b]) Q E s):wpAny M A (inplaceOp .Add a b) Q E s:=by
 have hl:typeLookup (.type "list") (dunderI "add")=pure (some (.builtin "list.__iadd__")):=F.slot_list_iadd.lookup;have hn:fillsNumberSlot (.type "list") "add" = pure false:=by rfl
 unfold inplaceOp;refine wpAny_holding ?_;have hfi:fillsInplaceSlot (.type "list") "add" (Operator.Add==Operator.Add)=pure false:=by
  show (do let fi←typeLookup (.type "list") (dunderI "add");pure (fi.isSome&&!isSeqSlot fi))=pure false;rw [hl];rfl
 have hsi:seqSlot? (.type "list") (dunderI "add")=pure (some (.builtin "list.__iadd__")):=by
  unfold seqSlot?;rw [hl];rfl
 refine wpAny_bind (wpAny_typeOf ha ?_);refine wpAny_bind (wpAny_of_eq hfi ?_);rw [if_neg Bool.false_ne_true];refine wpAny_bind (binaryOp1_none ha hb hn ?_);refine wpAny_bind (wpAny_of_eq hsi ?_);exact wpAny_bind (wpAny_rule hc)
section
variable {X:Cx} {pos:Pos} {e:Expr} {te:TE3}
def qnM:TIp:=λx y H Q=>∃ l b xs zs,x=.ref l/\y=.ref b/\H l=some (.lst xs)/\H b=some (.lst zs)/\xs.length+zs.length<=sizeLine/\Q (.ref l) (upd H l (.lst (xs++zs)))
def qfY:PIp X .Add qnM:=by
 intro pins s σ H x y v u Q I rx ry h;obtain ⟨l,b,xs,zs,rfl,rfl,hH,hB,hz,q⟩:=h;cases rx;cases ry;obtain ⟨z,its,n,r,hl,e⟩:=I.lstM hH;obtain ⟨z2,its2,n2,r2,hl2,e2⟩:=I.lstM hB;have hsz:its.toArray.size+its2.toArray.size<=sizeLine:=by rw [size_toArray,size_toArray];omega
 have hlong:¬ (!its.toArray.isEmpty&&Builtin.List.listTooLong (its.toArray.size+its2.toArray.size))=true:=by
  rw [qbq hsz,Bool.and_false];exact Bool.false_ne_true
 refine RH ⟨_,e,rfl⟩ ⟨_,e2,rfl⟩ ?_;refine call_meets F.slot_list_iadd ⟨_,e,rfl⟩ F.entry_list_iadd (F.args_list_iadd_2 _ _)
  (AutoSeq1.list___iadd___list_list_0 l its.toArray n b its2.toArray n2 hlong (by rw [size_toArray];omega) (by omega)) ⟨e,e2,?_⟩
 refine ⟨.ref l,_,I.lset (its':=its++its2) hH e (by simp) (r.append r2) ?_,rfl,q⟩;rw [length_append];omega
def LM (i:Nat) (te:TE3):TS3:=λd τ G=>match τ[i]? with
 |some (some (.ref p))=>te τ G λy G1=>(match y with
  |.ref b=>(match G1 p,G1 b with|some (.lst xs),some (.lst zs)=>xs.length+zs.length<=sizeLine/\d.nx (τ.set i (some (.ref p))) (gu G1 p (.lst (xs++zs)))|_,_=>False)
  |_=>False)
 |_=>False
def CP (i:Nat) {x:Str} {pos':Pos} (hN:X.N.Nodup) (he:jE3 X e te) (hi:X.N[i]?=some x:=by rfl) (hx:Loc X.env.scope x:=by first|exact Or.inl rfl|exact Or.inr rfl) (hf:X.fn x=true\/X.env.scope.names.lookup x=some .local:=by first|exact .inl rfl|exact .inr rfl) :
  jS3 X (.AugAssign (.Name x pos') .Add e pos) (LM i te):=
 ⟨qa6 (qjP (i:=i) hN hi hx he.h qfY hf) λD σ H ⟨τ,G,d,rl,h,af⟩=>by
  unfold LM at h;split at h
  ·rename_i p e1;obtain ⟨v,e2,rv⟩:=rl.st i _ e1;refine ⟨v,e2,zl rl h λy G1 h1 u H1 ry hr1 k1 rl1=>?_⟩;have rv1:=rv.keep rl.hp k1;cases y<;>try exact h1.elim
   rename_i b;simp only at h1;split at h1
   ·rename_i xs zs g1 g2;cases rv1;cases ry;obtain ⟨vs,g3,r1⟩:=hr1.lst g1;obtain ⟨us,g4,r2⟩:=hr1.lst g2;exact ⟨p,b,vs,us,rfl,rfl,g3,g4,by rw [← r1.length,← r2.length];exact h1.1,af.nx _ _ h1.2 _ _ ((rl1.next (hr1.wr g1 (r1.append r2)) (Kp.wr g1)).set i (.ref p)) (k1.trans (Kp.wr g1))⟩
   ·exact h1.elim
  ·exact h.elim⟩
end
section
variable {X:Cx} {pos:Pos} {o i e:Expr} {to ti te:TE3}
end
section
variable {K:Frg} {G G':Gp} {H H':Hp}
def qlZ (kvs:List (Int×T)):List Key:=kvs.map λp=>(Sum.inl p.1:Key)
def ql3 (kvs:List (Int×T)):List T:=kvs.map λp=>p.2
def HR.dct (hr:HR K G H) {p:Addr} {kvs:List (Int×T)} (g:G p=some (.dct kvs)):∃ vs,H p=some (.dK ((qlZ kvs).zip vs))/\Rps K H (ql3 kvs) vs:=hr p _ g
end
section
variable {X:Cx} {pos:Pos} {o i e:Expr} {to ti te:TE3}
variable {es:List Expr} {t:TA3}
end
end L3
namespace L3
open PySem PySem.Spec PyProof.Rows L2 PySem.SeqAt
section
variable {prog:Program} {w:World} {A:Around} {E:Value->Shared->Prop} {s:Shared}
end
section
variable {X:Cx}
end
end L3
namespace L2
open PySem PySem.Spec PyProof.Rows
section
variable {X:Cx} {pins:List (Addr×Obj)} {σ:St} {H:Hp} {s:Shared}
end
def Z5.there {P:Program} {w:World} {H:Hp} {h:Heap} {a:Addr} {o:HO} (x:Z5 P w H h a o):∃ u,h.get? a=some u:=by
 cases o with
 |lst xs=>obtain ⟨_,_,_,_,e⟩:=x;exact ⟨_,e⟩
 |tup xs=>obtain ⟨_,_,_,ob,e,_⟩:=x;exact ⟨_,e⟩
 |dK kvs=>obtain ⟨_,_,_,_,o,_,_,e,_⟩:=x;exact ⟨_,e⟩
 |dT kvs=>obtain ⟨_,_,_,_,o,_,_,e,_⟩:=x;exact ⟨_,e⟩
 |set S n=>obtain ⟨o,_,_,_,e,_⟩:=x;exact ⟨_,e⟩
 |ins C dx fs=>obtain ⟨_,_,_,e,_⟩:=x;exact ⟨_,e⟩
 |own y=>obtain ⟨_,e⟩:=x;exact ⟨_,e⟩
 |xd fs=>obtain ⟨_,⟨_,_,_,e,_⟩,_⟩:=x;exact ⟨_,e⟩
 |rng lo hi=>obtain ⟨_,_,_,e⟩:=x;exact ⟨_,e⟩
 |frz ob u=>obtain ⟨e,_⟩:=x;exact ⟨_,e⟩
 |tbl ps=>exact ⟨_,(show h.get? a=some _ from x)⟩
 |met f y=>exact ⟨_,(show h.get? a=some _ from x)⟩
 |ext φ=>obtain ⟨_,⟨_,e⟩,_⟩:=x;exact ⟨_,e⟩
def HOk.nil {P:Program} {w:World} {H:Hp} {h:Heap} {a:Addr} (x:HOk P w H h) (e:h.get? a=none):H a=none:=by
 cases q:H a with
 |none=>rfl
 |some u=>
  obtain ⟨z,y⟩:=(x a u q).there;rw [e] at y;cases y
section
variable {P:Program} {w:World} {K:Frg} {mg:Str->Option Value} {base:Heap} {N:List Str} {qual:Str} {scope:Scope} {f:Addr} {cd:Value} {A:Around} {outer:List Env} {s0:Shared} {H0:Hp} {E:XK} {CX:CXT}
 {pins:List (Addr×Obj)} {σ:St} {H:Hp} {s:Shared}
end
section
variable {X:Cx} {x:Str} {C:Addr} {B Bn newId nid initId inN:String} {bm bmN:List Value} {np cpos pos:Pos} {e:Expr} {es:List Expr} {t:TA} {EE:Hp->Prop}
end
end L2
namespace L3
open PySem PySem.Spec PyProof.Rows L2
abbrev X3:=Addr->Gp->Prop
abbrev Spx:=List T->Gp->X3->Prop
section
variable {X:Cx} {x:Str} {C:Addr} {B Bn newId nid initId inN:String} {bm bmN:List Value} {np cpos pos:Pos} {e:Expr} {es:List Expr} {t:TA3} {dx:X3}
end
section
variable {K:Frg} {G G':Gp} {H H':Hp}
def HR.kind (hr:HR K G H) {a:Addr} (n:G a≠none):(∃ vs,H a=some (.lst vs))\/(∃ o vs,H a=some (.frz o (.lst vs)))\/(∃ kvs,H a=some (.dK kvs))\/∃ φ,H a=some (.ext φ):=by
 cases e:G a with
 |none=>exact absurd e n
 |some o=>
  have q:=hr a o e;cases o with
  |lst xs=>obtain ⟨vs,h1,_⟩:=q;exact .inl ⟨vs,h1⟩
  |frz xs=>obtain ⟨vs,⟨o,h1⟩,_⟩:=q;exact .inr (.inl ⟨o,vs,h1⟩)
  |dct kvs=>obtain ⟨vs,h1,_⟩:=q;exact .inr (.inr (.inl ⟨_,h1⟩))
  |tab ks xs=>obtain ⟨vs,h1,_⟩:=q;exact .inr (.inr (.inl ⟨_,h1⟩))
  |exn C=>exact .inr (.inr (.inr ⟨_,q⟩))
end
end L3
namespace L2
open PySem PySem.Spec PyProof.Rows
section
variable {X:Cx} {pins:List (Addr×Obj)} {σ:St} {H H':Hp} {s s':Shared}
end
section
variable {M:Model} {A:Around} {E:Value->Shared->Prop}
variable {nm q nm' q':Str} {C N B N':Addr} {bs bm bs' bm':List Value} {hdct hdct':Bool} {sn sn':List Str} {sub sub':List Value} {ab ab':Bool} {col col':Option Bool} {dd dd':Option Addr} {k0 k1 k2 k3 k5 l0 l1 l2 l3 l5:Option Value} {newId newId':String}
end
open L3 (IsX)
section
variable {X:Cx} {pins:List (Addr×Obj)} {σ:St} {H:Hp} {s:Shared} {ea:Addr} {o:HO}
end
section
variable {X:Cx} {pins:List (Addr×Obj)} {σ σ0:St} {H:Hp} {s:Shared} {E:XK} {e:Value}
end
section
variable {X:Cx} {pins:List (Addr×Obj)} {σ:St} {H:Hp} {s s':Shared} {E:XK} {ev:Value}
end
end L2
namespace L2
open PySem PySem.Spec PyProof.Rows PySem.W PySem.Calls Builtin Builtin.ObjectAttr Builtin.Getset_descriptor
open L3 (IsX)
section
variable {prog:Program} {w:World} {A:Around} {E:Value->Shared->Prop} {K:Frag} {e C:Addr}
end
end L2
namespace L3
open PySem PySem.Spec PyProof.Rows L2
abbrev TX3:=X3->St3->Gp->Prop
section
variable {X:Cx} {k:Nat} {x:Str} {sx:Spx} {p pos:Pos} {e:Expr} {es:List Expr} {ta:TA3} {tx ty:TX3}
end
section
variable {X:Cx} {e ce:Expr} {te:TE3} {p pos:Pos} {D:List (Option Addr×Bool)}
end
section
variable {X:Cx}
def qoz (ks:List Str):List Key:=ks.map λk=>(Sum.inr k:Key)
def HR.tab {K:Frg} {G:Gp} {H:Hp} (hr:HR K G H) {p:Addr} {ks:List Str} {xs:List T} (g:G p=some (.tab ks xs)):∃ vs,H p=some (.dK ((qoz ks).zip vs))/\Rps K H xs vs:=hr p _ g
end
end L3
namespace L3
open PySem PySem.Spec PyProof.Rows L2 PySem.SeqAt
section
def qbR {β:Type} (n:Nat) (b:β) (f:Nat->β->Sem (ForInStep β)):forIn [:n] b f=forIn (List.range' 0 n 1) b f:=by
 rw [Std.Legacy.Range.forIn_eq_forIn_range'];have hsz:([:n]:Std.Legacy.Range).size=n:=by simp [Std.Legacy.Range.size]
 show forIn (List.range' 0 ([:n]:Std.Legacy.Range).size 1) b f=_;rw [hsz]
def XS (l:Addr) (items:Array Value) (n:Nat) (dd:Option Addr) (sl:Array (Option Value)) (x:Value) (e:Value->Bool) (j:Nat) (hj:j<items.size)
    (hit:e items[j]=true) (hno:∀ m (hm:m<items.size),m<j->e items[m]=false) :
    Meets (Builtin.«tuple.index» ⟨[.ref l,x],[]⟩)
      (λA R s=>s.heap.get? l=some { cls:=.type "tuple",dict:=dd,data:=.seq items n,slots:=sl }/\(∀ y,y∈items->EqAt A.in1 s y x (e y))/\R (.ok (.ret (.int j s.toks))) { s with toks:=s.toks+1 }):=
  .of_wp λprog w A R s h=>by
    obtain ⟨hp,g,d,tk,os⟩:=s;obtain ⟨hl,he,h⟩:=h
    wp_walk using wpAny_loadPart' hl
    show wpAny _ _ (forIn [:min items.size items.size] (none,()) (λ(i : Nat) (_ : Option PySem.Fin × Unit) => match items[i]? with
            |some y=>do
              let t←eqBool y x
              if t=true then do
                  let v←retInt ↑i
                  pure (ForInStep.done (some v,()))
                else pure (ForInStep.yield (none,()))
            |x=>pure (ForInStep.yield (none,())))) _ _ _
    rw [qbR,Nat.min_self];refine wpAny_forIn_list _ (λj8 b s'=>∃ i,j8=List.range' i (items.size-i) 1/\i<=j/\b=(none,())/\s'=⟨hp,g,d,tk,os⟩) _ ?_ ?_ _ _ ⟨0,by simp,Nat.zero_le _,rfl,rfl⟩
    · rintro i j8 b s' ⟨i',e1,e2,rfl,rfl⟩;obtain ⟨m,hm⟩:∃ m,items.size-i'=m+1:=⟨items.size-i'-1,by omega⟩
      rw [hm,List.range'_succ] at e1;obtain ⟨rfl,rfl⟩:=List.cons.inj e1;have hlt:i<items.size:=by omega
      rw [Array.getElem?_eq_getElem hlt];simp only;refine wpAny_bind (he _ (Array.getElem_mem hlt) prog w _ _ ?_);by_cases c:i=j
      · subst c;rw [hit]
        wp_walk
        exact ⟨_,rfl,h⟩
      · rw [hno i hlt (by omega)]
        wp_walk
        exact ⟨i+1,by rw [show items.size-(i+1)=m by omega],by omega,rfl,rfl⟩
    · rintro b s' ⟨i,e1,e2,rfl,rfl⟩;have:items.size-i=0:=by
        have:=congrArg List.length e1;simp at this;omega
      omega
end
section
variable {X:Cx}
def qfR {prog:Program} {w:World} {A:Around} {E:Value->Shared->Prop} {s:Shared} {l:Addr} {vs:List Value} {ns:List Int} {k:Int} {t:Tok} {Q:Value->Shared->Prop} (hl:JH s.heap l vs.toArray) (hi:IntsAre vs ns) (hk:k∈ns) (h:Q (.int (ns.idxOf k:Nat) s.toks) { s with toks:=s.toks+1 }) :
  wpAny (model prog w) A (call (.builtin "tuple.index") [.ref l,.int k t]) Q E s:=by
 obtain ⟨⟨cls,dd,data,sl⟩,ho,hc,n,hd,hdd⟩:=id hl;simp only at hc hd hdd;subst hc hd hdd;have hlen:=hi.length;have hj:ns.idxOf k<ns.length:=List.idxOf_lt_length_iff.mpr hk;refine call_meets PySem.F.slot_tuple_index ⟨_,ho,rfl⟩ PySem.F.entry_tuple_index (PySem.F.args_tuple_index_2 _ _)
  (XS l vs.toArray n none sl (.int k t) (isInt k) (ns.idxOf k) (by simpa [hlen] using hj) ?_ ?_) ⟨ho,λy hy=>(eq_isInt k t hi y (by simpa using hy)).at _ _,h⟩
 ·show isInt k vs[ns.idxOf k]=true;rw [isInt_at k hi _ (by omega) hj];simpa using List.getElem_idxOf hj
 ·intro j hjs hlt;have hjn:j<ns.length:=by omega
  show isInt k vs[j]=false;rw [isInt_at k hi _ (by omega) hjn];simpa using List.not_of_lt_findIdx (p:=(·==k)) (xs:=ns) (i:=j) hlt
def NP {o e:Expr} {to te:TE} {apos cpos:Pos} (ho:PE X o to) (ha:PA X [e] ta)
  (hbase:attributeBase o "index" X.env (eval o X.env)=eval o X.env:=by rfl)
  (hfew:((backTo cpos (starEach [e] X.env)).all (λx=>!x.1)&&(backToKw cpos (keywordEach [] X.env)).all (λx=>x.1.isSome)
   && decide (([e]:List Expr).length+([]:List Keyword).length+(if ([]:List Keyword).isEmpty then 0 else 1)<30))=true:=by rfl)
  (hline:(apos.endLine==cpos.line)=true:=by rfl) (hs:starEach [e] X.env=(false,eval e X.env)::starEach [] X.env:=by rfl) (hplain:(backTo cpos (starEach [] X.env)).any (·.1)=false:=by rfl) :
  PE X (.Call (.Attribute o "index" apos) [e] [] cpos) (λσ H Q=>to σ H λx H1=>(∃ a xs,x=.ref a/\SqT X.K H1 a xs)/\ta σ H1 λvs H2=>∃ a ns k,x=.ref a/\SqT X.K H2 a (ns.map V.int)/\vs=[.int k]/\k∈ns/\Q (.int (List.idxOf k ns:Nat)) H2):=by
 intro pins s σ H Q I h;refine wpAny_Call_method_late hbase hfew hline rfl (thn (ho pins s σ H _ I h) λv s1 ⟨x,H1,I1,r1,ty,q1⟩=>?_);obtain ⟨a,xs,rfl,hsq⟩:=ty;cases r1;obtain ⟨its,rv,⟨ob,e1,e2,n,e3,e4⟩,_⟩:=I1.tupleN hsq;refine ⟨"tuple","tuple.index",PySem.F.plainAttrs_tuple,PySem.F.slot_tuple_index,PySem.F.type_tuple_index,⟨ob,e1,e2⟩,λb z=>(by cases z;exact ⟨ob,e1,e4⟩),?_⟩;have hA:=ha cpos pins s1 σ H1 _ I1 q1;rw [hs] at hA ⊢;refine Calls.callWith_builtin (by show (false||(backTo cpos (starEach [] X.env)).any (·.1))=false;rw [hplain]<;>rfl) (Calls.evalArgs_plain ?_);refine thn hA λus s2 ⟨vs,H2,I2,r2,q2⟩=>?_;obtain ⟨a',ns,k,ea,hq,rfl,hk,q⟩:=q2;cases ea;obtain ⟨u,rfl,ru⟩:=r2.one;obtain ⟨t,rfl⟩:=ru;obtain ⟨its2,rv2,pl,_⟩:=I2.tupleN hq;exact qfR pl (JY rv2) hk ⟨.int _,H2,I2.tok _,⟨_,rfl⟩,q⟩
def qbb (to:TE3) (t:TA3):TE3:=λτ G q=>to τ G λx G1=>(match x with|.tup _=>True|_=>False)/\t τ G1 λxs G2=>match x,xs with
 |.tup ys,[.int k]=>(match WY ys with|some ns=>k∈ns/\q (.int (List.idxOf k ns:Nat)) G2|none=>False)
 |_,_=>False
def RJ {o e:Expr} {to:TE3} {t:TA3} {apos cpos:Pos} (ho:jE3 X o to) (ha:jA3 X [e] t)
  (hbase:attributeBase o "index" X.env (eval o X.env)=eval o X.env:=by rfl)
  (hfew:((backTo cpos (starEach [e] X.env)).all (λx=>!x.1)&&(backToKw cpos (keywordEach [] X.env)).all (λx=>x.1.isSome)
   && decide (([e]:List Expr).length+([]:List Keyword).length+(if ([]:List Keyword).isEmpty then 0 else 1)<30))=true:=by rfl)
  (hline:(apos.endLine==cpos.line)=true:=by rfl) (hs:starEach [e] X.env=(false,eval e X.env)::starEach [] X.env:=by rfl) (hplain:(backTo cpos (starEach [] X.env)).any (·.1)=false:=by rfl) :
  jE3 X (.Call (.Attribute o "index" apos) [e] [] cpos) (qbb to t):=
 ⟨U3 (NP (te:=λ_ _ _=>True) ho.h ha.h hbase hfew hline hs hplain) λ_ _ _ ⟨τ,G,q,rl,h,af⟩=>zl rl h λx G1 h1 v H1 rx hr1 k1 rl1=>by
  obtain ⟨hp,h1⟩:=h1;cases x<;>try exact hp.elim
  case tup ys=>
   cases rx with
   |tup hsq rys=>
    refine ⟨⟨_,_,rfl,hsq⟩,QR rl1 h1 λxs G2 h2 vs H2 rs hr2 k2 rl2=>?_⟩;split at h2
    ·rename_i ys' k hz;cases hz;split at h2
     ·rename_i ns e1;have:=EQ e1;subst this;have rv:=EK rys;subst rv;obtain ⟨u,rfl,r⟩:=CL rs;cases r;exact ⟨_,ns,k,rfl,EH hr1 k2 hsq,rfl,h2.1,af _ _ h2.2 _ _ (.int _) hr2 (k1.trans k2)⟩
     ·exact h2.elim
    ·exact h2.elim⟩
end
end L3
namespace L3
open PySem PySem.Spec PyProof.Rows L2
def ItE (lo:Int) (n:Nat):It:=⟨λi _=>i<n,λi H x H'=>H'=H/\x=.int (lo+i*2),λi _=>n<=i⟩
def qfi {P:Program} {w:World} {K:Frg} {tg:Expr} (it:Addr) (lo:Int) (n:Nat):Turn P w K tg (ItE lo n) [it] it (λi h=>IsRangeIter h it (lo+(i:Nat)*2) ((n:Int)-(i:Nat)) 2) where
 mem:=by simp
 obj:=λi h st b hb=>by
  have e:b=it:=by simpa using hb
  subst e;exact ⟨_,st,λv z=>by
   have z':Data.fields _=Data.cell v:=z;cases z'⟩
 keep:=λi h h' st k=>k it (by simp) _ st
 item:=by
  intro X hP hw hK hc i pins s σ H E I hf st hg;subst hP hw hK;obtain ⟨f0,f1,f2,f3,f4,f5⟩:=hf it (by simp);have W:=Walks.range (prog:=X.prog) (w:=X.w) (I.ok.hd hc) it lo 2 n;refine W.item i s _ _ hg st λv h' tk hv st' kk=>?_;obtain ⟨t,rfl⟩:=hv;have I1:Inv X pins σ H { s with heap:=h',toks:=tk }:=I.turned (λb o hb e=>kk b o (by simpa using hb) e) f0 f1 f3 f4 f5;refine ⟨_,rfl,qca (s:={ s with heap:=h',toks:=tk }) (n:="range_iterator") st' rfl rfl (by decide) ⟨.int (lo+i*2),H,I1,⟨t,rfl⟩,⟨rfl,rfl⟩,st',λb hb=>(hf b hb).1⟩⟩
 done:=by
  intro X hP hw hK hc i pins s σ H E I hf st hg;subst hP hw hK;obtain ⟨f0,f1,f2,f3,f4,f5⟩:=hf it (by simp);exact wpAny_pyNext_range_end (I.ok.hd hc) st (by have:n<=i:=hg;omega) λh' eb=>⟨rfl,I.turned (t':=s.toks) (λb o hb e=>eb b o hb e) f0 f1 f3 f4 f5⟩
 self:=λ_ _ _ _ _ st h=>wpAny_pyIter_rangeiter st h
def qaE (lo hi:Int):Builtin.Range.rangeSize lo hi 2=(((hi-lo+1)/2).toNat:Int):=by
 unfold Builtin.Range.rangeSize;simp;split<;>omega
def qb3 {a b:Int} (ha:-(2 ^ 62)<=a) (ha':a<2 ^ 62) (hb:-(2 ^ 62)<=b) (hb':b<2 ^ 62):Builtin.Range.small a b 2=true:=by
 unfold Builtin.Range.small;rw [qaE];simp only [Builtin.Range.rangeFitsLong,Bool.and_eq_true,Bool.or_eq_true,decide_eq_true_eq,beq_iff_eq,show (2:Int) > 0 by decide,if_true];omega
section
variable {X:Cx} {tg a b c:Expr} {pos:Pos}
def qoT (ta:TA):TI:=λσ H R=>ta σ H λvs H1=>∃ i j:Int,vs=[.int i,.int j,.int 2]/\(-(2 ^ 62)<=i/\i<2 ^ 62/\-(2 ^ 62)<=j/\j<2 ^ 62)/\R (ItE i ((j-i+1)/2).toNat) H1
def qmb {ta:TA} {p:Pos} (hg:Gl X "range") (hm:X.mg "range" = none) (ha:PA X [a,b,c] ta) (hs:starEach [a,b,c] X.env=[(false,eval a X.env),(false,eval b X.env),(false,eval c X.env)]:=by rfl) (hs2:starEach [b,c] X.env=[(false,eval b X.env),(false,eval c X.env)]:=by rfl) :
  PI X tg (.Call (.Name "range" p) [a,b,c] [] pos) (qoT ta):=by
 intro pins s σ H R I h;refine Call_ (YG I hg hm boot_range (PyProof.Rows.callWith_type1 (thn (ha pos pins s σ H _ I h) λus s1 ⟨vs,H1,I1,r1,q1⟩=>?_) (by rw [hs,hs2]) (by rw [hs2];rfl)));obtain ⟨i,j,e,⟨q1,q2,q3,q4⟩,q⟩:=q1;subst e;cases r1 with
 |cons r rr=>
  cases rr with
  |cons r' rr=>
   cases rr with
   |cons r'' rr=>
    cases rr;obtain ⟨t,rfl⟩:=r;obtain ⟨t',rfl⟩:=r';obtain ⟨t'',rfl⟩:=r'';refine call_range_3 (by decide) ?_ (Or.inl (PyProof.noPylong_small (by decide)));refine wpAny_pyIter_range (IsRange.new ..) (qb3 q1 q2 q3 q4) ?_;have I2:Inv X pins σ H1 { s1 with heap:=s1.heap.push { cls:=.type "range",data:=.fields #[.int i t,.int j t',.int 2 t''] },toks:=s1.toks }:=I1.kept λb o e=>Heap.get?_push_of_some _ e;refine ⟨_,[_],_,_,H1,rfl,I2.kept (t':=s1.toks) λb o e=>Heap.get?_push_of_some _ e,qfi _ i ((j-i+1)/2).toNat,?_,λb hb=>?_,q⟩
    ·show IsRangeIter _ _ (i+((0:Nat):Int)*2) (((((j-i+1)/2).toNat:Nat):Int)-((0:Nat):Int)) 2;have e1:i+((0:Nat):Int)*2=i:=by simp
     have e2:((((j-i+1)/2).toNat:Nat):Int)-((0:Nat):Int)=Builtin.Range.rangeSize i j 2:=by rw [qaE];simp
     rw [e1,e2];exact Heap.get?_push_size _ rfl
    ·have e:=List.mem_singleton.mp hb;subst e;exact I2.fpOk (Nat.le_refl _) (I2.hok.fresh (Nat.le_refl _))
def evT (lo:Int) (n:Nat):List T:=(List.range n).map λ(i:Nat)=>T.int (lo+(i:Int)*2)
def qeQ {K:Frg} {lo:Int} {n:Nat} {G0:Gp} {H0:Hp}:qe7 K (ItE lo n) (evT lo n) (λ_=>True) G0 H0:=by
 intro G H hr k _;have hl:(evT lo n).length=n:=by simp [evT]
 refine ⟨λi x hi=>?_,λi x v H' hi y=>?_,(show n<=(evT lo n).length by rw [hl];exact Nat.le_refl n)⟩
 ·have:=(List.getElem?_eq_some_iff.mp hi).1;rw [hl] at this;exact this
 ·obtain ⟨e,y⟩:=y;subst e;subst y;have h1:=(List.getElem?_eq_some_iff.mp hi).1;rw [hl] at h1;unfold evT at hi;rw [getElem?_map,List.getElem?_range h1] at hi;have e:T.int (lo+(i:Int)*2)=x:=by simpa using hi
  subst e;exact ⟨.int _,hr,Kp.refl⟩
def qnk (ta:TA3):TI3:=λτ G r=>ta τ G λxs G1=>match xs with
 |[.int i,.int j,.int k]=>k=2/\(-(2 ^ 62)<=i/\i<2 ^ 62/\-(2 ^ 62)<=j/\j<2 ^ 62)/\r (evT i ((j-i+1)/2).toNat) (λ_=>True) G1
 |_=>False
def qnv {t:TA3} {p:Pos} (hg:Gl X "range") (hm:X.mg "range" = none) (ha:jA3 X [a,b,c] t) (hs:starEach [a,b,c] X.env=[(false,eval a X.env),(false,eval b X.env),(false,eval c X.env)]:=by rfl) (hs2:starEach [b,c] X.env=[(false,eval b X.env),(false,eval c X.env)]:=by rfl) :
  jI3 X tg (.Call (.Name "range" p) [a,b,c] [] pos) (qnk t):=
 ⟨qgh (qmb hg hm ha.h hs hs2) λσ H R ⟨τ,G,r,rl,h,af⟩=>QR rl h λxs G1 h1 vs H1 rs hr1 k1 rl1=>by
  split at h1
  ·obtain ⟨rfl,h2,h3⟩:=h1;cases rs with
   |cons r1 rs=>
    cases rs with
    |cons r2 rs=>
     cases rs with
     |cons r3 rs=>
      cases rs;cases r1;cases r2;cases r3;exact ⟨_,_,rfl,h2,af _ _ G1 h3 _ H1 hr1 k1 qeQ⟩
  ·exact h1.elim⟩
end
section
variable {X:Cx}
def WR {a:Int}:∀ {n:Nat} {its:List Value} {f:Nat->Int},its.length=n->(∀ (i:Nat) v,its[i]?=some v->∃ t,v=.int (f i) t)->zj ((List.range n).map λi=>V.int (f i)) its
 |0,its,f,hl,_=>by
  have:its=[]:=List.eq_nil_of_length_eq_zero hl;subst this;exact .nil
 |n+1,[],f,hl,_=>by simp at hl
 |n+1,v::its,f,hl,h=>by
  rw [List.range_succ_eq_map,map_cons,map_map];refine .cons (h 0 v rfl) ?_;exact WR (a:=a) (f:=λi=>f (i+1)) (by simpa using hl) λi u hu=>h (i+1) u (by simpa using hu)
def qaZ {e:Expr} {te:TE} {p p2 pos pos2:Pos} (hc:X.calm=true) (hg:Gl X "list") (hm:X.mg "list" = none) (hg2:Gl X "range") (hm2:X.mg "range" = none) (he:PE X e te)
  (h1:starEach [e] X.env=(false,eval e X.env)::starEach [] X.env:=by rfl) (h2:starEach [.Call (.Name "range" p2) [e] [] pos2] X.env=(false,eval (.Call (.Name "range" p2) [e] [] pos2) X.env)::starEach [] X.env:=by rfl)
  (h3:(backTo pos (starEach [] X.env)).any (·.1)=false:=by rfl) (h4:(backTo pos2 (starEach [] X.env)).any (·.1)=false:=by rfl) :
  PE X (.Call (.Name "list" p) [.Call (.Name "range" p2) [e] [] pos2] [] pos) (λσ H Q=>te σ H λx H1=>∃ n:Nat,x=.int (n:Int)/\n<=sizeLine/\∀ l,H1 l=none->Q (.ref l) (upd H1 l (.lst ((List.range n).map λ(i:Nat)=>V.int (i:Int))))):=by
 intro pins s σ H Q I h;refine wpAny_Call_Name_kw (YG I hg hm PyProof.Rows.boot_list ?_);refine PyProof.Rows.callWith_type1 ?_ h2 h3;rw [h2];show wpAny _ _ (spliced ((false,eval (.Call (.Name "range" p2) [e] [] pos2) X.env)::backTo pos (starEach [] X.env))) _ _ s;refine Calls.spliced_cons ?_;refine wpAny_Call_Name_kw (YG I hg2 hm2 boot_range ?_);refine PyProof.Rows.callWith_type1 ?_ h1 h4;rw [h1];show wpAny _ _ (spliced ((false,eval e X.env)::backTo pos2 (starEach [] X.env))) _ _ s;refine Calls.spliced_cons (thn (he pins s σ H _ I h) λu s1 ⟨x,H1,I1,r1,n,ex,hz,q⟩=>?_);subst ex;obtain ⟨t,rfl⟩:=r1;refine Calls.spliced_nil ?_;refine call_range_1 ?_;refine Calls.spliced_nil ?_;have sl:=sizeLine_eq;have I2:Inv X pins σ H1 { s1 with heap:=s1.heap.push { cls:=.type "range",data:=.fields #[.int 0 s1.toks,.int (n:Int) t,.int 1 (s1.toks+1)] },toks:=s1.toks+1+1 }:=I1.kept λb o e=>Heap.get?_push_of_some _ e;refine call_list_range (I1.ok.hd hc) (IsRange.new ..) (small_one (by omega) (by omega) (by omega) (by omega)) (n:=n) (by rw [rangeSize_one];split<;>omega) (by omega) λh' tk acc c hk hS hI=>?_;have rv:zj ((List.range n).map λ(i:Nat)=>V.int (i:Int)) acc.toList:=WR (a:=0) (f:=λi=>(i:Int)) (by rw [Array.length_toList];exact hI.1) λi v hv=>by
  obtain ⟨t,e⟩:=hI.2 i v (by simpa using hv);exact ⟨t,by rw [e];simp⟩
 refine ⟨.ref _,_,I2.laid (t':=tk) hk (Nat.le_refl _) (show Z5 X.prog X.w _ h' _ (.lst _) from ⟨by simpa using hz,acc.toList,c,rv,by simpa using hS⟩),rfl,q _ (I2.hok.fresh (Nat.le_refl _))⟩
def W8 (te:TE3):TE3:=λτ G q=>te τ G λx G1=>match x with
 |.int k=>(0<=k/\k<=1000000)/\∀ p,G1 p=none->q (.ref p) (gu G1 p (.lst ((List.range k.toNat).map λ(i:Nat)=>T.int (i:Int))))
 |_=>False
def qaF {K:Frg} {H:Hp}:∀ (xs:List Nat),Rps K H (xs.map λ(i:Nat)=>T.int (i:Int)) (xs.map λ(i:Nat)=>V.int (i:Int))
 |[]=>.nil
 |x::xs=>.cons (.int _) (qaF xs)
def CV {e:Expr} {te:TE3} {p p2 pos pos2:Pos} (hc:X.calm=true) (hg:Gl X "list") (hm:X.mg "list" = none) (hg2:Gl X "range") (hm2:X.mg "range" = none) (he:jE3 X e te)
  (h1:starEach [e] X.env=(false,eval e X.env)::starEach [] X.env:=by rfl) (h2:starEach [.Call (.Name "range" p2) [e] [] pos2] X.env=(false,eval (.Call (.Name "range" p2) [e] [] pos2) X.env)::starEach [] X.env:=by rfl)
  (h3:(backTo pos (starEach [] X.env)).any (·.1)=false:=by rfl) (h4:(backTo pos2 (starEach [] X.env)).any (·.1)=false:=by rfl) :
  jE3 X (.Call (.Name "list" p) [.Call (.Name "range" p2) [e] [] pos2] [] pos) (W8 te):=
 ⟨U3 (qaZ hc hg hm hg2 hm2 he.h h1 h2 h3 h4) λ_ _ _ ⟨τ,G,q,rl,h,af⟩=>zl rl h λx G1 h1 v H1 rx hr1 k1 rl1=>by
  cases x<;>try exact h1.elim
  case int k=>
   cases rx;obtain ⟨⟨a,b⟩,h1⟩:=h1;refine ⟨k.toNat,by rw [Int.toNat_of_nonneg a],by rw [sizeLine_eq];omega,λl hl=>af _ _ (h1 l (hr1.free hl)) _ _ (.ref l) (hr1.newL hl (qaF _)) (k1.trans (Kp.newL hl))⟩⟩
def qnW:V->List V->Hp->VK->Prop:=λx vs H Q=>∃ l xs,∃ k:Nat,∃ y,x=.ref l/\vs=[.int (k:Int)]/\H l=some (.lst xs)/\xs[k]?=some y/\Q y (upd H l (.lst (xs.eraseIdx k)))
def WU:∀ {xs:List V} {its:List Value} (k:Nat),zj xs its->zj (xs.eraseIdx k) (its.eraseIdx k)
 |_,_,_,.nil=>by simp;exact .nil
 |_,_,0,.cons a b=>b
 |_,_,k+1,.cons a b=>.cons a (WU k b)
def T6:∀ {xs:List V} {its:List Value} {k:Nat} {y:V},zj xs its->xs[k]?=some y->∃ u,its[k]?=some u/\jk y u
 |_,_,_,_,.nil,h=>by simp at h
 |_,_,0,_,.cons a b,h=>by simp at h;subst h;exact ⟨_,rfl,a⟩
 |_,_,k+1,_,.cons a b,h=>by simpa using T6 (k:=k) b (by simpa using h)
def qkc:MtM X "list.pop" qnW:=by
 intro pins s σ H x vs v us Q I rx rv h;obtain ⟨l,xs,k,y,rfl,rfl,hH,hy,q⟩:=h;cases rx;obtain ⟨u,rfl,ru⟩:=rv.one;obtain ⟨t,rfl⟩:=ru;obtain ⟨z,its,n,r,hl,e⟩:=I.lstM hH;obtain ⟨w,hw,rw'⟩:=T6 r hy;have kl:k<its.length:=(List.getElem?_eq_some_iff.mp hw).1;have sl:=sizeLine_eq;have hf:Builtin.List.listFitsIndex (k:Int)=true:=by
  show (decide _&&decide _)=true;rw [Bool.and_eq_true,decide_eq_true_eq,decide_eq_true_eq];exact ⟨by omega,by omega⟩
 have hk:seqIndex? (k:Int) its.toArray.size=some k:=by
  rw [size_toArray];unfold seqIndex?;have c1:¬ ((k:Int)<0):=by omega
  simp only [c1,if_false];rw [if_pos (by rw [Bool.and_eq_true,decide_eq_true_eq,decide_eq_true_eq];omega),Int.toNat_natCast]
 have hw':its.toArray[k]?=some w:=by simpa using hw
 have hz':its.toArray.size<=sizeLine:=by rw [size_toArray];omega
 refine call_meets F.slot_list_pop ⟨_,e,rfl⟩ F.entry_list_pop (F.args_list_pop_2 _ _) (@PySem.MeetsSeq.list_pop_at l its.toArray n (k:Int) t k w hf hk hw' hz') ⟨e,?_⟩;refine ⟨y,_,I.lset (its':=its.eraseIdx k) (t':=s.toks) hH e ?_ (WU k r) ?_,rw',q⟩
 ·simp
 ·have:=List.length_eraseIdx_le xs k;omega
def qgn:T->List T->Gp->Q3->Prop:=λx xs G q=>match x,xs with
 |.ref l,[.int k]=>(match G l with|some (.lst ys)=>0<=k/\(match ys[k.toNat]? with|some y=>q y (gu G l (.lst (ys.eraseIdx k.toNat)))|none=>False)|_=>False)
 |_,_=>False
def CM {K:Frg} {H:Hp}:∀ {xs:List T} {vs:List V} (k:Nat),Rps K H xs vs->Rps K H (xs.eraseIdx k) (vs.eraseIdx k)
 |_,_,_,.nil=>by simp;exact .nil
 |_,_,0,.cons a b=>b
 |_,_,k+1,.cons a b=>.cons a (CM k b)
def qaM {K:Frg} {H:Hp}:∀ {xs:List T} {vs:List V} {k:Nat} {y:T},Rps K H xs vs->xs[k]?=some y->∃ v,vs[k]?=some v/\Rp K H y v
 |_,_,_,_,.nil,h=>by simp at h
 |_,_,0,_,.cons a b,h=>by simp at h;subst h;exact ⟨_,rfl,a⟩
 |_,_,k+1,_,.cons a b,h=>by simpa using qaM (k:=k) b (by simpa using h)
def qfA {K:Frg}:qk9 K qgn qnW:=λx xs v vs G H q Q hr rx rs h af=>by
 unfold qgn at h;split at h
 ·rename_i l k;split at h
  ·rename_i ys e0;obtain ⟨k0,h⟩:=h;split at h
   ·rename_i y e1;cases rx;obtain ⟨u,rfl,r⟩:=CL rs;cases r;obtain ⟨us,g1,r2⟩:=hr l _ e0;obtain ⟨w,e2,ry⟩:=qaM r2 e1;obtain ⟨m,rfl⟩:=Int.eq_ofNat_of_zero_le k0;rw [Int.toNat_natCast] at e2 h;have k:=Kp.wr (G:=G) (H:=H) (p:=l) (ho:=.lst (us.eraseIdx m)) (o':=.lst (ys.eraseIdx m)) e0;refine ⟨l,us,m,w,rfl,rfl,g1,e2,af _ _ h _ _ (ry.keep hr k) (hr.wr e0 (CM m r2)) k⟩
   ·exact h.elim
  ·exact h.elim
 ·exact h.elim
def qjY {t:TA3} {e:Expr} {o:Expr} {to:TE3} {apos cpos:Pos} (ho:jE3 X o to) (ha:jA3 X [e] t)
  (hbase:attributeBase o "pop" X.env (eval o X.env)=eval o X.env:=by rfl)
  (hfew:((backTo cpos (starEach [e] X.env)).all (λx=>!x.1)&&(backToKw cpos (keywordEach [] X.env)).all (λx=>x.1.isSome)
   && decide (([e]:List Expr).length+([]:List Keyword).length+(if ([]:List Keyword).isEmpty then 0 else 1)<30))=true:=by rfl)
  (hline:(apos.endLine==cpos.line)=true:=by rfl) (hs:starEach [e] X.env=(false,eval e X.env)::starEach [] X.env:=by rfl) (hplain:(backTo cpos (starEach [] X.env)).any (·.1)=false:=by rfl) :
  jE3 X (.Call (.Attribute o "pop" apos) [e] [] cpos) (bm3 qgn to t):=⟨qny PySem.F.slot_list_pop PySem.F.type_list_pop qkc qfA ho.h ha.h hbase hfew hline hs hplain⟩
end
section
variable {prog:Program} {w:World} {A:Around} {E:Value->Shared->Prop} {s:Shared}
def qag {l:Addr} {vs:List Value} {Q:List Value->Shared->Prop} (hl:IsTup s.heap l vs.toArray) (hz:vs.length<=sizeLine)
  (h:Q vs { s with heap:=(s.heap.push (seqObj "list" #[] 0)).update s.heap.objs.size (Obj.mapSeq (·++vs.toArray)) }):wpAny (model prog w) A (collect (.ref l)) Q E s:=by
 obtain ⟨ob,e1,e2,m,e3⟩:=hl;have e4:(s.heap.push (seqObj "list" #[] 0)).get? l=some ob:=Heap.get?_push_of_some _ e1;have e5:(s.heap.push (seqObj "list" #[] 0)).get? s.heap.objs.size=some (seqObj "list" #[] 0):=Heap.get?_push_size _ rfl;unfold collect;refine wpAny_bind (wpAny_runValue (codeAny_builtin entry_proto_collect' (show wpAny _ _ (do again (.builtin "list.__iadd__" ⟨[← newList [],.ref l],[]⟩)) _ _ s from wpAny_bind (wpAny_newList (wpAny_pure ⟨Code.quiet_builtin _ (by decide +kernel),codeAny_builtin entry_list_iadd' ?_⟩)))));show wpAny _ _ (Builtin.List.listExtendWith (.ref s.heap.objs.size) (.ref l) (.ref s.heap.objs.size)) _ _ { s with heap:=s.heap.push (seqObj "list" #[] 0) };unfold Builtin.List.listExtendWith;refine wpAny_bind (wpAny_typeOf (T:="tuple") ⟨ob,e4,e2⟩ ?_);have tt:(Value.type "tuple" == Value.type "tuple")=true:=by rfl
 rw [if_pos (by rw [tt];simp)];refine wpAny_bind (listItems_at e4 e3 (wpAny_bind (listItems_at (xs:=#[]) (n:=0) e5 rfl ?_)));rw [if_neg (by simp)];refine wpAny_bind (listUpdate_at (xs:=#[]) (n:=0) e5 rfl (wpAny_pure ?_) (Nat.zero_le _) (by show (#[]++vs.toArray).size<=sizeLine+1;simp only [Array.size_append,size_toArray,length_nil];omega));show wpAny (model prog w) A (do
   let o←load s.heap.objs.size
   match o.data with
   |.seq xs _=>pure xs.toList
   |_=>unsupported "internal:collect") Q E { s with heap:=(s.heap.push (seqObj "list" #[] 0)).update s.heap.objs.size (Obj.mapSeq (·++vs.toArray)) }
 refine wpAny_bind (wpAny_load (get?_update_seq e5 _) ?_);have e6:((#[]:Array Value)++vs.toArray).toList=vs:=by simp
 show wpAny _ _ (pure ((#[]:Array Value)++vs.toArray).toList) Q E _;rw [e6];exact wpAny_pure h
def qb0 {l:Addr} {vs:List Value} {ns:List Int} {Q:Value->Shared->Prop} (hl:IsTup s.heap l vs.toArray) (hI:IntsAre vs ns) (h64:vs.length<64)
  (h:∀ (out:Array Value) (ms:List Int),IntsAre out.toList ms->ms.Perm ns->ms.Pairwise (·<=·)->Q (.ref (s.heap.objs.size+1)) { s with heap:=sortedAll s.heap vs out }):wpAny (model prog w) A (call (.builtin "sorted") [.ref l]) Q E s:=by
 have hsz:((s.heap.push (seqObj "list" #[] 0)).update s.heap.objs.size (Obj.mapSeq (·++vs.toArray))).objs.size=s.heap.objs.size+1:=by rw [Heap.size_update,size_push']
 have hoL:(((s.heap.push (seqObj "list" #[] 0)).update s.heap.objs.size (Obj.mapSeq (·++vs.toArray))).push (seqObj "list" vs.toArray 0)).get? (s.heap.objs.size+1)=some (seqObj "list" vs.toArray 0):=by rw [← hsz];exact Heap.get?_push_size _ rfl
 refine Calls.call_function_entry kind_sorted plain_sorted entry_sorted (args_sorted1 _) ?_;unfold Builtin.«sorted»;refine wpAny_bind (m:=checkCount "sorted" 1 1 _) (wpAny_pure (wpAny_bind (qag hl (by rw [sizeLine_eq];omega) (wpAny_bind (wpAny_newList ?_)))));show wpAny _ _ _ _ _ { s with heap:=((s.heap.push (seqObj "list" #[] 0)).update s.heap.objs.size (Obj.mapSeq (·++vs.toArray))).push (seqObj "list" vs.toArray 0) };rw [hsz];exact wpAny_bind (wpAny_holding (wpAny_call_entry slot_list_sort ⟨_,hoL,rfl⟩ entry_list_sort (list_sort_tree hoL hI h64 λout ms a1 a2 a3=>⟨_,rfl,wpAny_pure ⟨_,rfl,h out ms a1 a2 a3⟩⟩) (args_list_sort _)))
end
section
variable {X:Cx}
def RE:JM X (.builtin "sorted") (λxs H Q=>∃ (p:Addr) (ns:List Int),xs=[.ref p]/\SqT X.K H p (ns.map V.int)/\ns.length<64/\∀ l (ms:List Int),H l=none->ms.Perm ns->ms.Pairwise (·<=·)->Q (.ref l) (upd H l (.lst (ms.map V.int)))):=by
 intro pins s σ H xs us Q I r h;obtain ⟨p,ns,rfl,hq,hl,q⟩:=h;obtain ⟨u,rfl,rp⟩:=W4 r;cases (show u=Value.ref p from rp);obtain ⟨its,rv,pl,hz⟩:=I.tuple hq;have hlen:its.length=ns.length:=by have:=rv.length;simp at this;omega
 refine qb0 (vs:=its) pl (JY rv) (by omega) λout ms a1 a2 a3=>?_;obtain ⟨e,he⟩:=sortedAll_at s.heap its out;have hm:ms.length<=sizeLine:=by have:=a2.length_eq;simp at hz;omega
 have ho:out=out.toList.toArray:=by simp
 refine ⟨.ref (s.heap.objs.size+1),_,I.laid (t':=s.toks) (o:=.lst (ms.map V.int)) (λb o hb=>sortedAll_old hb) (Nat.le_succ _) ⟨by simpa using hm,out.toList,e,M8 a1,?_⟩,rfl,q _ ms (I.hok.fresh (Nat.le_succ _)) a2 a3⟩;rw [← ho];exact he
def C8:List T->Gp->Q3->Prop:=λxs G q=>match xs with
 |[.tup ys]=>(match WY ys with|some ns=>ns.length<64/\∀ l (ms:List Int),G l=none->ms.Perm ns->ms.Pairwise (·<=·)->q (.ref l) (gu G l (.lst (ms.map T.int)))|none=>False)
 |_=>False
def L7 {K:Frg}:LB K C8 (λxs H Q=>∃ (p:Addr) (ns:List Int),xs=[.ref p]/\SqT K H p (ns.map V.int)/\ns.length<64/\∀ l (ms:List Int),H l=none->ms.Perm ns->ms.Pairwise (·<=·)->Q (.ref l) (upd H l (.lst (ms.map V.int)))):=λxs vs G H q Q hr rs h af=>by
 unfold C8 at h;split at h
 ·rename_i ys;obtain ⟨v,rfl,r⟩:=CL rs;split at h
  ·rename_i ns e0;have:=EQ e0;subst this;cases r with
   |tup hs r2=>
    have:=EK r2;subst this;exact ⟨_,ns,rfl,hs,h.1,λl ms hl hp ho=>af _ _ (h.2 l ms (hr.free hl) hp ho) _ _ (.ref l) (hr.newL hl (KZ ms)) (Kp.newL hl)⟩
  ·exact h.elim
 ·exact h.elim
end
def qaQ:Sp3:=λ_ _ _=>False
def jR {P:Program} {w:World} {K:Frg} {mg:Str->Option Value} {base:Heap} {x qual:Str} {st:Stmt} {f:Addr} {fd:FuncData} {ps:List Str} (F:Fun K x qual st f fd) (bd:zJ K fd ps []) (hm:mg x=some (.ref f)):Fn3 P w K mg base 0 x qaQ:=
 ⟨f,fd,ps,⟨λvs H Q E ⟨_,_,_,_,_,h,_⟩=>h.elim,λA outer s H args us vs Q E _ _ _ _ ⟨_,_,_,_,_,h,_⟩=>h.elim⟩,bd,F.kp,hm⟩
def ixR (p:Addr) (i:Int) (G:Gp) (q:Q3):ix3 (.ref p) (.int i) G q=(match getL G p with|some xs=>(match L2.atI xs i with|some z=>q z G|none=>False)|none=>False):=rfl
def qbm {α:Type} {xs:List α} {i:Int} (h0:0<=i) (h1:i<(xs.length:Int)):L2.atI xs i=xs[i.toNat]?:=by
 unfold L2.atI ixN;have e1:i.toNat<xs.length:=by omega
 simp [h0,e1,h1]
def cm {i j:Int} (h1:-1000000<j) (h2:j<1000000):EC i j:=.inr ⟨by omega,by omega⟩
def qbt {stay:Gp->Prop} {g:TG3} {tif:TT3} {te:TE3} {q:Q3} (items:List T) (Pv:Nat->List T->St3->Gp->Prop) {τ:St3} {G:Gp} (h0:Pv 0 [] τ G) (hst:∀ i ys τ G,i<=items.length->Pv i ys τ G->stay G)
  (hs:∀ i x ys τ G (R:List T->St3->Gp->Prop),items[i]?=some x->Pv i ys τ G->(∀ ys' τ' G',Pv (i+1) ys' τ' G'->R ys' τ' G') ->
   g x τ G λτ2 G2=>tif τ2 G2 λk G3=>if k=true then te τ2 G3 λy G4=>ys.length<sizeLine/\R (ys++[y]) τ2 G4 else R ys τ2 G3)
  (hd:∀ ys τ G,Pv items.length ys τ G->∀ p,G p=none->q (.ref p) (gu G p (.lst ys))):TF stay g tif te q items [] τ G:=by
 have key:∀ (r:List T) (i:Nat) ys τ G,items.drop i=r->i<=items.length->Pv i ys τ G->TF stay g tif te q r ys τ G:=by
  intro r;induction r with
  |nil=>
   intro i ys τ G e hi p;have:i=items.length:=by have:=congrArg List.length e;simp at this;omega
   subst this;exact ⟨hst _ ys τ G hi p,hd ys τ G p⟩
  |cons x r ih=>
   intro i ys τ G e hi p;have hl:i<items.length:=by
    apply Classical.byContradiction;intro z;rw [List.drop_eq_nil_of_le (by omega)] at e;cases e
   have e':=List.drop_eq_getElem_cons hl;rw [e] at e';injection e' with e1 e2;exact ⟨hst i ys τ G hi p,hs i x ys τ G _ (by rw [getElem?_eq_getElem hl,e1]) p λys2 τ2 G2 p2=>ih (i+1) ys2 τ2 G2 e2.symm hl p2⟩
 exact key items 0 [] τ G (by simp) (Nat.zero_le _) h0
def qeR {lo:Int} {n i:Nat} {x:T} (h:(NR lo n)[i]?=some x):i<n/\x=T.int (lo+(i:Int)):=by
 unfold NR at h;rw [getElem?_map] at h;cases e:(List.range n)[i]? with
 |none=>rw [e] at h;cases h
 |some k=>
  rw [e] at h;obtain ⟨hi,hk⟩:=List.getElem?_eq_some_iff.mp e;simp at hi hk;subst hk;exact ⟨hi,by simpa using h.symm⟩
end L3
namespace Bk
open PySem L2 L3
def ZQ:TS3:=(zz (ZM (YW (λt=>qZ t "int") (v3 0)) (LO (YW (λt=>qZ t "bool") (v3 0)))))
def VT:TS3:=(qY (zQ (o3 (iC (λ_ j=>0<j) (·%·)) (o3 (iC EC (·*·)) (o3 V1 (o3 V1 (o3 (iC (λ_ j=>0<j) (·%·)) (v3 0) (c3 (.int 2147483629))) (o3 (iC EC (·*·)) (o3 (iC EC (·*·)) (v3 1) (v3 1)) (c3 (.int 7919)))) (c3 (.int 11))) (c3 (.int 48271))) (c3 (.int 2147483647))) (gn3 2)) (zz (o3 (iC (λ_ j=>0<j) (·%·)) (o3 (iC EC (·*·)) (v3 2) (v3 2)) (c3 (.int 1999999973)))))
def J1:TS3:=(qY (zQ (if3 (tb3 (o3 (iB λi j=>decide (i<j)) (v3 1) (cb3 V2 (qc (v3 0) ql)))) (o3 ix3 (v3 0) (v3 1)) (c3 (.int 0))) (gn3 2)) (qY (zQ (if3 (tb3 (o3 (iB λi j=>decide (j<=i)) (cb3 qkt (qc (v3 2) ql)) (o3 (iC qhO (λi j=>i ^ j.toNat)) (c3 (.int 10)) (c3 (.int 18))))) (cb3 qkt (qc (v3 2) ql)) (c3 (.int 0))) (gn3 3)) (zz (RN (qc (v3 3) (qc (o3 V1 (v3 2) (o3 (iC EC (·*·)) (c3 (.int 1000003)) (v3 1))) (qc (c3 (.int 0)) ql)))))))
def JW (S_law_mix:Sp3):TS3:=(qY (zQ (o3 V1 (o3 ix3 (v3 0) (c3 (.int 2))) (c3 (.int 1))) (UF (v3 0) (c3 (.int 2)))) (qY (QB (tb3 (o3 (iB λi j=>decide (j<i)) (o3 ix3 (v3 0) (c3 (.int 0))) (c3 (.int 0)))) (qY (zQ (o3 (iC (λ_ j=>0<j) (·%·)) (o3 ix3 (v3 0) (c3 (.int 0))) (v3 1)) (gn3 2)) (qY (zQ (o3 (iC Q7 (·/·)) (o3 ix3 (v3 0) (c3 (.int 0))) (v3 1)) (UF (v3 0) (c3 (.int 0)))) (zz (v3 2)))) za) (zz (o3 (iC (λ_ j=>0<j) (·%·)) (o3 (iC Q7 (·/·)) (cb3 S_law_mix (qc (cb3 S_law_mix (qc (o3 ix3 (v3 0) (c3 (.int 1))) (qc (o3 ix3 (v3 0) (c3 (.int 2))) ql))) (qc (o3 V1 (o3 ix3 (v3 0) (c3 (.int 2))) (c3 (.int 64))) ql))) (c3 (.int 64))) (v3 1)))))
def UH (S_law_same:Sp3):TS3:=(qY (QB (tb3 (YW (λt=>qZ t "list" || qZ t "tuple") (v3 1))) (qY (QB (or3 (tb3 (o3 (QK true) (YW (λt=>qZ t "list") (v3 0)) (YW (λt=>qZ t "list") (v3 1)))) (tb3 (o3 (QK true) (YW (λt=>qZ t "tuple") (v3 0)) (YW (λt=>qZ t "tuple") (v3 1))))) (zz (c3 (.bl false))) za) (zz (ZM (o3 (QK false) (cb3 V2 (qc (v3 0) ql)) (cb3 V2 (qc (v3 1) ql))) (cb3 MH (qc (lc3 (X6 (qc (v3 0) (qc (v3 1) ql))) (EA 2 (zk (gn3 0) (zk (gn3 1) U9))) tt3 (cb3 S_law_same (qc (v3 0) (qc (v3 1) ql))) [none,none]) ql))))) za) (qY (QB (or3 (tb3 (o3 (qf7 false) (v3 1) (c3 .non))) (tb3 (YW (λt=>qZ t "str" || qZ t "bool") (v3 1)))) (zz (ZM (o3 (QK false) (v3 0) (v3 1)) (ZM (o3 (QK false) (YW (λt=>qZ t "bool") (v3 0)) (YW (λt=>qZ t "bool") (v3 1))) (o3 (QK false) (o3 (qf7 false) (v3 0) (c3 .non)) (o3 (qf7 false) (v3 1) (c3 .non)))))) za) (zz (ZM (YW (λt=>qZ t "int") (v3 0)) (ZM (LO (YW (λt=>qZ t "bool") (v3 0))) (o3 (QK false) (v3 0) (v3 1)))))))
abbrev qlr (q:Q3):Ends3:={ nx:=λ_ G'=>q .non G',rt:=q }
def RI {A B:TS3} {d:Ends3} {τ:St3} {G:Gp} (h:∀ nx,nx=B d->A { d with nx:=nx } τ G):qY A B d τ G:=h _ rfl
def Lf (G:Gp) (a:Addr) (n:Int):Prop:=∃ o c m,G a=some (.lst [.int o,.int c,.int m])/\0<=o/\0<=m/\m<=n
def Ext (a:Addr) (G G':Gp):Prop:=∀ b o,b≠a->G b=some o->G' b=some o
def Lf.new {G:Gp} {a p:Addr} {n:Int} {ob:O} (h:Lf G a n) (hp:p≠a):Lf (gu G p ob) a n:=by
 obtain ⟨o,c,m,e,r⟩:=h;exact ⟨o,c,m,by rw [jF (Ne.symm hp)];exact e,r⟩
def Lf.mono {G:Gp} {a:Addr} {n k:Int} (h:Lf G a n) (hk:n<=k):Lf G a k:=by
 obtain ⟨o,c,m,e,h1,h2,h3⟩:=h;exact ⟨o,c,m,e,h1,h2,by omega⟩
def Lf.ex {G G':Gp} {a:Addr} {n:Int} (h:Lf G a n) (e:Ex G G'):Lf G' a n:=by
 obtain ⟨o,c,m,e1,h1⟩:=h;exact ⟨o,c,m,e _ _ e1,h1⟩
def Ext.refl {a:Addr} {G:Gp}:Ext a G G:=λ_ _ _ e=>e
def Ext.trans {a:Addr} {G G1 G2:Gp} (x:Ext a G G1) (y:Ext a G1 G2):Ext a G G2:=λb o hb e=>y b o hb (x b o hb e)
def Y8 {a:Addr} {G G':Gp} (h:Ex G G'):Ext a G G':=λb o _ e=>h b o e
def WN:Sp3:=λts G q=>∃ c k,ts=[.int c,.int k]/\0<=k/\k<4294967296/\∀ m,0<=m->m<1999999973->q (.int m) G
def ZD:Sp3:=λts G q=>∃ (a:Addr) (k:Int) (ns:List Int),ts=[.ref a,.int k]/\G a=some (.frz (ns.map T.int))/\ns.length<=63/\0<=k/\k<=63/\∀ p o c,G p=none->0<=o->q (.ref p) (gu G p (.lst [.int o,.int c,.int 0]))
def qD:Sp3:=λts G q=>∃ a n many,ts=[.ref a,.int many]/\1<=many/\many<1073741824/\Lf G a n/\n<1073741824/\∀ d G',0<=d->d<many->Lf G' a (n+1)->Ext a G G'->q (.int d) G'
def LN:∀ ts G q,WN ts G q->ts.length=2/\VT (qlr q) (qE ["_law_cell","_law_k","_law_m"] ts) G:=by
 rintro ts G q ⟨c,k,rfl,h1,h2,h⟩;refine ⟨rfl,?_⟩;simp only [VT,qY,zQ,o3,v3,qE,map_cons,List.map_nil,length_cons,length_nil,Nat.zero_add,Nat.reduceAdd,Nat.reduceSub,List.replicate_one,cons_append,List.nil_append,Nat.zero_lt_succ,getElem?_pos,getElem_cons_zero,c3,iC,Int.reduceLT,Nat.reduceLT,getElem_cons_succ,V1,gn3,zz,set_cons_succ,set_cons_zero,Nat.lt_add_one,true_and];exact ⟨.inl ⟨by omega,by omega⟩,cm (by omega) (by omega),cm (by omega) (by omega),.inl ⟨by omega,by omega⟩,h _ (Int.emod_nonneg _ (by omega)) (Int.emod_lt_of_pos _ (by omega))⟩
def cp:qhO 10 18:=⟨by decide,by decide,by decide⟩
def TB:∀ ts G q,ZD ts G q->ts.length=2/\J1 (qlr q) (qE ["_law_script","_law_k","_law_cell","_law_own"] ts) G:=by
 rintro ts G q ⟨a,k,ns,rfl,hG,hl,h1,h2,h⟩;refine ⟨rfl,?_⟩;simp only [J1,qY,zQ,if3,tb3,o3,v3,qE,map_cons,List.map_nil,length_cons,length_nil,Nat.zero_add,Nat.reduceAdd,Nat.reduceSub,List.reduceReplicate,cons_append,List.nil_append,Nat.reduceLT,getElem?_pos,getElem_cons_succ,getElem_cons_zero,cb3,qc,Nat.zero_lt_succ,ql,V2,getL,hG,iB,length_map,decide_eq_true_eq,gn3,set_cons_succ,set_cons_zero,qkt,c3,iC,Int.reduceToNat,Int.reducePow,zz,RN,Nat.lt_add_one,V1,ne_eq,sizeLine_eq,Nat.reduceLeDiff,true_and,gu,ixR,atI,ixN,getElem?_map,Int.lt_irrefl,↓reduceIte,Int.reduceLE,decide_false,Bool.false_eq_true,Int.zero_add];have ck:EC 1000003 k:=cm (by omega) (by omega);by_cases hk:k<ns.length
 ·have hk':k.toNat<ns.length:=by omega
  simp [hk,h1,hk',cp,ck];split
  ·split
   ·exact λp hp=>h p (-ns[k.toNat]) _ hp (by omega)
   ·exact λp hp=>h p 0 _ hp (by omega)
  ·split
   ·exact λp hp=>h p ns[k.toNat] _ hp (by omega)
   ·exact λp hp=>h p 0 _ hp (by omega)
 ·simp [hk,cp,ck];exact λp hp=>h p 0 _ hp (by omega)
def SS:∀ ts G q,qD ts G q->ts.length=2/\JW WN (qlr q) (qE ["_law_left_here","_law_many","_law_digit"] ts) G:=by
 rintro ts G q ⟨a,n,many,rfl,m1,m2,⟨o,c,m,hG,ho,hm,hn⟩,h3,h⟩;refine ⟨rfl,?_⟩;unfold JW;refine RI λnx1 q1=>?_;simp only [zQ,o3,v3,qE,map_cons,List.map_nil,length_cons,length_nil,Nat.zero_add,Nat.reduceAdd,Nat.reduceSub,List.replicate_one,cons_append,List.nil_append,Nat.zero_lt_succ,getElem?_pos,getElem_cons_zero,c3,V1,ne_eq,sizeLine_eq,UF,qcQ,ixN,Int.zero_le_ofNat,↓reduceIte,Int.reduceToNat,tb3,iB,decide_eq_true_eq,Nat.reduceLT,getElem_cons_succ,iC,gn3,set_cons_succ,set_cons_zero,Std.le_refl,Int.natCast_pos,Int.toNat_zero,zz,Nat.lt_add_one,ixR,getL,atI,za,cb3,qc,ql,Int.toNat_one,List.length_set,hG,Int.cast_ofNat_Int,Int.reduceLT,Option.bind_some,qL];rw [q1];clear q1;refine RI λnx2 q2=>?_;simp only [QB,zQ,o3,v3,qE,map_cons,List.map_nil,length_cons,length_nil,Nat.zero_add,Nat.reduceAdd,Nat.reduceSub,List.replicate_one,cons_append,List.nil_append,Nat.zero_lt_succ,getElem?_pos,getElem_cons_zero,c3,V1,ne_eq,sizeLine_eq,UF,qcQ,ixN,Int.zero_le_ofNat,↓reduceIte,Int.reduceToNat,tb3,iB,decide_eq_true_eq,Nat.reduceLT,getElem_cons_succ,iC,gn3,set_cons_succ,set_cons_zero,Std.le_refl,Int.natCast_pos,Int.toNat_zero,zz,Nat.lt_add_one,ixR,getL,atI,za,cb3,qc,ql,Int.toNat_one,List.length_set,hG,Int.cast_ofNat_Int,Int.reduceLT,Option.bind_some,qL];split
 ·simp only [qY,zQ,o3,v3,length_cons,length_nil,Nat.zero_add,Nat.reduceAdd,Nat.zero_lt_succ,getElem?_pos,getElem_cons_zero,c3,Nat.reduceLT,getElem_cons_succ,iC,gn3,set_cons_succ,set_cons_zero,UF,qcQ,ixN,Std.le_refl,↓reduceIte,Int.natCast_pos,Int.toNat_zero,zz,Nat.lt_add_one,ixR,getL,atI,qL,Int.cast_ofNat_Int,Int.reduceLT,Option.bind_some];refine ⟨by omega,⟨by omega,m2⟩,h _ _ (Int.emod_nonneg _ (by omega)) (Int.emod_lt_of_pos _ (by omega)) ⟨o/many,c,m+1,qL,Int.ediv_nonneg ho (by omega),by omega,by omega⟩ λb ob hb e=>?_⟩;rw [jF hb,jF hb];exact e
 ·rw [q2];clear q2;simp only [zQ,o3,v3,qE,map_cons,List.map_nil,length_cons,length_nil,Nat.zero_add,Nat.reduceAdd,Nat.reduceSub,List.replicate_one,cons_append,List.nil_append,Nat.zero_lt_succ,getElem?_pos,getElem_cons_zero,c3,V1,ne_eq,sizeLine_eq,UF,qcQ,ixN,Int.zero_le_ofNat,↓reduceIte,Int.reduceToNat,tb3,iB,decide_eq_true_eq,Nat.reduceLT,getElem_cons_succ,iC,gn3,set_cons_succ,set_cons_zero,Std.le_refl,Int.natCast_pos,Int.toNat_zero,zz,Nat.lt_add_one,ixR,getL,atI,za,cb3,qc,ql,Int.toNat_one,List.length_set,hG,Int.cast_ofNat_Int,Int.reduceLT,Option.bind_some,qL];refine ⟨c,m+1,rfl,by omega,by omega,λu u1 u2=>?_⟩;simp only [zQ,o3,v3,qE,map_cons,List.map_nil,length_cons,length_nil,Nat.zero_add,Nat.reduceAdd,Nat.reduceSub,List.replicate_one,cons_append,List.nil_append,Nat.zero_lt_succ,getElem?_pos,getElem_cons_zero,c3,V1,ne_eq,sizeLine_eq,UF,qcQ,ixN,Int.zero_le_ofNat,↓reduceIte,Int.reduceToNat,tb3,iB,decide_eq_true_eq,Nat.reduceLT,getElem_cons_succ,iC,gn3,set_cons_succ,set_cons_zero,Std.le_refl,Int.natCast_pos,Int.toNat_zero,zz,Nat.lt_add_one,ixR,getL,atI,za,cb3,qc,ql,Int.toNat_one,List.length_set,hG,Int.cast_ofNat_Int,Int.reduceLT,Option.bind_some,qL];refine ⟨u,m+1+64,rfl,by omega,by omega,λv v1 v2=>?_⟩;refine ⟨⟨by omega,by omega⟩,by omega,h _ _ (Int.emod_nonneg _ (by omega)) (Int.emod_lt_of_pos _ (by omega)) ⟨o,c,m+1,qL,ho,by omega,by omega⟩ λb ob hb e=>?_⟩;rw [jF hb];exact e
def VG:Nat->PyData->Prop
 |_,.none=>True
 |_,.bool _=>True
 |_,.int _=>True
 |_,.str _=>True
 |n+1,.list ds=>ds.length<=1000000/\∀ d∈ds,VG n d
 |n+1,.tuple ds=>ds.length<=1000000/\∀ d∈ds,VG n d
 |_,_=>False
def jn:Nat->Sp3
 |0=>qaQ
 |n+1=>λts G q=>∃ (x y:T) (d:PyData),ts=[x,y]/\Dp G x d/\Dp G y d/\VG n d/\∀ G',Ex G G'->q (.bl true) G'
def T7 {G G':Gp} (e:Ex G G') {x:T} {us:List T} (h:jK G x=some us):jK G' x=some us:=by
 cases x<;>simp [jK] at h ⊢
 ·exact h
 ·exact e.getL h
def qcc (n:Nat):qcA (List.replicate n (.bl true))=some true:=by
 induction n with
 |zero=>rfl
 |succ n ih=>rw [List.replicate_succ];simp [qcA,ih]
def TU {G:Gp} {n:Nat} {x y:T} {us vs:List T} {ds:List PyData} {q:Q3} (hx:jK G x=some us) (hy:jK G y=some vs) (du:Dps G us ds) (dv:Dps G vs ds) (hl:us.length<=1000000) (hd:∀ d∈ds,∃ m,n=m+1/\VG m d) (h:∀ G',Ex G G'->q (.bl true) G') :
  TF (λG=>jK G x=some us/\jK G y=some vs) (EA 2 (zk (gn3 0) (zk (gn3 1) U9))) tt3 (cb3 (jn n) (qc (v3 0) (qc (v3 1) ql))) (λx G1=>MH [x] G1 q) (qa9 us vs) [] [none,none] G:=by
 have e1:=du.length;have e2:=dv.length;refine qbt _ (λi ys τ G'=>Ex G G'/\ys=List.replicate i (.bl true)/\∃ x0 x1,τ=[x0,x1]) ⟨Ex.refl,rfl,none,none,rfl⟩ (λi ys τ G' _ hp=>⟨T7 hp.1 hx,T7 hp.1 hy⟩) ?_ ?_
 ·rintro i z ys τ G' R hz ⟨E,rfl,x0,x1,rfl⟩ hR;obtain ⟨a,b,ha,hb,rfl⟩:=XF hz;obtain ⟨d,hd1,da⟩:=du.get ha;obtain ⟨d',hd2,db⟩:=dv.get hb;rw [hd1] at hd2;cases hd2;obtain ⟨m,rfl,dl⟩:=hd d (mem_of_getElem? hd1);have hi:=(List.getElem?_eq_some_iff.mp ha).1;simp only [EA,length_cons,length_nil,Nat.zero_add,Nat.reduceAdd,zk,gn3,U9,tt3,↓reduceIte,cb3,qc,v3,set_cons_zero,set_cons_succ,Nat.zero_lt_succ,getElem?_pos,getElem_cons_zero,Nat.lt_add_one,getElem_cons_succ,ql,List.length_replicate,sizeLine_eq,true_and];refine ⟨a,b,d,rfl,da.up E,db.up E,dl,λG2 E2=>⟨by omega,hR _ _ _ ⟨E.trans E2,?_,_,_,rfl⟩⟩⟩;rw [List.replicate_succ']
 ·rintro ys τ G' ⟨E,rfl,x0,x1,rfl⟩ p hp;simp [MH,getL,qL,qcc];exact h _ (E.trans (jP hp))
def qbA {n:Nat} {ds:List PyData} (h:VG n (.list ds)):ds.length<=1000000/\∀ d∈ds,∃ m,n=m+1/\VG m d:=by
 cases n with
 |zero=>exact h.elim
 |succ n=>exact ⟨h.1,λd hd=>⟨n,rfl,h.2 d hd⟩⟩
def qar {n:Nat} {ds:List PyData} (h:VG n (.tuple ds)):ds.length<=1000000/\∀ d∈ds,∃ m,n=m+1/\VG m d:=by
 cases n with
 |zero=>exact h.elim
 |succ n=>exact ⟨h.1,λd hd=>⟨n,rfl,h.2 d hd⟩⟩
def qin {x:T} {G:Gp} {q:Q3} (h:U8 x x=some true) (k:q (.bl true) G):QK false x x G q:=by
 unfold QK;rw [h];exact k
def MB {ta tb:TE3} {e:Ends3} {τ:St3} {G:Gp} {x:T} (h:∀ q',q' x G->ta τ G q') (k:x=.bl true) (h2:tb τ G e.rt):zz (ZM ta tb) e τ G:=h _ (by subst k;exact h2)
def qnT {ta tb:TE3} {τ:St3} {G:Gp} {x:T} (ha:∀ q',q' x G->ta τ G q') (hb:∀ q',q' x G->tb τ G q') (h:U8 x x=some true):∀ q',q' (.bl true) G->o3 (QK false) ta tb τ G q':=λq' k=>ha _ (hb _ (qin h k))
def K5 {c:TT3} {a b:TS3} {e:Ends3} {τ:St3} {G:Gp} (h:∀ A,A=a->QB c A b e τ G):QB c a b e τ G:=h _ rfl
def ZT (n:Nat):∀ ts G q,jn (n+1) ts G q->ts.length=2/\UH (jn n) (qlr q) (qE ["_law_found","_law_due"] ts) G:=by
 rintro ts G q ⟨x,y,d,rfl,hx,hy,hd,h⟩;refine ⟨rfl,?_⟩;have h0:=h G Ex.refl;cases hx with
 |non=>cases hy;exact h0
 |bl b=>cases hy;cases b<;>exact h0
 |int i=>cases hy;exact qin (x:=.int i) (by simp [U8]) h0
 |str s=>
  cases hy;refine RI λnx1 q1=>?_;refine K5 λA1 hA=>?_;clear hA;show nx1 _ _;rw [q1];clear q1;refine RI λnx2 q2=>?_;refine K5 λA2 hA=>?_;show A2 _ _ _;rw [hA];exact MB (qnT (x:=.str s) (λ_ k=>k) (λ_ k=>k) (by simp [U8])) rfl h0
 |tup dx=>
  cases hy with
  |tup dy=>
   rename_i xs ds ys;have e1:=dx.length;have e2:=dy.length;obtain ⟨l1,l2⟩:=qar hd;have key:=TU (n:=n) (x:=.tup xs) (y:=.tup ys) (us:=xs) (vs:=ys) (q:=q) rfl rfl dx dy (by omega) l2 h;have e3:xs.length=ys.length:=by omega
   refine RI λnx1 q1=>?_;clear q1;refine K5 λA1 hA=>?_;show A1 _ _ _;rw [hA];clear hA;refine RI λnx2 q2=>?_;refine K5 λA2 hA=>?_;show nx2 _ _;rw [q2];clear q2;exact MB (qnT (x:=.int ys.length) (λ_ k=>by rw [← e3] at k;exact k) (λ_ k=>k) (by simp [U8])) rfl key
 |lst gx dx=>
  cases hy with
  |lst gy dy=>
   rename_i p1 xs ds p2 ys;have e1:=dx.length;have e2:=dy.length;obtain ⟨l1,l2⟩:=qbA hd;have key:=TU (n:=n) (x:=.ref p1) (y:=.ref p2) (us:=xs) (vs:=ys) (q:=q) gx gy dx dy (by omega) l2 h;have e3:xs.length=ys.length:=by omega
   refine RI λnx1 q1=>?_;clear q1;refine K5 λA1 hA=>?_;simp only [QB,tb3,YW,v3,qE,map_cons,List.map_nil,length_cons,length_nil,Nat.zero_add,Nat.reduceAdd,Nat.sub_self,List.replicate_zero,List.append_nil,Nat.lt_add_one,getElem?_pos,getElem_cons_succ,getElem_cons_zero,tyT,gx,gy,Option.isSome_some,↓reduceIte,qZ,BEq.rfl,String.reduceBEq,Bool.and_self,Bool.or_false,Bool.or_self,or3,o3,Nat.zero_lt_succ,QK,U8,decide_true,Bool.not_true,Bool.false_eq_true,za];rw [hA];clear hA;refine RI λnx2 q2=>?_;refine K5 λA2 hA=>?_;clear hA;simp only [QB,tb3,YW,v3,qE,map_cons,List.map_nil,length_cons,length_nil,Nat.zero_add,Nat.reduceAdd,Nat.sub_self,List.replicate_zero,List.append_nil,Nat.lt_add_one,getElem?_pos,getElem_cons_succ,getElem_cons_zero,tyT,gx,gy,Option.isSome_some,↓reduceIte,qZ,BEq.rfl,String.reduceBEq,Bool.and_self,Bool.or_false,Bool.or_self,or3,o3,Nat.zero_lt_succ,QK,U8,decide_true,Bool.not_true,Bool.false_eq_true,za];rw [q2];clear q2;simp only [jK,MH,qE,map_cons,List.map_nil,length_cons,length_nil,Nat.zero_add,Nat.reduceAdd,Nat.sub_self,List.replicate_zero,List.append_nil,Nat.lt_add_one,getElem?_pos,getElem_cons_succ,getElem_cons_zero,gy,↓reduceIte,o3,v3,Nat.zero_lt_succ,gx,QK,U8,decide_true,Bool.false_eq_true,zz,ZM,cb3,qc,ql,V2,e3,lc3,X6,cap] at key ⊢;exact key
structure SD (k n:Nat) (d:PyData):Prop where
 sh:d.showable=true
 nd:d.hasDict=false
 dp:d.depth<=k
 lv:d.leavesShort 13=true
 bk:d.bulk<=n
def SD.ok {k n:Nat} {d:PyData} (h:SD k n d) (hk:k<=40) (hn:n<=2 ^ 20):ShOk d:=⟨h.sh,h.nd,Nat.le_trans h.dp hk,h.lv,Nat.le_trans h.bk hn⟩
def SD.w {k n:Nat} {d:PyData} (h:SD k n d) (hk:k<=40) (hn:n<=2 ^ 20):ShW d:=(h.ok hk hn).w
def L6 (k n:Nat):SD k n .none:=⟨rfl,rfl,Nat.zero_le _,rfl,Nat.zero_le _⟩
def qay (k n:Nat) (b:Bool):SD k n (.bool b):=⟨rfl,rfl,Nat.zero_le _,rfl,Nat.zero_le _⟩
def T8 (k n:Nat) {i:Int} (h:-1000000<=i/\i<=1000000):SD k n (.int i):=by
 refine ⟨?_,rfl,Nat.zero_le _,?_,Nat.zero_le _⟩
 ·simp only [PyData.showable];have:i.natAbs<2 ^ 20:=by omega
  have h2:i.natAbs.log2<20\/i.natAbs=0:=by
   rcases Nat.eq_zero_or_pos i.natAbs with z|z
   ·exact .inr z
   ·exact .inl ((Nat.log2_lt (by omega)).mpr this)
  rcases h2 with h2|h2
  ·simp;omega
  ·simp [h2]
 ·have:=PyProof.Rows.intsShortAll_ints2 [i] (by intro n hn;simp at hn;subst hn;omega);simpa [PyData.intsShortAll,PyData.intsShort,PyData.leavesShort] using this
def KG (k n:Nat) {x:Str} (h:x.cps.size<=n) (hc:(x.cps.toList.all λc=>decide (c<16 ^ 8))=true):SD k n (.str x):=⟨rfl,rfl,Nat.zero_le _,hc,h⟩
structure SDs (k n:Nat) (ds:List PyData):Prop where
 sh:PyData.showableAll ds=true
 nd:PyData.hasDictAll ds=false
 dp:PyData.depthAll ds<=k
 lv:PyData.leavesShortAll 13 ds=true
 bk:PyData.bulkAll ds<=n
def X5 (k n:Nat):SDs k n []:=⟨rfl,rfl,Nat.zero_le _,rfl,Nat.zero_le _⟩
def ES {k n m s:Nat} {d:PyData} {ds:List PyData} (h:SD k n d) (t:SDs k m ds) (hs:n+1+m<=s):SDs k s (d::ds):=by
 refine ⟨?_,?_,?_,?_,?_⟩
 ·simp [PyData.showableAll,h.sh,t.sh]
 ·simp [PyData.hasDictAll,h.nd,t.nd]
 ·simp only [PyData.depthAll];exact Nat.max_le.mpr ⟨h.dp,t.dp⟩
 ·simp [PyData.leavesShortAll,h.lv,t.lv]
 ·simp only [PyData.bulkAll];have:=h.bk;have:=t.bk;omega
def EO {k n:Nat} {ds:List PyData} (t:SDs k n ds):SD (k+1) n (.tuple ds):=by
 refine ⟨?_,?_,?_,?_,?_⟩
 ·simpa [PyData.showable] using t.sh
 ·simpa [PyData.hasDict] using t.nd
 ·simp only [PyData.depth];have:=t.dp;omega
 ·simpa [PyData.leavesShort] using t.lv
 ·simp only [PyData.bulk];exact t.bk
def XJ {k n:Nat} {ds:List PyData} (t:SDs k n ds):SD (k+1) n (.list ds):=by
 refine ⟨?_,?_,?_,?_,?_⟩
 ·simpa [PyData.showable] using t.sh
 ·simpa [PyData.hasDict] using t.nd
 ·simp only [PyData.depth];have:=t.dp;omega
 ·simpa [PyData.leavesShort] using t.lv
 ·simp only [PyData.bulk];exact t.bk
def _root_.L3.Dps.append {G:Gp}:∀ {xs ys:List T} {ds es:List PyData},Dps G xs ds->Dps G ys es->Dps G (xs++ys) (ds++es)
 |_,_,_,_,.nil,b=>b
 |_,_,_,_,.cons a t,b=>.cons a (L3.Dps.append t b)
def _root_.L3.Dps.take {G:Gp}:∀ {xs:List T} {ds:List PyData} (i:Nat),Dps G xs ds->Dps G (xs.take i) (ds.take i)
 |_,_,0,_=>.nil
 |_,_,_+1,.nil=>.nil
 |_,_,i+1,.cons a t=>.cons a (L3.Dps.take i t)
def _root_.L3.Dps.drop {G:Gp}:∀ {xs:List T} {ds:List PyData} (i:Nat),Dps G xs ds->Dps G (xs.drop i) (ds.drop i)
 |_,_,0,h=>h
 |_,_,_+1,.nil=>.nil
 |_,_,i+1,.cons a t=>L3.Dps.drop i t
end Bk
namespace Pu
open PySem L2 L3
def cif {α:Type} (P:Prop) (a b:α):α:=@ite α P (Classical.propDecidable P) a b
def ze {α:Type} {P:Prop} {a b:α} (h:P):cif P a b=a:=@if_pos P (Classical.propDecidable P) h α a b
def qeV {α:Type} {P:Prop} {a b:α} (h:¬ P):cif P a b=b:=@if_neg P (Classical.propDecidable P) h α a b
structure Tru (b:Bool):Prop where
 h:b=true
mutual
inductive Dq (G:Gp):T->PyData->Prop
 |non:Dq G .non .none
 |bl (b:Bool):Dq G (.bl b) (.bool b)
 |int (i:Int):Dq G (.int i) (.int i)
 |str (x:Str):Dq G (.str x) (.str x)
 |tup {xs:List T} {ds:List PyData}:Dqs G xs ds->Dq G (.tup xs) (.tuple ds)
 |lst {p:Addr} {xs:List T} {ds:List PyData}:G p=some (.lst xs)->Dqs G xs ds->Dq G (.ref p) (.list ds)
inductive Dqs (G:Gp):List T->List PyData->Prop
 |nil:Dqs G [] []
 |cons {x:T} {d:PyData} {xs:List T} {ds:List PyData}:Dq G x d->Dqs G xs ds->Dqs G (x::xs) (d::ds)
end
mutual
def Dq.up {G G':Gp} (e:Ex G G'):∀ {x:T} {d:PyData},Dq G x d->Dq G' x d
 |_,_,.non=>.non
 |_,_,.bl b=>.bl b
 |_,_,.int i=>.int i
 |_,_,.str x=>.str x
 |_,_,.tup h=>.tup (Dqs.up e h)
 |_,_,.lst h1 h2=>.lst (e _ _ h1) (Dqs.up e h2)
def Dqs.up {G G':Gp} (e:Ex G G'):∀ {x:List T} {d:List PyData},Dqs G x d->Dqs G' x d
 |_,_,.nil=>.nil
 |_,_,.cons a b=>.cons (Dq.up e a) (Dqs.up e b)
end
def zy {G:Gp} {p:Addr} {xs:List T} (h:G p=some (.lst xs)):getL G p=some xs:=by unfold getL;rw [h]
mutual
def Dq.dp {G:Gp}:∀ {x:T} {d:PyData},Dq G x d->Dp G x d
 |_,_,.non=>.non
 |_,_,.bl b=>.bl b
 |_,_,.int i=>.int i
 |_,_,.str x=>.str x
 |_,_,.tup h=>.tup (Dqs.dp h)
 |_,_,.lst h1 h2=>.lst (zy h1) (Dqs.dp h2)
def Dqs.dp {G:Gp}:∀ {x:List T} {d:List PyData},Dqs G x d->Dps G x d
 |_,_,.nil=>.nil
 |_,_,.cons a b=>.cons (Dq.dp a) (Dqs.dp b)
end
def Dqs.length {G:Gp}:∀ {xs:List T} {ds:List PyData},Dqs G xs ds->xs.length=ds.length
 |_,_,.nil=>rfl
 |_,_,.cons _ b=>by simp [Dqs.length b]
def Dqs.get {G:Gp}:∀ {xs:List T} {ds:List PyData} {i:Nat} {d:PyData},Dqs G xs ds->ds[i]?=some d->∃ x,xs[i]?=some x/\Dq G x d
 |_,_,_,_,.nil,e=>by simp at e
 |_,_,0,_,.cons r _,e=>by simp at e;subst e;exact ⟨_,rfl,r⟩
 |_,_,i+1,d,.cons _ t,e=>by
  obtain ⟨u,h1,h2⟩:=Dqs.get (i:=i) (d:=d) t (by simpa using e);exact ⟨u,by simpa using h1,h2⟩
def Dqs.append {G:Gp}:∀ {xs:List T} {ds:List PyData} {ys:List T} {es:List PyData},Dqs G xs ds->Dqs G ys es->Dqs G (xs++ys) (ds++es)
 |_,_,_,_,.nil,h=>h
 |_,_,_,_,.cons a b,h=>.cons a (Dqs.append b h)
def Dqs.drop {G:Gp}:∀ {xs:List T} {ds:List PyData} (n:Nat),Dqs G xs ds->Dqs G (xs.drop n) (ds.drop n)
 |_,_,0,h=>h
 |_,_,_+1,.nil=>.nil
 |_,_,n+1,.cons _ b=>Dqs.drop n b
def Dqs.take {G:Gp}:∀ {xs:List T} {ds:List PyData} (n:Nat),Dqs G xs ds->Dqs G (xs.take n) (ds.take n)
 |_,_,0,h=>by simp;exact .nil
 |_,_,_+1,.nil=>.nil
 |_,_,n+1,.cons a b=>.cons a (Dqs.take n b)
def Dqs.set {G:Gp}:∀ {xs:List T} {ds:List PyData} (n:Nat) {x:T} {d:PyData},Dqs G xs ds->Dq G x d->Dqs G (xs.set n x) (ds.set n d)
 |_,_,_,_,_,.nil,_=>.nil
 |_,_,0,_,_,.cons _ b,h=>.cons h b
 |_,_,n+1,_,_,.cons a b,h=>.cons a (Dqs.set n b h)
def Dqs.rev {G:Gp}:∀ {xs:List T} {ds:List PyData},Dqs G xs ds->Dqs G xs.reverse ds.reverse
 |_,_,.nil=>.nil
 |_,_,.cons a b=>by simp only [List.reverse_cons];exact (Dqs.rev b).append (.cons a .nil)
def Dqs.ints {G:Gp}:∀ {ns:List Int} {xs:List T},Dqs G xs (ns.map PyData.int)->xs=ns.map T.int
 |[],_,.nil=>rfl
 |n::ns,_,.cons a b=>by cases a;rw [Dqs.ints b];rfl
def Dqs.ofInts {G:Gp}:∀ (ns:List Int),Dqs G (ns.map T.int) (ns.map PyData.int)
 |[]=>.nil
 |n::r=>.cons (.int n) (Dqs.ofInts r)
def rs (D:Addr->Prop) (G:Gp):Gp:=λb=>cif (D b) none (G b)
def qw {D:Addr->Prop} {G:Gp} {b:Addr} {o:O} (h:rs D G b=some o):¬ D b/\G b=some o:=by
 unfold rs cif at h;split at h
 ·cases h
 ·rename_i n;exact ⟨n,h⟩
def jy {D:Addr->Prop} {G:Gp} {b:Addr} (n:¬ D b):rs D G b=G b:=by unfold rs;exact qeV n
def ZN {D:Addr->Prop} {G:Gp}:Ex (rs D G) G:=λb o h=>(qw h).2
def jb {D:Addr->Prop} {G G':Gp} (e:Ex G G'):Ex (rs D G) (rs D G'):=λb o h=>by
 obtain ⟨n,h⟩:=qw h;rw [jy n];exact e _ _ h
def z9 {D D':Addr->Prop} {G:Gp} (h:∀ b,D' b->D b):Ex (rs D G) (rs D' G):=λb o e=>by
 obtain ⟨n,e⟩:=qw e;rw [jy λz=>n (h b z)];exact e
def Dom (D:Addr->Prop) (G:Gp):Prop:=∀ b,D b->G b≠none
def Dom.up {D:Addr->Prop} {G G':Gp} (h:Dom D G) (e:Ex G G'):Dom D G':=λb d z=>by
 cases g:G b with
 |none=>exact h b d g
 |some o=>rw [e _ _ g] at z;cases z
def qjh {D:Addr->Prop} {G:Gp} {p:Addr} {o:O} (hd:Dom D G) (hp:G p=none):rs D (gu G p o) p=some o:=by
 rw [jy λz=>hd p z hp,qL]
inductive Sl where
 |un|sh (d:PyData)|ow (ds:List PyData)|dc (kvs:List (Int×PyData))
abbrev Rho:=List Sl
def Sl.d:Sl->Option PyData
 |.un=>none|.sh d=>some d|.ow ds=>some (.list ds)|.dc _=>none
def vw (ρ:Rho) (i:Nat):Option PyData:=(ρ[i]?).bind Sl.d
def WB (fv:List Nat) (D:Addr->Prop) (G:Gp) (τ:St3) (ρ:Rho):Prop:=∀ i∈fv,∀ d,vw ρ i=some d->∃ t,τ[i]?=some (some t)/\Dq (rs D G) t d
def WB.up {fv:List Nat} {D:Addr->Prop} {G G':Gp} {τ:St3} {ρ:Rho} (h:WB fv D G τ ρ) (e:Ex G G'):WB fv D G' τ ρ:=λi hi d hd=>
 let ⟨t,a,b⟩:=h i hi d hd;⟨t,a,b.up (jb e)⟩
def WB.l {fv gv:List Nat} {D:Addr->Prop} {G:Gp} {τ:St3} {ρ:Rho} (h:WB (fv++gv) D G τ ρ):WB fv D G τ ρ:=λi hi=>h i (by simp [hi])
def WB.r {fv gv:List Nat} {D:Addr->Prop} {G:Gp} {τ:St3} {ρ:Rho} (h:WB (fv++gv) D G τ ρ):WB gv D G τ ρ:=λi hi=>h i (by simp [hi])
def LY:PyData->Bool
 |.none=>true|.bool _=>true|.int _=>true|.str _=>true|_=>false
def Nw (D:Addr->Prop) (G G':Gp) (x:T) (d:PyData):Prop:=LY d=true\/∃ p xs ds,x=.ref p/\d=.list ds/\G p=none/\G' p=some (.lst xs)/\Dqs (rs (λb=>D b\/b=p) G') xs ds
def Nw.back {D:Addr->Prop} {G0 G G':Gp} {x:T} {d:PyData} (h:Nw D G G' x d) (e:Ex G0 G):Nw D G0 G' x d:=by
 rcases h with h|⟨p,xs,ds,a,b,c,r⟩
 ·exact .inl h
 refine .inr ⟨p,xs,ds,a,b,?_,r⟩;cases z:G0 p with
 |none=>rfl
 |some o=>rw [e _ _ z] at c;cases c
structure PuE (t:TE3) where
 f:Rho->Option PyData
 fv:List Nat
 nw:Bool
 ok:∀ {D τ ρ G} {q:Q3} {d},WB fv D G τ ρ->Dom D G->f ρ=some d->(∀ x G',Ex G G'->Dq (rs D G') x d->(nw=true->Nw D G G' x d)->q x G')->t τ G q
structure PuC (t:TT3) where
 f:Rho->Option Bool
 fv:List Nat
 ok:∀ {D τ ρ G} {q:Bool->Gp->Prop} {k},WB fv D G τ ρ->Dom D G->f ρ=some k->(∀ G',Ex G G'->q k G')->t τ G q
structure PuA (t:TA3) where
 f:Rho->Option (List PyData)
 fv:List Nat
 n:Nat
 ln:∀ {ρ d},f ρ=some d->d.length=n
 ok:∀ {D τ ρ G} {q:List T->Gp->Prop} {d},WB fv D G τ ρ->Dom D G->f ρ=some d->(∀ x G',Ex G G'->Dqs (rs D G') x d->q x G')->t τ G q
structure PuO (t:TO3) where
 f:Rho->Option (Option Int)
 fv:List Nat
 ok:∀ {D τ ρ G} {q:Option Int->Gp->Prop} {k},WB fv D G τ ρ->Dom D G->f ρ=some k->(∀ G',Ex G G'->q k G')->t τ G q
structure PuI (t:TI3) where
 f:Rho->Option (List PyData)
 fv:List Nat
 /-- numbers alone -/
 nm:Bool
 ok:∀ {D τ ρ G} {r:List T->(Gp->Prop)->Gp->Prop} {ds},WB fv D G τ ρ->Dom D G->f ρ=some ds ->
  (∀ items stay G',Ex G G'->Dqs (rs D G') items ds->(∀ G'',(nm=true\/Ex (rs D G') G'')->stay G'')->(nm=true->∃ ns:List Int,ds=ns.map PyData.int)->r items stay G')->t τ G r
structure OpD (r:R3) where
 f:PyData->PyData->Option PyData
 nw:Bool
 ok:∀ {D G x y d e v} {q:Q3},Dq (rs D G) x d->Dq (rs D G) y e->Dom D G->f d e=some v->(∀ z G',Ex G G'->Dq (rs D G') z v->(nw=true->Nw D G G' z v)->q z G')->r x y G q
structure FnD (r:List T->Gp->Q3->Prop) where
 f:List PyData->Option PyData
 nw:Bool
 ok:∀ {D G xs ds v} {q:Q3},Dqs (rs D G) xs ds->Dom D G->f ds=some v->(∀ z G',Ex G G'->Dq (rs D G') z v->(nw=true->Nw D G G' z v)->q z G')->r xs G q
def bV (i:Nat):PuE (v3 i):=⟨λρ=>vw ρ i,[i],false,λhv hd hf k=>by
 obtain ⟨t,e,h⟩:=hv i (by simp) _ hf;unfold v3;rw [e];exact k t _ Ex.refl h (λz=>by cases z)⟩
def qz (i:Int):PuE (c3 (.int i)):=⟨λ_=>some (.int i),[],false,λhv hd hf k=>by cases hf;exact k _ _ Ex.refl (.int i) (λz=>by cases z)⟩
def bBl (i:Bool):PuE (c3 (.bl i)):=⟨λ_=>some (.bool i),[],false,λhv hd hf k=>by cases hf;exact k _ _ Ex.refl (.bl i) (λz=>by cases z)⟩
def qne (i:Str):PuE (c3 (.str i)):=⟨λ_=>some (.str i),[],false,λhv hd hf k=>by cases hf;exact k _ _ Ex.refl (.str i) (λz=>by cases z)⟩
def qhU:PuE (c3 .non):=⟨λ_=>some .none,[],false,λhv hd hf k=>by cases hf;exact k _ _ Ex.refl .non (λz=>by cases z)⟩
def bO {r:R3} {ta tb:TE3} (R:OpD r) (a:PuE ta) (b:PuE tb):PuE (o3 r ta tb):=
 ⟨λρ=>(a.f ρ).bind λx=>(b.f ρ).bind λy=>R.f x y,a.fv++b.fv,R.nw,λhv hd hf k=>by
  obtain ⟨x,e1,hf⟩:=obb hf;obtain ⟨y,e2,hf⟩:=obb hf;exact a.ok hv.l hd e1 λx' G1 E1 D1 _=>b.ok (hv.r.up E1) (hd.up E1) e2 λy' G2 E2 D2 _=>R.ok (D1.up (jb E2)) D2 ((hd.up E1).up E2) hf λz G3 E3 D3 N3=>k z G3 ((E1.trans E2).trans E3) D3 λh=>(N3 h).back (E1.trans E2)⟩
def qs:PuA ql:=⟨λ_=>some [],[],0,(λh=>by cases h;rfl),λhv hd hf k=>by cases hf;exact k _ _ Ex.refl .nil⟩
def qf {ta:TE3} {tr:TA3} (a:PuE ta) (r:PuA tr):PuA (qc ta tr):=
 ⟨λρ=>(a.f ρ).bind λx=>(r.f ρ).bind λxs=>some (x::xs),a.fv++r.fv,r.n+1,(λhf=>by
  obtain ⟨x,e1,hf⟩:=obb hf;obtain ⟨xs,e2,hf⟩:=obb hf;cases hf;simp [r.ln e2]),λhv hd hf k=>by
  obtain ⟨x,e1,hf⟩:=obb hf;obtain ⟨xs,e2,hf⟩:=obb hf;cases hf;exact a.ok hv.l hd e1 λx' G1 E1 D1 _=>r.ok (hv.r.up E1) (hd.up E1) e2 λy' G2 E2 D2=>k _ G2 (E1.trans E2) (.cons (D1.up (jb E2)) D2)⟩
def few {n:Nat} (h:Tru (Nat.ble n 1000)):n<=sizeLine:=Nat.le_trans (Nat.le_of_ble_eq_true h.h) (by rw [sizeLine_eq];omega)
def CZ {t:TA3} (a:PuA t) (hn:Tru (Nat.ble a.n 1000)):PuE (WC t):=⟨λρ=>(a.f ρ).map .tuple,a.fv,false,λhv hd hf k=>by
 obtain ⟨xs,e1,rfl⟩:=Option.map_eq_some_iff.mp hf;exact a.ok hv hd e1 λx G1 E1 D1=>⟨by rw [D1.length,a.ln e1];exact few hn,k _ _ E1 (.tup D1) (λz=>by cases z)⟩⟩
def WE {D:Addr->Prop} {G:Gp} {p:Addr} {xs:List T} {ds:List PyData} (hp:G p=none) (h:Dqs (rs D G) xs ds):Nw D G (gu G p (.lst xs)) (.ref p) (.list ds):=
 .inr ⟨p,xs,ds,rfl,rfl,hp,qL,h.up λb o e=>by
  obtain ⟨n,e⟩:=qw e;have:b≠p:=by rintro rfl;rw [hp] at e;cases e
  rw [jy (by rintro (z|z);exact n z;exact this z),jF this];exact e⟩
def JD {D:Addr->Prop} {G:Gp} {p:Addr} {xs:List T} {ds:List PyData} (hd:Dom D G) (hp:G p=none) (h:Dqs (rs D G) xs ds):Dq (rs D (gu G p (.lst xs))) (.ref p) (.list ds):=
 .lst (qjh hd hp) (h.up (jb (jP hp)))
def LW {t:TA3} (a:PuA t) (hn:Tru (Nat.ble a.n 1000)):PuE (RN t):=⟨λρ=>(a.f ρ).map .list,a.fv,true,λhv hd hf k=>by
 obtain ⟨xs,e1,rfl⟩:=Option.map_eq_some_iff.mp hf;exact a.ok hv hd e1 λx G1 E1 D1=>⟨by rw [D1.length,a.ln e1];exact few hn,λp hp=>k _ _ (E1.trans (jP hp)) (JD (hd.up E1) hp D1) λ_=>(WE hp D1).back E1⟩⟩
def qv {r:List T->Gp->Q3->Prop} {t:TA3} (R:FnD r) (a:PuA t):PuE (cb3 r t):=
 ⟨λρ=>(a.f ρ).bind R.f,a.fv,R.nw,λhv hd hf k=>by
  obtain ⟨x,e1,hf⟩:=obb hf;exact a.ok hv hd e1 λx' G1 E1 D1=>R.ok D1 (hd.up E1) hf λz G3 E3 D3 N3=>k z G3 (E1.trans E3) D3 λh=>(N3 h).back E1⟩
def asB:PyData->Option Bool
 |.bool b=>some b
 |_=>none
def asI:PyData->Option Int
 |.int b=>some b
 |_=>none
def RO {d:PyData} {b:Bool} (h:asB d=some b):d=.bool b:=by cases d<;>simp [asB] at h;subst h;rfl
def qaA {d:PyData} {b:Int} (h:asI d=some b):d=.int b:=by cases d<;>simp [asI] at h;subst h;rfl
def bTb {t:TE3} (a:PuE t):PuC (tb3 t):=⟨λρ=>(a.f ρ).bind asB,a.fv,λhv hd hf k=>by
 obtain ⟨x,e1,hf⟩:=obb hf;have:=RO hf;subst this;exact a.ok hv hd e1 λx' G1 E1 D1 _=>by cases D1;exact k G1 E1⟩
def qoh {t u:TT3} (a:PuC t) (b:PuC u):PuC (qk6 t u):=⟨λρ=>(a.f ρ).bind λk=>if k then b.f ρ else some false,a.fv++b.fv,λhv hd hf k=>by
 obtain ⟨x,e1,hf⟩:=obb hf;refine a.ok hv.l hd e1 λG1 E1=>?_;cases x with
 |true=>exact b.ok (hv.r.up E1) (hd.up E1) hf λG2 E2=>k G2 (E1.trans E2)
 |false=>cases hf;exact k G1 E1⟩
def bOr {t u:TT3} (a:PuC t) (b:PuC u):PuC (or3 t u):=⟨λρ=>(a.f ρ).bind λk=>if k then some true else b.f ρ,a.fv++b.fv,λhv hd hf k=>by
 obtain ⟨x,e1,hf⟩:=obb hf;refine a.ok hv.l hd e1 λG1 E1=>?_;cases x with
 |false=>exact b.ok (hv.r.up E1) (hd.up E1) hf λG2 E2=>k G2 (E1.trans E2)
 |true=>cases hf;exact k G1 E1⟩
def R8 {t:TT3} (a:PuC t):PuC (D7 t):=⟨λρ=>(a.f ρ).map (! ·),a.fv,λhv hd hf k=>by
 obtain ⟨x,e1,hf⟩:=Option.map_eq_some_iff.mp hf;subst hf;exact a.ok hv hd e1 λG1 E1=>k G1 E1⟩
def bTt:PuC tt3:=⟨λ_=>some true,[],λhv hd hf k=>by cases hf;exact k _ Ex.refl⟩
def D0 {ta tb:TE3} (a:PuE ta) (b:PuE tb):PuE (ZM ta tb):=⟨λρ=>((a.f ρ).bind asB).bind λk=>if k then b.f ρ else some (.bool false),a.fv++b.fv,false,λhv hd hf k=>by
 obtain ⟨x,e1,hf⟩:=obb hf;obtain ⟨y,e1,e2⟩:=obb e1;have:=RO e2;subst this;refine a.ok hv.l hd e1 λx' G1 E1 D1 _=>?_;cases D1;cases x with
 |true=>exact b.ok (hv.r.up E1) (hd.up E1) hf λz G2 E2 D2 _=>k z G2 (E1.trans E2) D2 (λz=>by cases z)
 |false=>cases hf;exact k _ G1 E1 (.bl false) (λz=>by cases z)⟩
def qet {ta:TE3} (a:PuE ta):PuE (LO ta):=⟨λρ=>((a.f ρ).bind asB).map λk=>.bool (!k),a.fv,false,λhv hd hf k=>by
 obtain ⟨x,e1,hf⟩:=Option.map_eq_some_iff.mp hf;obtain ⟨y,e1,e2⟩:=obb e1;have:=RO e2;subst this;subst hf;refine a.ok hv hd e1 λx' G1 E1 D1 _=>?_;cases D1;exact k _ G1 E1 (.bl _) (λz=>by cases z)⟩
def qot {ta:TE3} (a:PuE ta):PuE (u3 qcj ta):=⟨λρ=>((a.f ρ).bind asI).map λi=>.int (-i),a.fv,false,λhv hd hf k=>by
 obtain ⟨x,e1,hf⟩:=Option.map_eq_some_iff.mp hf;obtain ⟨y,e1,e2⟩:=obb e1;have:=qaA e2;subst this;subst hf;refine a.ok hv hd e1 λx' G1 E1 D1 _=>?_;cases D1;exact k _ G1 E1 (.int _) (λz=>by cases z)⟩
def bCh {r r':R3} {ta tb tc:TE3} (R:OpD r) (R':OpD r') (a:PuE ta) (b:PuE tb) (c:PuE tc):PuE (ch3 r r' ta tb tc):=
 ⟨λρ=>(a.f ρ).bind λx=>(b.f ρ).bind λy=>((R.f x y).bind asB).bind λk=>if k then (c.f ρ).bind λz=>R'.f y z else some (.bool false),a.fv++(b.fv++c.fv),false,λ{D τ ρ G q d} hv hd hf k=>by
  obtain ⟨x,e1,hf⟩:=obb hf;obtain ⟨y,e2,hf⟩:=obb hf;obtain ⟨j,e3,hf⟩:=obb hf;obtain ⟨v,e3,e4⟩:=obb e3;have:=RO e4;subst this;refine a.ok hv.l hd e1 λx' G1 E1 D1 _=>b.ok (hv.r.l.up E1) (hd.up E1) e2 λy' G2 E2 D2 _=>R.ok (D1.up (jb E2)) D2 ((hd.up E1).up E2) e3 λz G3 E3 D3 _=>?_;cases D3;have E:=(E1.trans E2).trans E3;cases j with
  |true=>
   obtain ⟨w,e5,hf⟩:=obb hf;exact c.ok (hv.r.r.up E) (hd.up E) e5 λw' G4 E4 D4 _=>R'.ok ((D2.up (jb E3)).up (jb E4)) D4 ((hd.up E).up E4) hf λu G5 E5 D5 _=>k u G5 ((E.trans E4).trans E5) D5 (λz=>by cases z)
  |false=>cases hf;exact k _ G3 E (.bl false) (λz=>by cases z)⟩
def tyD:PyData->Option String
 |.none=>some "NoneType" |.bool _=>some "bool" |.int _=>some "int" |.str _=>some "str" |.tuple _=>some "tuple" |.list _=>some "list" |.dict _=>none
def S5 {ta:TE3} (g:String->Bool) (a:PuE ta):PuE (YW g ta):=⟨λρ=>(a.f ρ).bind λd=>(tyD d).map λt=>.bool (g t),a.fv,false,λhv hd hf k=>by
 obtain ⟨x,e1,hf⟩:=obb hf;obtain ⟨y,e2,hf⟩:=Option.map_eq_some_iff.mp hf;subst hf;refine a.ok hv hd e1 λx' G1 E1 D1 _=>?_;have:tyT G1 x'=some y:=by
  cases D1 with
  |lst h _=>have g:=zy (qw h).2;simp [tyT,g];simpa [tyD] using e2
  |_=>simpa [tyT,tyD] using e2
 simp only [this];exact k _ G1 E1 (.bl _) (λz=>by cases z)⟩
def bNp:PuO np3:=⟨λ_=>some none,[],λhv hd hf k=>by cases hf;exact k _ Ex.refl⟩
def bSp {t:TE3} (a:PuE t):PuO (sp3 t):=⟨λρ=>((a.f ρ).bind asI).map some,a.fv,λhv hd hf k=>by
 obtain ⟨x,e1,hf⟩:=Option.map_eq_some_iff.mp hf;obtain ⟨y,e1,e2⟩:=obb e1;have:=qaA e2;subst this;subst hf;refine a.ok hv hd e1 λx' G1 E1 D1 _=>?_;cases D1;exact k G1 E1⟩
def Dqs.cut {G:Gp} {xs:List T} {ds:List PyData} (h:Dqs G xs ds) (lo hi:Option Int):Dqs G (V3 xs lo hi) (V3 ds lo hi):=by
 unfold V3;rw [h.length];exact (h.drop _).take _
def YJ:List PyData->Option (List Int)
 |[]=>some []
 |.int i::r=>(YJ r).map (i::·)
 |_=>none
def DC (ns:List Int):YJ (ns.map PyData.int)=some ns:=by
 induction ns with
 |nil=>rfl
 |cons n r ih=>simp [YJ,ih]
def ER:∀ {xs:List PyData} {ns:List Int},YJ xs=some ns->xs=ns.map PyData.int
 |[],_,h=>by simp [YJ] at h;subst h;rfl
 |.int i::r,ns,h=>by
  simp only [YJ] at h;obtain ⟨ms,e,rfl⟩:=Option.map_eq_some_iff.mp h;rw [ER e];rfl
 |.none::r,ns,h=>by simp [YJ] at h
 |.bool _::r,ns,h=>by simp [YJ] at h
 |.str _::r,ns,h=>by simp [YJ] at h
 |.list _::r,ns,h=>by simp [YJ] at h
 |.tuple _::r,ns,h=>by simp [YJ] at h
 |.dict _::r,ns,h=>by simp [YJ] at h
def opI (g:Int->Int->Int):OpD (iI g):=⟨λd e=>match d,e with|.int i,.int j=>some (.int (g i j))|_,_=>none,false,λ{D G x y d e v q} hx hy hd hf k=>by
 cases hx<;>try (simp at hf;done)
 cases hy<;>try (simp at hf;done)
 cases hf;exact k _ _ Ex.refl (.int _) (λz=>by cases z)⟩
def cI (C:Int->Int->Prop) (g:Int->Int->Int) (d e:PyData):Option PyData:=match d,e with|.int i,.int j=>cif (C i j) (some (.int (g i j))) none|_,_=>none
def opC (C:Int->Int->Prop) (g:Int->Int->Int):OpD (iC C g):=⟨cI C g,false,λ{D G x y d e v q} hx hy hd hf k=>by
 unfold cI at hf;cases hx<;>try (simp at hf;done)
 cases hy<;>try (simp at hf;done)
 simp only [cif] at hf;split at hf
 ·rename_i c;cases hf;exact ⟨c,k _ _ Ex.refl (.int _) (λz=>by cases z)⟩
 ·cases hf⟩
def opB (g:Int->Int->Bool):OpD (iB g):=⟨λd e=>match d,e with|.int i,.int j=>some (.bool (g i j))|_,_=>none,false,λ{D G x y d e v q} hx hy hd hf k=>by
 cases hx<;>try (simp at hf;done)
 cases hy<;>try (simp at hf;done)
 cases hf;exact k _ _ Ex.refl (.bl _) (λz=>by cases z)⟩
def S9:PyData->PyData->Option Bool
 |.none,.none=>some true|.none,.int _=>some false|.int _,.none=>some false|.none,.bool _=>some false|.bool _,.none=>some false|.none,.str _=>some false|.str _,.none=>some false
 |.int i,.int j=>some (decide (i=j))|.bool i,.bool j=>some (decide (i=j))|.str i,.str j=>some (decide (i=j))
 |.int _,.str _=>some false|.str _,.int _=>some false|.bool _,.str _=>some false|.str _,.bool _=>some false
 |_,_=>none
def NK {G:Gp} {x y:T} {d e:PyData} (hx:Dq G x d) (hy:Dq G y e):U8 x y=S9 d e:=by
 cases hx<;>cases hy<;>rfl
def eqD (neg:Bool) (d e:PyData):Option PyData:=match S9 d e with
 |some k=>some (.bool (if neg then !k else k))
 |none=>cif (dpt d<=40/\dpt d≠0) ((ji d e).map λb=>.bool (if neg then !b else b)) none
def EN (neg:Bool):OpD (QK neg):=⟨eqD neg,false,λ{D G x y d e v q} hx hy hd hf k=>by
 unfold QK;rw [NK hx hy];unfold eqD at hf;cases h:S9 d e with
 |some b=>rw [h] at hf;cases hf;exact k _ _ Ex.refl (.bl _) (λz=>by cases z)
 |none=>
  rw [h] at hf;simp only [cif] at hf ⊢;split at hf
  ·rename_i c;obtain ⟨b,e1,rfl⟩:=Option.map_eq_some_iff.mp hf;exact ⟨d,e,b,(hx.up ZN).dp,(hy.up ZN).dp,e1,c.1,c.2,k _ _ Ex.refl (.bl _) (λz=>by cases z)⟩
  ·cases hf⟩
def qlg (neg:Bool) (d e:PyData):Option PyData:=match e with|.none=>some (.bool (match d with|.none=>!neg|_=>neg))|_=>none
def qjB (neg:Bool):OpD (qf7 neg):=⟨qlg neg,false,λ{D G x y d e v q} hx hy hd hf k=>by
 unfold qlg at hf;cases hy<;>try (simp at hf;done)
 cases hf;unfold qf7;cases hx<;>exact k _ _ Ex.refl (.bl _) (λz=>by cases z)⟩
def ixD (d e:PyData):Option PyData:=match d,e with
 |.tuple xs,.int i=>atI xs i
 |.list xs,.int i=>atI xs i
 |_,_=>none
def Dqs.atI {G:Gp} {xs:List T} {ds:List PyData} {i:Int} {d:PyData} (h:Dqs G xs ds) (e:L2.atI ds i=some d):∃ x,L2.atI xs i=some x/\Dq G x d:=by
 unfold L2.atI at e ⊢;rw [h.length];obtain ⟨j,e1,e2⟩:=obb e;obtain ⟨x,hx,r⟩:=h.get e2;exact ⟨x,by rw [e1];exact hx,r⟩
def EF:OpD ix3:=⟨ixD,false,λ{D G x y d e v q} hx hy hd hf k=>by
 unfold ixD at hf;cases hx with
 |tup hs=>
  cases hy<;>try (simp at hf;done)
  obtain ⟨x,e1,r⟩:=hs.atI hf;simp only [ix3,e1];exact k _ _ Ex.refl r (λz=>by cases z)
 |lst g hs=>
  cases hy<;>try (simp at hf;done)
  obtain ⟨x,e1,r⟩:=hs.atI hf;simp only [ix3,zy (qw g).2,e1];exact k _ _ Ex.refl r (λz=>by cases z)
 |_=>simp at hf⟩
def qgg (d e:PyData):Option PyData:=match d,e with
 |.tuple xs,.tuple ys=>cif (xs≠[]/\xs.length+ys.length<=sizeLine) (some (.tuple (xs++ys))) none
 |.list xs,.list ys=>cif (xs.length+ys.length<=sizeLine) (some (.list (xs++ys))) none
 |.int i,.int j=>some (.int (i+j))
 |_,_=>none
def WV:OpD V1:=⟨qgg,false,λ{D G x y d e v q} hx hy hd hf k=>by
  unfold qgg at hf;cases hx with
  | int i => cases hy <;> try (simp at hf;done)
             cases hf;exact k _ _ Ex.refl (.int _) (λz=>by cases z)
  |tup hs=>
    cases hy<;>try (simp at hf;done)
    rename_i hs2;simp only [cif] at hf;split at hf
    · rename_i c;cases hf;refine ⟨?_,by rw [hs.length,hs2.length];exact c.2,k _ _ Ex.refl (.tup (hs.append hs2)) (λz=>by cases z)⟩;rintro rfl;cases hs;exact c.1 rfl
    · cases hf
  |lst g hs=>
    cases hy<;>try (simp at hf;done)
    rename_i g2 hs2;simp only [cif] at hf;split at hf
    · rename_i c;cases hf;simp only [V1,(qw g).2,(qw g2).2];exact ⟨by rw [hs.length,hs2.length];exact c,λp hp=>k _ _ (jP hp) (JD hd hp (hs.append hs2)) (λz=>by cases z)⟩
    · cases hf
  |_=>simp at hf⟩
def RR:PyData->Bool
 |.none=>true|.bool _=>true|.int _=>true|.str _=>true|_=>false
def qgk:PyData->PyData->Bool
 |.none,.none=>true
 |.bool a,.bool b=>a==b
 |.bool a,.int b=>(if a then 1 else 0)==b
 |.int a,.bool b=>a==(if b then 1 else 0)
 |.int a,.int b=>a==b
 |.str a,.str b=>a==b
 |_,_=>false
def DH {G:Gp} {x:T} {d:PyData} (h:Dq G x d):DY x=RR d:=by cases h<;>rfl
def UU {G:Gp}:∀ {x:List T} {d:List PyData},Dqs G x d->x.all DY=d.all RR
 |_,_,.nil=>rfl
 |_,_,.cons a b=>by rw [List.all_cons,List.all_cons,DH a,UU b]
def qbL {G:Gp} {x y:T} {d e:PyData} (h:Dq G x d) (h':Dq G y e):eqF x y=qgk d e:=by cases h<;>cases h'<;>rfl
def EY {G:Gp} {x:T} {d:PyData} (h:Dq G x d):∀ {ys:List T} {es:List PyData},Dqs G ys es->(ys.any λy=>eqF y x)=es.any λy=>qgk y d
 |_,_,.nil=>rfl
 |_,_,.cons a b=>by rw [List.any_cons,List.any_cons,qbL a h,EY h b]
def inD (neg:Bool) (d e:PyData):Option PyData:=match e with
 |.tuple ys=>cif (RR d=true/\ys.all RR=true) (some (.bool (if neg then !(ys.any λy=>qgk y d) else (ys.any λy=>qgk y d)))) none
 |.list ys=>cif (RR d=true/\ys.all RR=true) (some (.bool (if neg then !(ys.any λy=>qgk y d) else (ys.any λy=>qgk y d)))) none
 |_=>none
def qnP (neg:Bool):OpD (in3 neg):=⟨inD neg,false,λ{D G x y d e v q} hx hy hd hf k=>by
 unfold inD at hf;cases hy with
 |tup hs=>
  simp only [cif] at hf;split at hf
  ·rename_i c;cases hf;refine ⟨by rw [DH hx];exact c.1,by rw [UU hs];exact c.2,?_⟩;rw [EY hx hs];exact k _ _ Ex.refl (.bl _) (λz=>by cases z)
  ·cases hf
 |lst g hs=>
  simp only [cif] at hf;split at hf
  ·rename_i c;cases hf;refine ⟨by rw [DH hx];exact c.1,?_⟩;simp only [zy (qw g).2];refine ⟨by rw [UU hs];exact c.2,?_⟩;rw [EY hx hs];exact k _ _ Ex.refl (.bl _) (λz=>by cases z)
  ·cases hf
 |_=>simp at hf⟩
def qje:List PyData->Option PyData
 |[.tuple xs]=>some (.int xs.length)
 |[.list xs]=>some (.int xs.length)
 |_=>none
def RW:FnD V2:=⟨qje,false,λ{D G xs ds v q} hx hd hf k=>by
 unfold qje at hf;split at hf
 ·cases hx with
  |cons a b=>cases b;cases a;rename_i hs;cases hf;simp only [V2];rw [hs.length];exact k _ _ Ex.refl (.int _) (λz=>by cases z)
 ·cases hx with
  |cons a b=>cases b;cases a;rename_i g hs;cases hf;simp only [V2,zy (qw g).2];rw [hs.length];exact k _ _ Ex.refl (.int _) (λz=>by cases z)
 ·cases hf⟩
def qk8:List PyData->Option PyData
 |[.tuple xs]=>some (.tuple xs)
 |[.list xs]=>some (.tuple xs)
 |_=>none
def qbr:FnD JG:=⟨qk8,false,λ{D G xs ds v q} hx hd hf k=>by
 unfold qk8 at hf;split at hf
 ·cases hx with
  |cons a b=>cases b;cases a;rename_i hs;cases hf;exact k _ _ Ex.refl (.tup hs) (λz=>by cases z)
 ·cases hx with
  |cons a b=>cases b;cases a;rename_i g hs;cases hf;simp only [JG,zy (qw g).2];exact k _ _ Ex.refl (.tup hs) (λz=>by cases z)
 ·cases hf⟩
def qk2:List PyData->Option PyData
 |[.tuple xs]=>some (.list xs)
 |[.list xs]=>some (.list xs)
 |_=>none
def qmr:FnD qaD:=⟨qk2,true,λ{D G xs ds v q} hx hd hf k=>by
 unfold qk2 at hf;split at hf
 ·cases hx with
  |cons a b=>cases b;cases a;rename_i hs;cases hf;exact λp hp=>k _ _ (jP hp) (JD hd hp hs) λ_=>WE hp hs
 ·cases hx with
  |cons a b=>cases b;cases a;rename_i g hs;cases hf;simp only [qaD,zy (qw g).2];exact λp hp=>k _ _ (jP hp) (JD hd hp hs) λ_=>WE hp hs
 ·cases hf⟩
def LR:List PyData->Option (List Bool)
 |[]=>some []
 |.bool i::r=>(LR r).map (i::·)
 |_=>none
def qb6 (ns:List Bool):LR (ns.map PyData.bool)=some ns:=by
 induction ns with
 |nil=>rfl
 |cons n r ih=>simp [LR,ih]
def qan {G:Gp}:∀ {xs:List T} {ds:List PyData} {ns:List Bool},Dqs G xs ds->LR ds=some ns->qcA xs=some (ns.all id)/\qmT xs=some (ns.any id)
 |_,_,_,.nil,h=>by simp [LR] at h;subst h;exact ⟨rfl,rfl⟩
 |_,.bool i::r,ns,.cons a b,h=>by
  simp only [LR] at h;obtain ⟨ms,e,rfl⟩:=Option.map_eq_some_iff.mp h;obtain ⟨h1,h2⟩:=qan b e;cases a;simp [qcA,qmT,h1,h2]
 |_,.int _::r,ns,_,h=>by simp [LR] at h
 |_,.none::r,ns,_,h=>by simp [LR] at h
 |_,.str _::r,ns,_,h=>by simp [LR] at h
 |_,.list _::r,ns,_,h=>by simp [LR] at h
 |_,.tuple _::r,ns,_,h=>by simp [LR] at h
 |_,.dict _::r,ns,_,h=>by simp [LR] at h
def qkq:List PyData->Option PyData
 |[.list xs]=>(LR xs).map λns=>.bool (ns.all id)
 |_=>none
def qk5:FnD MH:=⟨qkq,false,λ{D G xs ds v q} hx hd hf k=>by
 unfold qkq at hf;split at hf
 ·obtain ⟨ns,e,rfl⟩:=Option.map_eq_some_iff.mp hf;cases hx with
  |cons a b=>cases b;cases a;rename_i g hs;simp only [MH,zy (qw g).2,(qan hs e).1];exact k _ _ Ex.refl (.bl _) (λz=>by cases z)
 ·cases hf⟩
def W1:∀ {a b:List Int},a.Perm b->a.Pairwise (·<=·)->b.Pairwise (·<=·)->a=b
 |[],b,h,_,_=>h.nil_eq
 |x::a,[],h,_,_=>by simp at h
 |x::a,y::b,h,h1,h2=>by
  rw [List.pairwise_cons] at h1 h2;have hx:x∈y::b:=h.subset (by simp);have hy:y∈x::a:=h.symm.subset (by simp);have l1:y<=x:=by
   rcases mem_cons.mp hx with rfl|z
   ·exact Int.le_refl _
   ·exact h2.1 _ z
  have l2:x<=y:=by
   rcases mem_cons.mp hy with rfl|z
   ·exact Int.le_refl _
   ·exact h1.1 _ z
  have:x=y:=Int.le_antisymm l2 l1;subst this;rw [W1 h.cons_inv h1.2 h2.2]
def srt (ns:List Int):List Int:=ns.mergeSort
def T0 (ns:List Int):(srt ns).Perm ns:=List.mergeSort_perm ns _
def qcJ (ns:List Int):(srt ns).Pairwise (·<=·):=by
 have:=List.pairwise_mergeSort (le:=λ(a b:Int)=>decide (a<=b)) (λa b c h1 h2=>by simp at *;omega) (λa b=>by simp;omega) ns;exact this.imp (by simp)
def PSp (F:List PyData->Option PyData) (fr:Bool):Sp3:=λts G q=>∃ (D:Addr->Prop) (ds:List PyData) (d:PyData),Dqs (rs D G) ts ds/\Dom D G/\F ds=some d/\∀ x G',Ex G G'->Dq (rs D G') x d->(fr=true->Nw D G G' x d)->q x G'
def zn (F:List PyData->Option PyData) (fr:Bool):FnD (PSp F fr):=⟨F,fr,λ{D G xs ds v q} hx hd hf k=>⟨D,ds,v,hx,hd,hf,k⟩⟩
def KM:PyData->Option (List PyData)
 |.tuple xs=>some xs
 |.list xs=>some xs
 |_=>none
def qc4 {t:TE3} (a:PuE t):PuI (XD t):=⟨λρ=>(a.f ρ).bind KM,a.fv,false,λ{D τ ρ G r ds} hv hd hf k=>by
 obtain ⟨d,e1,hf⟩:=obb hf;refine a.ok hv hd e1 λx G1 E1 D1 _=>?_;unfold KM at hf;cases D1 with
 |tup hs=>cases hf;exact k _ _ _ E1 hs (λ_ _=>trivial) (λz=>by cases z)
 |lst g hs=>
  cases hf;simp only [zy (qw g).2];refine k _ _ _ E1 hs (λG2 h=>?_) (λz=>by cases z);rcases h with h|h
  ·cases h
  ·exact zy (h _ _ g)
 |_=>simp at hf⟩
def YH (lo:Int) (n:Nat):List Int:=(List.range n).map λ(i:Nat)=>lo+(i:Int)
def KB (lo:Int) (n:Nat):NR lo n=(YH lo n).map T.int:=by simp [NR,YH,map_map,Function.comp_def]
def qaJ:List PyData->Option (List PyData)
 |[.int j]=>cif (-(2 ^ 62)<=j/\j<2 ^ 62) (some ((YH 0 j.toNat).map PyData.int)) none
 |[.int i,.int j]=>cif (-(2 ^ 62)<=i/\i<2 ^ 62/\-(2 ^ 62)<=j/\j<2 ^ 62) (some ((YH i (j-i).toNat).map PyData.int)) none
 |_=>none
def M9 {t:TA3} (a:PuA t):PuI (ZO t):=⟨λρ=>(a.f ρ).bind qaJ,a.fv,true,λ{D τ ρ G r ds} hv hd hf k=>by
 obtain ⟨d,e1,hf⟩:=obb hf;refine a.ok hv hd e1 λx G1 E1 D1=>?_;unfold qaJ at hf;split at hf
 ·unfold cif at hf;split at hf
  ·rename_i c;cases hf;cases D1 with
   |cons a b=>cases b;cases a;simp only;rw [KB];exact ⟨c,k _ _ _ E1 (Dqs.ofInts _) (λ_ _=>trivial) λ_=>⟨_,rfl⟩⟩
  ·cases hf
 ·unfold cif at hf;split at hf
  ·rename_i c;cases hf;cases D1 with
   |cons a b=>cases b with
    |cons b c'=>cases c';cases a;cases b;simp only;rw [KB];exact ⟨c,k _ _ _ E1 (Dqs.ofInts _) (λ_ _=>trivial) λ_=>⟨_,rfl⟩⟩
  ·cases hf
 ·cases hf⟩
def qd3 (us vs:List PyData):List PyData:=(us.zip vs).map λp=>.tuple [p.1,p.2]
def Dqs.zip {G:Gp}:∀ {xs:List T} {ds:List PyData} {ys:List T} {es:List PyData},Dqs G xs ds->Dqs G ys es->Dqs G (qa9 xs ys) (qd3 ds es)
 |_,_,_,_,.nil,_=>by simp [qa9,qd3];exact .nil
 |_,_,_,_,.cons _ _,.nil=>by simp [qa9,qd3];exact .nil
 |_,_,_,_,.cons a b,.cons c d=>.cons (.tup (.cons a (.cons c .nil))) (Dqs.zip b d)
def W9 {G:Gp} {x:T} {d:PyData} {ds:List PyData} (h:Dq G x d) (e:KM d=some ds):∃ us,jK G x=some us/\Dqs G us ds:=by
 unfold KM at e;cases h with
 |tup hs=>cases e;exact ⟨_,rfl,hs⟩
 |lst g hs=>cases e;exact ⟨_,zy g,hs⟩
 |_=>simp at e
def WH {G G':Gp} {x:T} {us:List T} (e:Ex G G') (h:jK G x=some us):jK G' x=some us:=by
 cases x with
 |tup xs=>exact h
 |ref p=>exact e.getL h
 |_=>cases h
def qlc {t:TA3} (a:PuA t):PuI (X6 t):=⟨λρ=>(a.f ρ).bind λds=>match ds with|[d,e]=>(KM d).bind λus=>(KM e).bind λvs=>some (qd3 us vs)|_=>none,a.fv,false,λ{D τ ρ G r ds} hv hd hf k=>by
 obtain ⟨d,e1,hf⟩:=obb hf;refine a.ok hv hd e1 λx G1 E1 D1=>?_;split at hf
 ·obtain ⟨us,e2,hf⟩:=obb hf;obtain ⟨vs,e3,hf⟩:=obb hf;cases hf;cases D1 with
  |cons a b=>cases b with
   |cons b c=>
    cases c;obtain ⟨us',h1,h2⟩:=W9 a e2;obtain ⟨vs',h3,h4⟩:=W9 b e3;simp only [WH ZN h1,WH ZN h3];refine k _ _ _ E1 (h2.zip h4) (λG2 h=>?_) (λz=>by cases z);rcases h with h|h
    ·cases h
    ·exact ⟨WH h h1,WH h h3⟩
 ·cases hf⟩
def enD (k:Nat):List PyData->List PyData
 |[]=>[]
 |x::r=>.tuple [.int (k:Int),x]::enD (k+1) r
def Dqs.enum {G:Gp}:∀ {xs:List T} {ds:List PyData} (k:Nat),Dqs G xs ds->Dqs G (jQ k xs) (enD k ds)
 |_,_,_,.nil=>.nil
 |_,_,k,.cons a b=>.cons (.tup (.cons (.int _) (.cons a .nil))) (Dqs.enum (k+1) b)
def qf5 {t:TA3} (a:PuA t):PuI (TX t):=⟨λρ=>(a.f ρ).bind λds=>match ds with|[d]=>(KM d).map λus=>enD 0 us|_=>none,a.fv,false,λ{D τ ρ G r ds} hv hd hf k=>by
 obtain ⟨d,e1,hf⟩:=obb hf;refine a.ok hv hd e1 λx G1 E1 D1=>?_;split at hf
 ·obtain ⟨us,e2,rfl⟩:=Option.map_eq_some_iff.mp hf;cases D1 with
  |cons a b=>
   cases b;obtain ⟨us',h1,h2⟩:=W9 a e2;simp only [WH ZN h1];refine k _ _ _ E1 (h2.enum 0) (λG2 h=>?_) (λz=>by cases z);rcases h with h|h
   ·cases h
   ·exact WH h h1
 ·cases hf⟩
inductive Bd (H:Gp):List (Nat×T)->List (Nat×PyData)->Prop
 |nil:Bd H [] []
 |cons {i:Nat} {x:T} {d:PyData} {ts:List (Nat×T)} {bs:List (Nat×PyData)}:Dq H x d->Bd H ts bs->Bd H ((i,x)::ts) ((i,d)::bs)
def Bd.append {H:Gp}:∀ {ts:List (Nat×T)} {bs:List (Nat×PyData)} {us:List (Nat×T)} {cs:List (Nat×PyData)},Bd H ts bs->Bd H us cs->Bd H (ts++us) (bs++cs)
 |_,_,_,_,.nil,h=>h
 |_,_,_,_,.cons a b,h=>.cons a (Bd.append b h)
def Bd.up {H H':Gp} (e:Ex H H'):∀ {ts:List (Nat×T)} {bs:List (Nat×PyData)},Bd H ts bs->Bd H' ts bs
 |_,_,.nil=>.nil
 |_,_,.cons a b=>.cons (a.up e) (Bd.up e b)
def sets:St3->List (Nat×T)->St3
 |τ,[]=>τ
 |τ,p::r=>sets (τ.set p.1 (some p.2)) r
def Q4:Rho->List (Nat×PyData)->Rho
 |ρ,[]=>ρ
 |ρ,p::r=>Q4 (ρ.set p.1 (.sh p.2)) r
def KF:∀ (τ:St3) (a b:List (Nat×T)),sets τ (a++b)=sets (sets τ a) b
 |τ,[],b=>rfl
 |τ,p::a,b=>by simp only [cons_append,sets];exact KF _ a b
structure PuG (g:TG3) where
 f:PyData->Option (List (Nat×PyData))
 tg:List Nat
 at':∀ {d bs},f d=some bs->∀ p∈bs,p.1∈tg
 ok:∀ {H x d bs},Dq H x d->f d=some bs->∃ ts,Bd H ts bs/\∀ τ G (q:St3->Gp->Prop),q (sets τ ts) G->g x τ G q
structure PuGs (g:RV) where
 f:List PyData->Option (List (Nat×PyData))
 tg:List Nat
 at':∀ {d bs},f d=some bs->∀ p∈bs,p.1∈tg
 ok:∀ {H x d bs},Dqs H x d->f d=some bs->∃ ts,Bd H ts bs/\∀ τ G (q:St3->Gp->Prop),q (sets τ ts) G->g x τ G q
def gN (i:Nat):PuG (gn3 i):=⟨λd=>some [(i,d)],[i],λh p hp=>by cases h;simp at hp;subst hp;simp,λhx h=>by cases h;exact ⟨_,.cons hx .nil,λτ G q hq=>hq⟩⟩
def qbM:PuGs U9:=⟨λds=>match ds with|[]=>some []|_=>none,[],(λh p hp=>by split at h;cases h;cases hp;cases h),λhx h=>by
 split at h
 ·cases h;cases hx;exact ⟨[],.nil,λτ G q hq=>hq⟩
 ·cases h⟩
def QN {t:TG3} {u:RV} (a:PuG t) (b:PuGs u):PuGs (zk t u):=⟨λds=>match ds with|d::r=>(a.f d).bind λx=>(b.f r).map λy=>x++y|[]=>none,a.tg++b.tg,(λh p hp=>by
 split at h
 ·obtain ⟨x,e1,h⟩:=obb h;obtain ⟨y,e2,rfl⟩:=Option.map_eq_some_iff.mp h;rcases List.mem_append.mp hp with z|z
  ·exact List.mem_append.mpr (.inl (a.at' e1 p z))
  ·exact List.mem_append.mpr (.inr (b.at' e2 p z))
 ·cases h),λhx h=>by
 split at h
 ·obtain ⟨x,e1,h⟩:=obb h;obtain ⟨y,e2,rfl⟩:=Option.map_eq_some_iff.mp h;cases hx with
  |cons hx hr=>
   obtain ⟨ts,b1,k1⟩:=a.ok hx e1;obtain ⟨us,b2,k2⟩:=b.ok hr e2;refine ⟨ts++us,b1.append b2,λτ G q hq=>k1 τ G _ (k2 _ G q ?_)⟩;rw [← KF];exact hq
 ·cases h⟩
def qbp {u:RV} (n:Nat) (b:PuGs u):PuG (EA n u):=⟨λd=>match d with|.tuple ds=>if ds.length=n then b.f ds else none|_=>none,b.tg,(λh p hp=>by
 split at h
 ·split at h
  ·exact b.at' h p hp
  ·cases h
 ·cases h),λhx h=>by
 split at h
 ·split at h
  ·rename_i c;cases hx with
   |tup hs=>
    obtain ⟨ts,b1,k1⟩:=b.ok hs h;exact ⟨ts,b1,λτ G q hq=>⟨by rw [hs.length];exact c,k1 τ G q hq⟩⟩
  ·cases h
 ·cases h⟩
structure VA (D:Addr->Prop) (G:Gp) (τ:St3) (ρ:Rho):Prop where
 len:ρ.length=τ.length
 vw:∀ i d,vw ρ i=some d->∃ t,τ[i]?=some (some t)/\Dq (rs D G) t d
def VA.view {D:Addr->Prop} {G:Gp} {τ:St3} {ρ:Rho} (h:VA D G τ ρ) (fv:List Nat):WB fv D G τ ρ:=λi _ d e=>h.vw i d e
def VA.upx {D:Addr->Prop} {G G':Gp} {τ:St3} {ρ:Rho} (h:VA D G τ ρ) (e:Ex (rs D G) (rs D G')):VA D G' τ ρ:=⟨h.len,λi d hd=>let ⟨t,a,b⟩:=h.vw i d hd;⟨t,a,b.up e⟩⟩
def VA.up {D:Addr->Prop} {G G':Gp} {τ:St3} {ρ:Rho} (h:VA D G τ ρ) (e:Ex G G'):VA D G' τ ρ:=h.upx (jb e)
def qea {ρ:Rho} {i j:Nat} {s:Sl}:vw (ρ.set i s) j=if i=j then (if i<ρ.length then s.d else none) else vw ρ j:=by
 unfold vw;rw [getElem?_set];split
 ·subst j;split
  ·rfl
  ·rfl
 ·rfl
def VA.set {D:Addr->Prop} {G:Gp} {τ:St3} {ρ:Rho} (h:VA D G τ ρ) {i:Nat} {x:T} {d:PyData} (hx:Dq (rs D G) x d):VA D G (τ.set i (some x)) (ρ.set i (.sh d)):=by
 refine ⟨by simp [h.len],λj e he=>?_⟩;rw [qea] at he;split at he
 ·subst j;split at he
  ·rename_i l;cases he;refine ⟨x,?_,hx⟩;rw [getElem?_set,if_pos rfl,if_pos (by rw [← h.len];exact l)]
  ·cases he
 ·rename_i n;obtain ⟨t,a,b⟩:=h.vw j e he;exact ⟨t,by rw [getElem?_set,if_neg n];exact a,b⟩
def VA.sets {D:Addr->Prop} {G:Gp}:∀ {ts:List (Nat×T)} {bs:List (Nat×PyData)} {τ:St3} {ρ:Rho},VA D G τ ρ->Bd (rs D G) ts bs->VA D G (Pu.sets τ ts) (Q4 ρ bs)
 |_,_,_,_,h,.nil=>h
 |_,_,_,_,h,.cons a b=>by unfold Pu.sets Q4;exact VA.sets (h.set a) b
def VA.keep {D:Addr->Prop} {G:Gp} {ρ:Rho}:∀ {ts:List (Nat×T)} {τ:St3},VA D G τ ρ->(∀ p∈ts,Pu.vw ρ p.1=none)->VA D G (Pu.sets τ ts) ρ
 |[],_,h,_=>h
 |p::r,τ,h,hn=>VA.keep (ts:=r) ⟨by rw [List.length_set];exact h.len,λj d hd=>by
   have:p.1≠j:=by rintro rfl;rw [hn p (by simp)] at hd;cases hd
   obtain ⟨t,a,b⟩:=h.vw j d hd;exact ⟨t,by rw [getElem?_set,if_neg this];exact a,b⟩⟩ λq hq=>hn q (by simp [hq])
def D6 (m:List (Option Nat)) (ρ:Rho):Rho:=m.map λo=>match o with|some j=>(match vw ρ j with|some d=>.sh d|none=>.un)|none=>.un
def VA.cap {m:List (Option Nat)} {D:Addr->Prop} {G:Gp} {τ:St3} {ρ:Rho} (h:WB (m.filterMap id) D G τ ρ):VA D G (L3.cap m τ) (D6 m ρ):=by
 refine ⟨by simp [D6,L3.cap],λi d hd=>?_⟩;unfold Pu.vw D6 at hd;rw [getElem?_map] at hd;cases e:m[i]? with
 |none=>rw [e] at hd;cases hd
 |some o=>
  rw [e] at hd;cases o with
  |none=>cases hd
  |some j=>
   simp only [Option.map_some,Option.bind_some] at hd;cases e2:Pu.vw ρ j with
   |none=>rw [e2] at hd;cases hd
   |some d'=>
    rw [e2] at hd;have hd':d'=d:=by simpa [Sl.d] using hd
    subst hd';obtain ⟨t,a,b⟩:=h j (List.mem_filterMap.mpr ⟨some j,mem_of_getElem? e,rfl⟩) d' e2;refine ⟨t,?_,b⟩;unfold L3.cap;rw [getElem?_map,e];simp [a]
def W5 {m:List (Option Nat)} {ρ:Rho} {i:Nat} (h:m[i]?=some none):vw (D6 m ρ) i=none:=by
 unfold vw D6;rw [getElem?_map,h];rfl
def lcP (h:PyData->Option (Option PyData)):List PyData->Option (List PyData)
 |[]=>some []
 |d::r=>(h d).bind λo=>(lcP h r).bind λys=>some (match o with|some y=>y::ys|none=>ys)
def lcH (gf:PyData->Option (List (Nat×PyData))) (cf:Rho->Option Bool) (ef:Rho->Option PyData) (ρ:Rho) (d:PyData):Option (Option PyData):=
 (gf d).bind λbs=>(cf (Q4 ρ bs)).bind λk=>if k then (ef (Q4 ρ bs)).map some else some none
def Q9 {h:PyData->Option (Option PyData)} {α:Type} {g:α->PyData} {k:α->PyData} {xs:List α} (hh:∀ a∈xs,h (g a)=some (some (k a))):lcP h (xs.map g)=some (xs.map k):=by
 induction xs with
 |nil=>rfl
 |cons a r ih=>simp only [map_cons,lcP,hh a (by simp),Option.bind_some,ih λb hb=>hh b (by simp [hb])]
def WD {h:PyData->Option (Option PyData)} {α:Type} {g:α->PyData} {k:α->PyData} {c:α->Bool} {xs:List α} (hh:∀ a∈xs,h (g a)=some (if c a then some (k a) else none)):lcP h (xs.map g)=some ((xs.filter c).map k):=by
 induction xs with
 |nil=>rfl
 |cons a r ih=>
  simp only [map_cons,lcP,hh a (by simp),Option.bind_some,ih λb hb=>hh b (by simp [hb])];cases e:c a with
  |true=>simp [e]
  |false=>simp [e]
def MT {H:Gp}:∀ {ts:List (Nat×T)} {bs:List (Nat×PyData)},Bd H ts bs->∀ p∈ts,∃ q∈bs,q.1=p.1
 |_,_,.nil,p,hp=>by cases hp
 |_,_,.cons a b,p,hp=>by
  rcases mem_cons.mp hp with rfl|hp
  ·exact ⟨_,List.mem_cons_self,rfl⟩
  ·obtain ⟨q,hq,e⟩:=MT b p hp;exact ⟨q,by simp [hq],e⟩
def qfC {stay:Gp->Prop} {g:TG3} {tif:TT3} {te:TE3} {q:Q3} (pg:PuG g) (pc:PuC tif) (pe:PuE te) {D:Addr->Prop} {ρ0:Rho} {G0:Gp} (hs:∀ G,Ex G0 G->stay G) (hm:∀ i∈pg.tg,vw ρ0 i=none) (fin:List PyData) (hfin:fin.length<=sizeLine)
  (k:∀ G ys,Ex G0 G->Dqs (rs D G) ys fin->∀ p,G p=none->q (.ref p) (gu G p (.lst ys))) :
  ∀ (ds:List PyData) (items ys:List T) (es fs:List PyData) (τ:St3) (G:Gp),Dqs (rs D G0) items ds->VA D G τ ρ0->Ex G0 G->Dom D G->Dqs (rs D G) ys es->lcP (lcH pg.f pc.f pe.f ρ0) ds=some fs->es++fs=fin->TF stay g tif te q items ys τ G
 |_,_,ys,es,fs,τ,G,.nil,va,E,hd,hy,hf,hl=>by
  cases hf;rw [List.append_nil] at hl;subst hl;exact ⟨hs G E,k G ys E hy⟩
 |d::ds,x::items,ys,es,fs,τ,G,.cons hx hr,va,E,hd,hy,hf,hl=>by
  unfold lcP at hf;obtain ⟨o,e1,hf⟩:=obb hf;obtain ⟨j8,e2,hf⟩:=obb hf;unfold lcH at e1;obtain ⟨bs,e3,e1⟩:=obb e1;obtain ⟨c,e4,e1⟩:=obb e1;obtain ⟨ts,bd,kg⟩:=pg.ok (hx.up (jb E)) e3;refine ⟨hs G E,kg τ G _ ?_⟩;have va1:=va.sets bd;have va2:=va.keep (ts:=ts) λp hp=>by
   obtain ⟨q,hq,e⟩:=MT bd p hp;rw [← e];exact hm _ (pg.at' e3 q hq)
  refine pc.ok (va1.view _) hd e4 λG1 E1=>?_;cases c with
  |true=>
   rw [if_pos rfl];rw [if_pos rfl] at e1;obtain ⟨y,e5,rfl⟩:=Option.map_eq_some_iff.mp e1;simp only [Option.some.injEq] at hf;subst hf;refine pe.ok ((va1.up E1).view _) (hd.up E1) e5 λz G2 E2 D2 _=>⟨?_,?_⟩
   ·rw [hy.length];rw [← hl] at hfin;simp at hfin;omega
   ·refine qfC pg pc pe hs hm fin hfin k ds items (ys++[z]) (es++[y]) j8 _ G2 hr ((va2.up E1).up E2) (E.trans (E1.trans E2)) ((hd.up E1).up E2) (((hy.up (jb E1)).up (jb E2)).append (.cons D2 .nil)) e2 ?_;rw [← hl];simp
  |false=>
   rw [if_neg Bool.false_ne_true];simp at e1;subst e1;simp only [Option.some.injEq] at hf;subst hf;exact qfC pg pc pe hs hm fin hfin k ds items ys es j8 _ G1 hr (va2.up E1) (E.trans E1) (hd.up E1) (hy.up (jb E1)) e2 hl
def lcF (pi:Rho->Option (List PyData)) (h:Rho->PyData->Option (Option PyData)) (m:List (Option Nat)) (ρ:Rho):Option PyData:=
 (pi ρ).bind λds=>(lcP (h (D6 m ρ)) ds).bind λfs=>cif (fs.length<=sizeLine) (some (.list fs)) none
def bLc {wi:TI3} {g:TG3} {tif:TT3} {te:TE3} (pi:PuI wi) (pg:PuG g) (pc:PuC tif) (pe:PuE te) (m:List (Option Nat)) (hm:Tru (pg.tg.all λi=>m[i]?==some none)):PuE (lc3 wi g tif te m):=
 ⟨lcF pi.f (lcH pg.f pc.f pe.f) m,pi.fv++m.filterMap id,true,λ{D τ ρ G q d} hv hd hf k=>by
  unfold lcF at hf;obtain ⟨ds,e1,hf⟩:=obb hf;obtain ⟨fs,e2,hf⟩:=obb hf;unfold cif at hf;split at hf
  ·rename_i hl;cases hf;refine pi.ok hv.l hd e1 λitems stay G1 E1 D1 hs _=>?_;have va:=(VA.cap (m:=m) hv.r).up E1;refine qfC pg pc pe (D:=D) (ρ0:=D6 m ρ) (G0:=G1) (λG2 E2=>hs G2 (.inr (ZN.trans E2))) (λi hi=>W5 ?_) fs hl (λG2 ys E2 D2 p hp=>?_) ds items [] [] fs _ G1 D1 va Ex.refl (hd.up E1) .nil e2 (by simp)
   ·have:=List.all_eq_true.mp hm.h i hi;simpa using this
   ·exact k _ _ ((E1.trans E2).trans (jP hp)) (JD ((hd.up E1).up E2) hp D2) λ_=>(WE hp D2).back (E1.trans E2)
  ·cases hf⟩
def E0 (p:Addr) (G G':Gp):Prop:=∀ b o,b≠p->G b=some o->G' b=some o
def E0.refl {p:Addr} {G:Gp}:E0 p G G:=λ_ _ _ e=>e
def E0.trans {p:Addr} {G G1 G2:Gp} (a:E0 p G G1) (b:E0 p G1 G2):E0 p G G2:=λx o n e=>b x o n (a x o n e)
def E0.of {p:Addr} {G G1:Gp} (a:Ex G G1):E0 p G G1:=λx o _ e=>a x o e
def E0.wr {p:Addr} {G:Gp} {o:O}:E0 p G (gu G p o):=λb ob n e=>by rw [jF n];exact e
def E0.rs {p:Addr} {D:Addr->Prop} {G G1:Gp} (a:E0 p G G1):Ex (rs (λb=>D b\/b=p) G) (rs (λb=>D b\/b=p) G1):=λb o h=>by
 obtain ⟨n,h⟩:=qw h;rw [jy n];exact a b o (λz=>n (.inr z)) h
def qhX {D:Addr->Prop} {G:Gp} {p:Addr} {o:O} (h:Dom D G):Dom D (gu G p o):=λb d z=>by
 by_cases e:b=p
 ·subst e;rw [qL] at z;cases z
 ·rw [jF e] at z;exact h b d z
def qfW {p:Addr} {stay:Gp->Prop} {g:TG3} {tif:TT3} {te:TE3} {N:St3->Gp->Prop} (pg:PuG g) (pc:PuC tif) (pe:PuE te) {D:Addr->Prop} {ρ0:Rho} {G0:Gp} (hs:∀ G,Ex (rs (λb=>D b\/b=p) G0) G->stay G) (hm:∀ i∈pg.tg,vw ρ0 i=none) (fin:List PyData) (hfin:fin.length<=sizeLine)
  (k:∀ τ G ys,VA (λb=>D b\/b=p) G τ ρ0->E0 p G0 G->Dom (λb=>D b\/b=p) G->G p=some (.lst ys)->Dqs (rs (λb=>D b\/b=p) G) ys fin->N τ G) :
  ∀ (ds:List PyData) (items ys:List T) (es fs:List PyData) (τ:St3) (G:Gp),Dqs (rs (λb=>D b\/b=p) G0) items ds->VA (λb=>D b\/b=p) G τ ρ0->E0 p G0 G->Dom (λb=>D b\/b=p) G->G p=some (.lst ys)->Dqs (rs (λb=>D b\/b=p) G) ys es->lcP (lcH pg.f pc.f pe.f ρ0) ds=some fs->es++fs=fin->qge p stay g tif te N items τ G
 |_,_,ys,es,fs,τ,G,.nil,va,E,hd,gp,hy,hf,hl=>by
  cases hf;rw [List.append_nil] at hl;subst hl;exact ⟨hs G (E.rs.trans ZN),k τ G ys va E hd gp hy⟩
 |d::ds,x::items,ys,es,fs,τ,G,.cons hx hr,va,E,hd,gp,hy,hf,hl=>by
  unfold lcP at hf;obtain ⟨o,e1,hf⟩:=obb hf;obtain ⟨j8,e2,hf⟩:=obb hf;unfold lcH at e1;obtain ⟨bs,e3,e1⟩:=obb e1;obtain ⟨c,e4,e1⟩:=obb e1;obtain ⟨ts,bd,kg⟩:=pg.ok (hx.up E.rs) e3;refine ⟨hs G (E.rs.trans ZN),kg τ G _ ?_⟩;have va1:=va.sets bd;have va2:=va.keep (ts:=ts) λp hp=>by
   obtain ⟨q,hq,e⟩:=MT bd p hp;rw [← e];exact hm _ (pg.at' e3 q hq)
  refine pc.ok (va1.view _) hd e4 λG1 E1=>?_;cases c with
  |true=>
   rw [if_pos rfl];rw [if_pos rfl] at e1;obtain ⟨y,e5,rfl⟩:=Option.map_eq_some_iff.mp e1;simp only [Option.some.injEq] at hf;subst hf;refine pe.ok ((va1.up E1).view _) (hd.up E1) e5 λz G2 E2 D2 _=>?_;simp only [E2 _ _ (E1 _ _ gp)];have W:E0 p G2 (gu G2 p (.lst (ys++[z]))):=E0.wr;refine ⟨?_,?_⟩
   ·rw [hy.length];rw [← hl] at hfin;simp at hfin;omega
   ·refine qfW pg pc pe hs hm fin hfin k ds items (ys++[z]) (es++[y]) j8 _ _ hr (((va2.up E1).up E2).upx W.rs) ((E.trans (E0.of (E1.trans E2))).trans W) (qhX ((hd.up E1).up E2)) qL ((((hy.up (jb E1)).up (jb E2)).append (.cons D2 .nil)).up W.rs) e2 ?_;rw [← hl];simp
  |false=>
   rw [if_neg Bool.false_ne_true];simp at e1;subst e1;simp only [Option.some.injEq] at hf;subst hf;exact qfW pg pc pe hs hm fin hfin k ds items ys es j8 _ G1 hr (va2.up E1) (E.trans (E0.of E1)) (hd.up E1) (E1 _ _ gp) (hy.up (jb E1)) e2 hl
def qey (h:PyData->Option (Option (List PyData))):List PyData->Option (List PyData)
 |[]=>some []
 |d::r=>(h d).bind λo=>(qey h r).bind λys=>some (match o with|some y=>y++ys|none=>ys)
def qjO (gf:PyData->Option (List (Nat×PyData))) (cf:Rho->Option Bool) (it:Rho->Option (List PyData)) (h:Rho->PyData->Option (Option PyData)) (ρ:Rho) (d:PyData):Option (Option (List PyData)):=
 (gf d).bind λbs=>(cf (Q4 ρ bs)).bind λk=>if k then ((it (Q4 ρ bs)).bind λds=>lcP (h (Q4 ρ bs)) ds).map some else some none
def XW:∀ {bs:List (Nat×PyData)} {ρ:Rho} {i:Nat},(∀ p∈bs,p.1≠i)->vw (Q4 ρ bs) i=vw ρ i
 |[],_,_,_=>rfl
 |p::r,ρ,i,h=>by
  unfold Q4;rw [XW (λq hq=>h q (by simp [hq])),qea,if_neg (h p (by simp))]
def KQ:∀ (bs:List (Nat×PyData)) (ρ:Rho),(Q4 ρ bs).length=ρ.length
 |[],τ=>rfl
 |p::r,τ=>by unfold Q4;rw [KQ r];simp
def qah {p:Addr} {stay:Gp->Prop} {g g2:TG3} {tif tif2:TT3} {wi2:TI3} {te:TE3} {q:Q3} (pg:PuG g) (pc:PuC tif) (pi2:PuI wi2) (pg2:PuG g2) (pc2:PuC tif2) (pe:PuE te) {D:Addr->Prop} {ρ0:Rho} {G0:Gp} (hs:∀ G,Ex (rs (λb=>D b\/b=p) G0) G->stay G) (hm:∀ i∈pg.tg,vw ρ0 i=none) (hm2:∀ i∈pg2.tg,vw ρ0 i=none) (hdj:∀ i∈pg2.tg,i∉pg.tg) (fin:List PyData) (hfin:fin.length<=sizeLine)
  (k:∀ G ys,E0 p G0 G->G p=some (.lst ys)->Dqs (rs (λb=>D b\/b=p) G) ys fin->q (.ref p) G) :
  ∀ (ds:List PyData) (items ys:List T) (es fs:List PyData) (τ:St3) (G:Gp),Dqs (rs (λb=>D b\/b=p) G0) items ds->VA (λb=>D b\/b=p) G τ ρ0->E0 p G0 G->Dom (λb=>D b\/b=p) G->G p=some (.lst ys)->Dqs (rs (λb=>D b\/b=p) G) ys es->qey (qjO pg.f pc.f pi2.f (lcH pg2.f pc2.f pe.f) ρ0) ds=some fs->es++fs=fin->qac p stay g tif wi2 g2 tif2 te q items τ G
 |_,_,ys,es,fs,τ,G,.nil,va,E,hd,gp,hy,hf,hl=>by
  cases hf;rw [List.append_nil] at hl;subst hl;exact ⟨hs G (E.rs.trans ZN),k G ys E gp hy⟩
 |d::ds,x::items,ys,es,fs,τ,G,.cons hx hr,va,E,hd,gp,hy,hf,hl=>by
  unfold qey at hf;obtain ⟨o,e1,hf⟩:=obb hf;obtain ⟨j8,e2,hf⟩:=obb hf;unfold qjO at e1;obtain ⟨bs,e3,e1⟩:=obb e1;obtain ⟨c,e4,e1⟩:=obb e1;obtain ⟨ts,bd,kg⟩:=pg.ok (hx.up E.rs) e3;refine ⟨hs G (E.rs.trans ZN),kg τ G _ ?_⟩;have va1:=va.sets bd;have va2:=va.keep (ts:=ts) λp hp=>by
   obtain ⟨q,hq,e⟩:=MT bd p hp;rw [← e];exact hm _ (pg.at' e3 q hq)
  refine pc.ok (va1.view _) hd e4 λG1 E1=>?_;cases c with
  |true=>
   rw [if_pos rfl];rw [if_pos rfl] at e1;obtain ⟨y,e5,rfl⟩:=Option.map_eq_some_iff.mp e1;obtain ⟨ds2,e6,e5⟩:=obb e5;simp only [Option.some.injEq] at hf;subst hf;refine pi2.ok ((va1.up E1).view _) (hd.up E1) e6 λitems2 stay2 G2 E2 D2 hs2 _=>?_;have l2:(es++y).length<=sizeLine:=by
    rw [← hl] at hfin;simp at hfin ⊢;omega
   refine qfW pg2 pc2 pe (ρ0:=Q4 ρ0 bs) (G0:=G2) (λG3 E3=>hs2 G3 (.inr E3)) (λi hi=>?_) (es++y) l2 (λτ3 G3 zs va3 E3 hd3 gp3 hz=>?_) ds2 items2 ys es y _ G2 D2 ((va1.up E1).up E2) E0.refl ((hd.up E1).up E2) (E2 _ _ (E1 _ _ gp)) ((hy.up (jb E1)).up (jb E2)) e5 rfl
   ·rw [XW λq hq e=>hdj i hi (by rw [← e];exact pg.at' e3 q hq)];exact hm2 i hi
   ·have E4:E0 p G G3:=(E0.of (E1.trans E2)).trans E3;have va4:VA (λb=>D b\/b=p) G3 τ3 ρ0:=⟨by rw [← va3.len,KQ],λi d' hd'=>va3.vw i d' (by
     rw [XW λq hq e=>?_];exact hd';rw [← e,hm _ (pg.at' e3 q hq)] at hd';cases hd')⟩
    exact qah pg pc pi2 pg2 pc2 pe hs hm hm2 hdj fin hfin k ds items zs (es++y) j8 τ3 G3 hr va4 (E.trans E4) hd3 gp3 hz e2 (by rw [← hl];simp)
  |false=>
   rw [if_neg Bool.false_ne_true];simp at e1;subst e1;simp only [Option.some.injEq] at hf;subst hf;exact qah pg pc pi2 pg2 pc2 pe hs hm hm2 hdj fin hfin k ds items ys es j8 _ G1 hr (va2.up E1) (E.trans (E0.of E1)) (hd.up E1) (E1 _ _ gp) (hy.up (jb E1)) e2 hl
def qis (pi:Rho->Option (List PyData)) (h:Rho->PyData->Option (Option (List PyData))) (m:List (Option Nat)) (ρ:Rho):Option PyData:=
 (pi ρ).bind λds=>(qey (h (D6 m ρ)) ds).bind λfs=>cif (fs.length<=sizeLine) (some (.list fs)) none
def qb4 {h:PyData->Option (Option (List PyData))} {α:Type} {g:α->PyData} {k:α->List PyData} {xs:List α} (hh:∀ a∈xs,h (g a)=some (some (k a))):qey h (xs.map g)=some (xs.flatMap k):=by
 induction xs with
 |nil=>rfl
 |cons a r ih=>simp only [map_cons,qey,hh a (by simp),Option.bind_some,ih λb hb=>hh b (by simp [hb]),List.flatMap_cons]
def qnU {wi wi2:TI3} {g g2:TG3} {tif tif2:TT3} {te:TE3} (pi:PuI wi) (pg:PuG g) (pc:PuC tif) (pi2:PuI wi2) (pg2:PuG g2) (pc2:PuC tif2) (pe:PuE te) (m:List (Option Nat)) (hm:Tru (pg.tg.all λi=>m[i]?==some none)) (hm2:Tru (pg2.tg.all λi=>m[i]?==some none)) (hdj:Tru (pg2.tg.all λi=>!pg.tg.contains i)):PuE (qk3 wi g tif wi2 g2 tif2 te m):=
 ⟨qis pi.f (qjO pg.f pc.f pi2.f (lcH pg2.f pc2.f pe.f)) m,pi.fv++m.filterMap id,true,λ{D τ ρ G q d} hv hd hf k=>by
  unfold qis at hf;obtain ⟨ds,e1,hf⟩:=obb hf;obtain ⟨fs,e2,hf⟩:=obb hf;unfold cif at hf;split at hf
  ·rename_i hl;cases hf;refine pi.ok hv.l hd e1 λitems stay G1 E1 D1 hs _ p hp=>?_;have va:=(VA.cap (m:=m) hv.r).up E1;have np:∀ {b o},G1 b=some o->b≠p:=λe=>by rintro rfl;rw [hp] at e;cases e
   have X1:Ex (rs D G1) (rs (λb=>D b\/b=p) (gu G1 p (.lst []))):=λb o e=>by
    obtain ⟨n,e⟩:=qw e;rw [jy (by rintro (z|z);exact n z;exact np e z),jF (np e)];exact e
   refine qah pg pc pi2 pg2 pc2 pe (D:=D) (ρ0:=D6 m ρ) (G0:=gu G1 p (.lst [])) (p:=p) (λG2 E2=>hs G2 (.inr (X1.trans E2))) (λi hi=>W5 ?_) (λi hi=>W5 ?_) (λi hi hj=>?_) fs hl (λG2 ys E2 gp D2=>?_) ds items [] [] fs _ _ (D1.up X1) ⟨va.len,λi d hd=>let ⟨t,a,b⟩:=va.vw i d hd;⟨t,a,b.up X1⟩⟩ E0.refl ?_ qL .nil e2 (by simp)
   ·simpa using List.all_eq_true.mp hm.h i hi
   ·simpa using List.all_eq_true.mp hm2.h i hi
   ·have:=List.all_eq_true.mp hdj.h i hi;simp at this;exact this hj
   ·have EE:Ex G1 G2:=λb o e=>E2 b o (np e) (by rw [jF (np e)];exact e);have hdp:¬ D p:=λz=>(hd.up E1) p z hp;refine k _ _ (E1.trans EE) (.lst (by rw [jy hdp];exact gp) (D2.up (z9 λb z=>.inl z))) λ_=>Nw.back (.inr ⟨p,ys,fs,rfl,rfl,hp,gp,D2⟩) E1
   ·intro b hb z;by_cases e:b=p
    ·subst e;rw [qL] at z;cases z
    ·rw [jF e] at z;rcases hb with hb|hb
     ·exact (hd.up E1) b hb z
     ·exact e hb
  ·cases hf⟩
def AD (D:Addr->Prop) (A:Nat->Option Addr) (b:Addr):Prop:=D b\/∃ i,A i=some b
structure RS (D:Addr->Prop) (G0:Gp) (A:Nat->Option Addr) (τ:St3) (ρ:Rho) (G:Gp):Prop where
 ex:Ex G0 G
 dm:Dom D G0
 fr:∀ i p,A i=some p->G0 p=none
 da:∀ i p,A i=some p->G p≠none
 inj:∀ i j p,A i=some p->A j=some p->i=j
 len:ρ.length=τ.length
 sh:∀ (i:Nat) (d:PyData),ρ[i]?=some (Sl.sh d)->∃ t,τ[i]?=some (some t)/\Dq (rs (AD D A) G) t d
 ow:∀ (i:Nat) (ds:List PyData),ρ[i]?=some (Sl.ow ds)->∃ p xs,A i=some p/\τ[i]?=some (some (.ref p))/\G p=some (.lst xs)/\Dqs (rs (AD D A) G) xs ds
 dc:∀ (i:Nat) (kvs:List (Int×PyData)),ρ[i]?=some (Sl.dc kvs)->∃ p ks,A i=some p/\τ[i]?=some (some (.ref p))/\G p=some (.dct ks)/\ks.map (λq=>q.1)=kvs.map (λq=>q.1)/\Dqs (rs (AD D A) G) (ks.map λq=>q.2) (kvs.map λq=>q.2)
section
variable {D:Addr->Prop} {G0 G G':Gp} {A A':Nat->Option Addr} {τ:St3} {ρ:Rho}
def RS.nd (h:RS D G0 A τ ρ G) {i:Nat} {p:Addr} (e:A i=some p):¬ D p:=λz=>h.dm p z (h.fr i p e)
def RS.dom (h:RS D G0 A τ ρ G):Dom (AD D A) G:=λb hb=>by
 rcases hb with hb|⟨i,hi⟩
 ·exact (h.dm.up h.ex) b hb
 ·exact h.da i b hi
def RS.domD (h:RS D G0 A τ ρ G):Dom D G:=h.dm.up h.ex
def RS.up (h:RS D G0 A τ ρ G) (e:Ex G G'):RS D G0 A τ ρ G':=
 ⟨h.ex.trans e,h.dm,h.fr,λi p a z=>(h.da i p a) (by
  cases g:G p with
  |none=>rfl
  |some o=>rw [e _ _ g] at z;cases z),h.inj,h.len,λi d a=>let ⟨t,b,c⟩:=h.sh i d a;⟨t,b,c.up (jb e)⟩,λi ds a=>let ⟨p,xs,b,c,d,f⟩:=h.ow i ds a;⟨p,xs,b,c,e _ _ d,f.up (jb e)⟩,λi ds a=>let ⟨p,xs,b,c,d,k,f⟩:=h.dc i ds a;⟨p,xs,b,c,e _ _ d,k,f.up (jb e)⟩⟩
def RS.viewAll (h:RS D G0 A τ ρ G) (fv:List Nat):WB fv D G τ ρ:=λi _ d hd=>by
 unfold vw at hd;obtain ⟨s,e,hd⟩:=obb hd;have less:Ex (rs (AD D A) G) (rs D G):=z9 λb z=>.inl z;cases s with
 |un=>cases hd
 |sh d'=>
  cases hd;obtain ⟨t,b,c⟩:=h.sh i _ e;exact ⟨t,b,c.up less⟩
 |ow ds=>
  cases hd;obtain ⟨p,xs,b,c,g,f⟩:=h.ow i _ e;exact ⟨_,c,.lst (by rw [jy (h.nd b)];exact g) (f.up less)⟩
 |dc kvs=>cases hd
def RS.view (h:RS D G0 A τ ρ G) {fv:List Nat} (hn:∀ i∈fv,A i=none):WB fv (AD D A) G τ ρ:=λi hi d hd=>by
 unfold vw at hd;obtain ⟨s,e,hd⟩:=obb hd;cases s with
 |un=>cases hd
 |sh d'=>
  cases hd;exact h.sh i _ e
 |ow ds=>
  obtain ⟨p,xs,b,_⟩:=h.ow i _ e;rw [hn i hi] at b;cases b
 |dc kvs=>cases hd
def Sl.dem:Sl->Sl
 |.ow ds=>.sh (.list ds)
 |.dc _=>.un
 |s=>s
def dm:List Bool->Rho->Rho
 |b::m,s::r=>(match b with|true=>s.dem|false=>s)::dm m r
 |_,r=>r
def mkb (m:List Bool) (i:Nat):Bool:=(m[i]?).getD false
def SH:∀ (m:List Bool) (ρ:Rho) (i:Nat),(dm m ρ)[i]?=(ρ[i]?).map λs=>if mkb m i=true then s.dem else s
 |[],ρ,i=>by simp [dm,mkb]
 |b::m,[],i=>by simp [dm]
 |b::m,s::r,0=>by cases b<;>simp [dm,mkb]
 |b::m,s::r,i+1=>by
  have:=SH m r i;simp only [dm,getElem?_cons_succ,mkb] at this ⊢;exact this
def qlL (s:Sl):s.dem.d=s.d:=by cases s<;>rfl
def qm5 (m:List Bool) (ρ:Rho) (i:Nat):vw (dm m ρ) i=vw ρ i:=by
 unfold vw;rw [SH];cases ρ[i]? with
 |none=>rfl
 |some s=>
  simp only [Option.map_some,Option.bind_some];split
  ·exact qlL s
  ·rfl
def qc8:∀ (m:List Bool) (ρ:Rho),(dm m ρ).length=ρ.length
 |[],ρ=>rfl
 |b::m,[]=>rfl
 |b::m,s::r=>by simp [dm,qc8 m r]
def Ad (m:List Bool) (A:Nat->Option Addr):Nat->Option Addr:=λi=>if mkb m i=true then none else A i
def EZ {m:List Bool} {i:Nat} {p:Addr} (h:Ad m A i=some p):A i=some p/\mkb m i=false:=by
 unfold Ad at h;split at h
 ·cases h
 ·rename_i n;exact ⟨h,by simpa using n⟩
def RS.dem (h:RS D G0 A τ ρ G) (m:List Bool):RS D G0 (Ad m A) τ (Pu.dm m ρ) G:=by
 have less:Ex (rs (AD D A) G) (rs (AD D (Ad m A)) G):=z9 λb z=>by
  rcases z with z|⟨i,z⟩
  ·exact .inl z
  ·exact .inr ⟨i,(EZ z).1⟩
 refine ⟨h.ex,h.dm,λi p e=>h.fr i p (EZ e).1,λi p e=>h.da i p (EZ e).1,λi j p a b=>h.inj i j p (EZ a).1 (EZ b).1,by rw [qc8];exact h.len,λi d e=>?_,λi ds e=>?_,λi kvs e=>?_⟩
 ·rw [SH] at e;obtain ⟨s,e1,e2⟩:=Option.map_eq_some_iff.mp e;cases s with
  |un=>split at e2<;>cases e2
  |sh d'=>
   have:d'=d:=by split at e2<;>(cases e2;rfl)
   subst this;obtain ⟨t,b,c⟩:=h.sh i _ e1;exact ⟨t,b,c.up less⟩
  |ow ds=>
   split at e2
   ·rename_i hm;cases e2;obtain ⟨p,xs,b,c,g,f⟩:=h.ow i _ e1;refine ⟨_,c,.lst ?_ (f.up less)⟩;rw [jy]
    ·exact g
    ·rintro (z|⟨j,z⟩)
     ·exact h.nd b z
     ·have:=h.inj i j p b (EZ z).1;subst this;rw [(EZ z).2] at hm;cases hm
   ·cases e2
  |dc kvs=>split at e2<;>cases e2
 ·rw [SH] at e;obtain ⟨s,e1,e2⟩:=Option.map_eq_some_iff.mp e;cases s with
  |un=>split at e2<;>cases e2
  |sh d'=>split at e2<;>cases e2
  |ow ds'=>
   split at e2
   ·cases e2
   ·rename_i hm;cases e2;obtain ⟨p,xs,b,c,g,f⟩:=h.ow i _ e1;exact ⟨p,xs,by unfold Ad;rw [if_neg hm];exact b,c,g,f.up less⟩
  |dc kvs=>split at e2<;>cases e2
 ·rw [SH] at e;obtain ⟨s,e1,e2⟩:=Option.map_eq_some_iff.mp e;cases s with
  |un=>split at e2<;>cases e2
  |sh d'=>split at e2<;>cases e2
  |ow ds'=>split at e2<;>cases e2
  |dc ds'=>
   split at e2
   ·cases e2
   ·rename_i hm;cases e2;obtain ⟨p,xs,b,c,g,k,f⟩:=h.dc i _ e1;exact ⟨p,xs,by unfold Ad;rw [if_neg hm];exact b,c,g,k,f.up less⟩
def RS.viewD (h:RS D G0 A τ ρ G) {m:List Bool} {fv:List Nat} (hm:Tru (fv.all (mkb m))):WB fv (AD D (Ad m A)) G τ ρ:=by
 have:=(h.dem m).view (fv:=fv) λi hi=>by unfold Ad;rw [if_pos (List.all_eq_true.mp hm.h i hi)]
 intro i hi d hd;exact this i hi d (by rw [qm5];exact hd)
def Er (A:Nat->Option Addr) (i:Nat):Nat->Option Addr:=λj=>if j=i then none else A j
def DT {i j:Nat} {p:Addr} (h:Er A i j=some p):A j=some p/\j≠i:=by
 unfold Er at h;split at h
 ·cases h
 ·rename_i n;exact ⟨h,n⟩
def RS.put (h:RS D G0 A τ ρ G) (i:Nat) {x:T} {d:PyData} (hx:Dq (rs (AD D A) G) x d):RS D G0 (Er A i) (τ.set i (some x)) (ρ.set i (.sh d)) G:=by
 have less:Ex (rs (AD D A) G) (rs (AD D (Er A i)) G):=z9 λb z=>by
  rcases z with z|⟨j,z⟩
  ·exact .inl z
  ·exact .inr ⟨j,(DT z).1⟩
 refine ⟨h.ex,h.dm,λj p e=>h.fr j p (DT e).1,λj p e=>h.da j p (DT e).1,λj k p a b=>h.inj j k p (DT a).1 (DT b).1,by simp [h.len],λj e he=>?_,λj ds e=>?_,λj ds e=>?_⟩
 ·rw [getElem?_set] at he ⊢;split at he
  ·rename_i hj;rw [if_pos hj];split at he
   ·rename_i hl;cases he;exact ⟨x,by rw [if_pos (by rw [← h.len];exact hl)],hx.up less⟩
   ·cases he
  ·rename_i hj;rw [if_neg hj];obtain ⟨t,b,c⟩:=h.sh j _ he;exact ⟨t,b,c.up less⟩
 ·rw [getElem?_set] at e ⊢;split at e
  ·split at e<;>cases e
  ·rename_i hj;rw [if_neg hj];obtain ⟨p,xs,b,c,g,f⟩:=h.ow j _ e;exact ⟨p,xs,by unfold Er;rw [if_neg (λz=>hj z.symm)];exact b,c,g,f.up less⟩
 ·rw [getElem?_set] at e ⊢;split at e
  ·split at e<;>cases e
  ·rename_i hj;rw [if_neg hj];obtain ⟨p,xs,b,c,g,k,f⟩:=h.dc j _ e;exact ⟨p,xs,by unfold Er;rw [if_neg (λz=>hj z.symm)];exact b,c,g,k,f.up less⟩
def RS.puts:∀ {ts:List (Nat×T)} {bs:List (Nat×PyData)} {A:Nat->Option Addr} {τ:St3} {ρ:Rho},RS D G0 A τ ρ G->Bd (rs (AD D A) G) ts bs->∃ A',RS D G0 A' (sets τ ts) (Q4 ρ bs) G
 |_,_,A,_,_,h,.nil=>⟨A,h⟩
 |_,_,A,_,_,h,.cons (i:=i) a b=>by
  unfold sets Q4;exact RS.puts (h.put i a) (b.up (z9 λb z=>by
   rcases z with z|⟨j,z⟩
   ·exact .inl z
   ·exact .inr ⟨j,(DT z).1⟩))
def RS.putN (h:RS D G0 A τ ρ G) (i:Nat) {x:T} {d:PyData} {ds:List PyData} (hd:d=.list ds) (E:Ex G G') (hx:Nw (AD D A) G G' x d):RS D G0 (λj=>if j=i then (match x with|.ref p=>some p|_=>none) else A j) (τ.set i (some x)) (ρ.set i (.ow ds)) G':=by
 rcases hx with hx|⟨p,xs,ds',rfl,e',gp,gp',hs⟩
 ·rw [hd] at hx;cases hx
 rw [hd] at e';cases e';have np:∀ {j q},A j=some q->q≠p:=λe=>by rintro rfl;exact h.da _ _ e gp
 have X1:Ex (rs (AD D A) G) (rs (AD D (λj=>if j=i then some p else A j)) G'):=λb o e=>by
  obtain ⟨n,e⟩:=qw e;rw [jy]
  ·exact E _ _ e
  ·rintro (z|⟨j,z⟩)
   ·exact n (.inl z)
   ·simp only at z;split at z
    ·cases z;rw [gp] at e;cases e
    ·exact n (.inr ⟨j,z⟩)
 refine ⟨h.ex.trans E,h.dm,λj q e=>?_,λj q e=>?_,λj k q a b=>?_,by simp [h.len],λj e he=>?_,λj es e=>?_,λj es e=>?_⟩
 ·simp only at e;split at e
  ·cases e;cases z:G0 p with
   |none=>rfl
   |some o=>rw [h.ex _ _ z] at gp;cases gp
  ·exact h.fr j q e
 ·simp only at e;split at e
  ·cases e;rw [gp'];simp
  ·exact (h.up E).da j q e
 ·simp only at a b;split at a
  ·cases a;split at b
   ·rename_i h1 h2;rw [h1,h2]
   ·exact absurd rfl (np b)
  ·split at b
   ·cases b;exact absurd rfl (np a)
   ·exact h.inj j k q a b
 ·rw [getElem?_set] at he ⊢;split at he
  ·split at he<;>cases he
  ·rename_i hj;rw [if_neg hj];obtain ⟨t,b,c⟩:=h.sh j _ he;exact ⟨t,b,c.up X1⟩
 ·rw [getElem?_set] at e ⊢;split at e
  ·rename_i hj;subst hj;split at e
   ·rename_i hl;cases e;refine ⟨p,xs,by simp,by rw [if_pos rfl,if_pos (by rw [← h.len];exact hl)],gp',hs.up (z9 λb z=>?_)⟩;rcases z with z|⟨j,z⟩
    ·exact .inl (.inl z)
    ·simp only at z;split at z
     ·cases z;exact .inr rfl
     ·exact .inl (.inr ⟨j,z⟩)
   ·cases e
  ·rename_i hj;rw [if_neg hj];obtain ⟨q,ys,b,c,g,f⟩:=h.ow j _ e;exact ⟨q,ys,by rw [if_neg (λz=>hj z.symm)];exact b,c,E _ _ g,f.up X1⟩
 ·rw [getElem?_set] at e ⊢;split at e
  ·split at e<;>cases e
  ·rename_i hj;rw [if_neg hj];obtain ⟨q,ys,b,c,g,k,f⟩:=h.dc j _ e;exact ⟨q,ys,by rw [if_neg (λz=>hj z.symm)];exact b,c,E _ _ g,k,f.up X1⟩
def RS.wr (h:RS D G0 A τ ρ G) {i:Nat} {p:Addr} {xs:List T} {ds:List PyData} (hi:A i=some p) (ht:τ[i]?=some (some (.ref p))) (hs:Dqs (rs (AD D A) G) xs ds):RS D G0 A τ (ρ.set i (.ow ds)) (gu G p (.lst xs)):=by
 have X1:Ex (rs (AD D A) G) (rs (AD D A) (gu G p (.lst xs))):=λb o e=>by
  obtain ⟨n,e⟩:=qw e;rw [jy n,jF (by rintro rfl;exact n (.inr ⟨i,hi⟩))];exact e
 refine ⟨λb o e=>?_,h.dm,h.fr,λj q e=>?_,h.inj,by simp [h.len],λj e he=>?_,λj es e=>?_,λj es e=>?_⟩
 ·rw [jF (by rintro rfl;rw [h.fr i _ hi] at e;cases e)];exact h.ex _ _ e
 ·by_cases z:q=p
  ·subst z;rw [qL];simp
  ·rw [jF z];exact h.da j q e
 ·rw [getElem?_set] at he;split at he
  ·split at he<;>cases he
  ·obtain ⟨t,b,c⟩:=h.sh j _ he;exact ⟨t,b,c.up X1⟩
 ·rw [getElem?_set] at e;split at e
  ·rename_i hj;subst hj;split at e
   ·cases e;exact ⟨p,xs,hi,ht,qL,hs.up X1⟩
   ·cases e
  ·rename_i hj;obtain ⟨q,ys,b,c,g,f⟩:=h.ow j _ e;exact ⟨q,ys,b,c,by rw [jF (by rintro rfl;exact hj (h.inj i j _ hi b))];exact g,f.up X1⟩
 ·rw [getElem?_set] at e;split at e
  ·split at e<;>cases e
  ·rename_i hj;obtain ⟨q,ys,b,c,g,k,f⟩:=h.dc j _ e;exact ⟨q,ys,b,c,by rw [jF (by rintro rfl;exact hj (h.inj i j _ hi b))];exact g,k,f.up X1⟩
def RS.base {Gb:Gp} (h:RS D Gb A τ ρ G) (e:Ex G0 Gb) (hd:Dom D G0):RS D G0 A τ ρ G:=
 ⟨e.trans h.ex,hd,(λi p a=>by
  cases z:G0 p with
  |none=>rfl
  |some o=>have:=h.fr i p a;rw [e _ _ z] at this;cases this),h.da,h.inj,h.len,h.sh,h.ow,h.dc⟩
end
inductive Ot where
 |nx (ρ:Rho)|bk (ρ:Rho)|ct (ρ:Rho)|rt (d:PyData) (fr:Bool)
def qkZ (D:Addr->Prop) (G0:Gp) (e:Ends3):Ot->Prop
 |.nx ρ=>∀ A τ G,RS D G0 A τ ρ G->e.nx τ G
 |.bk ρ=>∀ A τ G,RS D G0 A τ ρ G->e.bk τ G
 |.ct ρ=>∀ A τ G,RS D G0 A τ ρ G->e.ct τ G
 |.rt d fr=>∀ x G,Ex G0 G->Dq (rs D G) x d->(fr=true->Nw D G0 G x d)->e.rt x G
def qkZ.base {D:Addr->Prop} {G0 Gb:Gp} {e:Ends3} {o:Ot} (h:qkZ D G0 e o) (x:Ex G0 Gb) (hd:Dom D G0):qkZ D Gb e o:=by
 cases o with
 |nx ρ=>exact λA τ G r=>h A τ G (r.base x hd)
 |bk ρ=>exact λA τ G r=>h A τ G (r.base x hd)
 |ct ρ=>exact λA τ G r=>h A τ G (r.base x hd)
 |rt d fr=>exact λy G a b c=>h y G (x.trans a) b λz=>(c z).back x
structure PuS (t:TS3) where
 f:Nat->Rho->Option Ot
 ok:∀ {D G0 A τ ρ G n o} {e:Ends3},RS D G0 A τ ρ G->f n ρ=some o->qkZ D G0 e o->t e τ G
def Z9:PuS za:=⟨λ_ ρ=>some (.nx ρ),λh hf k=>by cases hf;exact k _ _ _ h⟩
def qo3:PuS qlk:=⟨λ_ ρ=>none,λh hf k=>by cases hf⟩
def qlf (a b:Nat->Rho->Option Ot) (n:Nat) (ρ:Rho):Option Ot:=(a n ρ).bind λo=>match o with|.nx ρ'=>b n ρ'|o=>some o
def QQ {t u:TS3} (a:PuS t) (b:PuS u):PuS (qY t u):=⟨qlf a.f b.f,λ{D G0 A τ ρ G n o e} h hf k=>by
 unfold qlf at hf;obtain ⟨o1,e1,hf⟩:=obb hf;refine a.ok h e1 ?_;cases o1 with
 |nx ρ'=>exact λA' τ' G' h'=>b.ok h' hf k
 |bk ρ'=>cases hf;exact k
 |ct ρ'=>cases hf;exact k
 |rt d fr=>cases hf;exact k⟩
def sIf {c:TT3} {t u:TS3} (pc:PuC c) (a:PuS t) (b:PuS u):PuS (QB c t u):=⟨λn ρ=>(pc.f ρ).bind λk=>if k then a.f n ρ else b.f n ρ,λh hf k=>by
 obtain ⟨o1,e1,hf⟩:=obb hf;refine pc.ok (h.viewAll _) h.domD e1 λG1 E1=>?_;cases o1 with
 |true=>exact a.ok (h.up E1) hf k
 |false=>exact b.ok (h.up E1) hf k⟩
def V0 {t:TE3} (a:PuE t):PuS (zz t):=⟨λ_ ρ=>(a.f ρ).map λd=>.rt d a.nw,λh hf k=>by
 obtain ⟨d,e1,rfl⟩:=Option.map_eq_some_iff.mp hf;exact a.ok (h.viewAll _) h.domD e1 λx G1 E1 D1 N1=>k x G1 (h.ex.trans E1) D1 λz=>(N1 z).back h.ex⟩
def qfG (ρ:Rho) (i:Nat):Option Ot:=match ρ[i]? with|some (.ow ds)=>some (.rt (.list ds) true)|some (.sh d)=>some (.rt d false)|_=>none
def qbu (i:Nat):PuS (zz (v3 i)):=⟨λ_ ρ=>qfG ρ i,λh hf k=>by
 unfold qfG at hf;split at hf
 ·rename_i ds e;cases hf;obtain ⟨p,xs,b,c,g,f⟩:=h.ow i _ e;simp only [zz,v3,c];refine k _ _ h.ex (.lst (by rw [jy (h.nd b)];exact g) (f.up (z9 λb z=>.inl z))) λ_=>.inr ⟨p,xs,ds,rfl,rfl,h.fr i p b,g,f.up (z9 λq z=>?_)⟩;rcases z with z|z
  ·exact .inl z
  ·subst z;exact .inr ⟨i,b⟩
 ·rename_i d e;cases hf;obtain ⟨t,b,c⟩:=h.sh i _ e;simp only [zz,v3,b];exact k _ _ h.ex (c.up (z9 λb z=>.inl z)) (λz=>by cases z)
 ·cases hf⟩
def UZ {H H':Gp} {x:T} {d:PyData} (h:Dq H x d) (s:LY d=true):Dq H' x d:=by
 cases h<;>first|(constructor;done)|(simp [LY] at s;done)
def qo4:PyData->Sl
 |.list ds=>.ow ds
 |d=>.sh d
def L4 (m:List Bool) (nw:Bool) (i:Nat) (d:PyData) (ρ:Rho):Rho:=if LY d then ρ.set i (.sh d) else (dm m ρ).set i (if nw then qo4 d else .sh d)
def CA {t:TE3} (a:PuE t) (i:Nat) (m:List Bool) (hm:Tru (a.fv.all (mkb m))):PuS (zQ t (gn3 i)):=⟨λ_ ρ=>(a.f ρ).map λd=>.nx (L4 m a.nw i d ρ),λ{D G0 A τ ρ G n o e} h hf k=>by
 obtain ⟨d,e1,rfl⟩:=Option.map_eq_some_iff.mp hf;refine a.ok (h.viewD hm) (h.dem m).dom e1 λx G1 E1 D1 N1=>?_;unfold L4 at k;show e.nx (τ.set i (some x)) G1;split at k
 ·rename_i hs;exact k _ _ _ ((h.up E1).put i (UZ D1 hs))
 ·split at k
  ·rename_i hn;have N:=N1 hn;rcases id N with h2|⟨p,xs,ds,h1,h2,_⟩
   ·exact absurd h2 (by assumption)
   subst h2;exact k _ _ _ ((h.dem m).putN i rfl E1 N)
  ·exact k _ _ _ (((h.dem m).up E1).put i D1)⟩
def qco {t:TE3} {g:TG3} (a:PuE t) (pg:PuG g) (m:List Bool) (hm:Tru (a.fv.all (mkb m))):PuS (zQ t g):=⟨λ_ ρ=>(a.f ρ).bind λd=>(pg.f d).map λbs=>.nx (Q4 (dm m ρ) bs),λ{D G0 A τ ρ G n o e} h hf k=>by
 obtain ⟨d,e1,hf⟩:=obb hf;obtain ⟨bs,e2,rfl⟩:=Option.map_eq_some_iff.mp hf;refine a.ok (h.viewD hm) (h.dem m).dom e1 λx G1 E1 D1 N1=>?_;obtain ⟨ts,bd,kg⟩:=pg.ok D1 e2;refine kg _ _ _ ?_;obtain ⟨A',h'⟩:=((h.dem m).up E1).puts bd;exact k _ _ _ h'⟩
def NX (i j:Nat) (m:List Bool) (ds:List PyData) (ρ:Rho):Option Ot:=match ds with
 |[d,e]=>if LY d&&LY e then some (.nx ((ρ.set i (.sh d)).set j (.sh e))) else some (.nx (((dm m ρ).set i (.sh d)).set j (.sh e)))
 |_=>none
def qeM {D:Addr->Prop} {A:Nat->Option Addr} {G:Gp} {i:Nat}:Ex (rs (AD D A) G) (rs (AD D (Er A i)) G):=z9 λb z=>by
 rcases z with z|⟨j,z⟩
 ·exact .inl z
 ·exact .inr ⟨j,(DT z).1⟩
def qlo {t:TA3} (a:PuA t) (i j:Nat) (m:List Bool) (hm:Tru (a.fv.all (mkb m))):PuS (MO i j t):=⟨λ_ ρ=>(a.f ρ).bind λds=>NX i j m ds ρ,λ{D G0 A τ ρ G n o e} h hf k=>by
 obtain ⟨ds,e1,hf⟩:=obb hf;refine a.ok (h.viewD hm) (h.dem m).dom e1 λx G1 E1 D1=>?_;unfold NX at hf;split at hf
 ·cases D1 with
  |cons a b=>cases b with
   |cons b c=>
    cases c;split at hf
    ·rename_i hs;cases hf;rw [Bool.and_eq_true] at hs;exact k _ _ _ (((h.up E1).put i (UZ a hs.1)).put j (UZ b hs.2))
    ·cases hf;exact k _ _ _ ((((h.dem m).up E1).put i a).put j (b.up qeM))
 ·cases hf⟩
def slot (ρ:Rho) (i:Nat):Option (List PyData):=match ρ[i]? with|some (.ow ds)=>some ds|_=>none
def ZB {ρ:Rho} {i:Nat} {ds:List PyData} (h:slot ρ i=some ds):ρ[i]?=some (.ow ds):=by
 unfold slot at h;split at h
 ·rename_i e;cases h;exact e
 ·cases h
def dmS (m:List Bool) (d:PyData) (ρ:Rho):Rho:=if LY d then ρ else dm m ρ
def RS.evalS {D:Addr->Prop} {G0 G:Gp} {A:Nat->Option Addr} {τ:St3} {ρ:Rho} (h:RS D G0 A τ ρ G) {t:TE3} (a:PuE t) (m:List Bool) (hm:Tru (a.fv.all (mkb m))) {d:PyData} (hf:a.f ρ=some d):∃ A1,RS D G0 A1 τ (dmS m d ρ) G/\∀ q:Q3,(∀ x G',Ex G G'->Dq (rs (AD D A1) G') x d->q x G')->t τ G q:=by
 unfold dmS;by_cases hs:LY d=true
 ·rw [if_pos hs];exact ⟨A,h,λq k=>a.ok (h.viewAll _) h.domD hf λx G1 E1 D1 _=>k x G1 E1 (UZ D1 hs)⟩
 ·rw [if_neg hs];exact ⟨Ad m A,h.dem m,λq k=>a.ok (h.viewD hm) (h.dem m).dom hf λx G1 E1 D1 _=>k x G1 E1 D1⟩
def qgC (i:Nat) (d:PyData) (ρ:Rho):Option Ot:=match d with|.list es=>(slot ρ i).bind λds=>cif (ds.length+es.length<=sizeLine) (some (.nx (ρ.set i (.ow (ds++es))))) none|_=>none
def qlb (i:Nat) (k d:PyData) (ρ:Rho):Option Ot:=(asI k).bind λk=>(slot ρ i).bind λds=>(ixN ds.length k).bind λj=>some (.nx (ρ.set i (.ow (ds.set j d))))
def qnp {t ti:TE3} (a:PuE t) (i:Nat) (b:PuE ti) (m:List Bool) (hm:Tru (a.fv.all (mkb m))):PuS (zQ t (UF (v3 i) ti)):=⟨λ_ ρ=>(a.f ρ).bind λd=>(b.f ρ).bind λk=>qlb i k d (dmS m d ρ),λ{D G0 A τ ρ G n o e} h hf k=>by
 obtain ⟨d,e1,hf⟩:=obb hf;obtain ⟨kd,e3,hf⟩:=obb hf;obtain ⟨A1,h1,ev⟩:=h.evalS a m hm e1;unfold qlb at hf;obtain ⟨kk,e4,hf⟩:=obb hf;obtain ⟨ds,e2,hf⟩:=obb hf;obtain ⟨j,e5,hf⟩:=obb hf;cases hf;have:=qaA e4;subst this;obtain ⟨p,xs,bb,c,g,f⟩:=h1.ow i _ (ZB e2);refine ev _ λx G1 E1 D1=>?_;simp only [UF,v3,c];refine b.ok ((h.up E1).viewAll _) (h.up E1).domD e3 λy G2 E2 D2 _=>?_;cases D2;simp only [qcQ,E2 _ _ (E1 _ _ g),f.length,e5];exact k _ _ _ (((h1.up E1).up E2).wr bb c (((f.up (jb E1)).up (jb E2)).set j (D1.up (jb E2))))⟩
def RX (gf:PyData->Option (List (Nat×PyData))) (bf:Rho->Option Ot):List PyData->Rho->Option Ot
 |[],ρ=>some (.nx ρ)
 |d::r,ρ=>(gf d).bind λbs=>(bf (Q4 ρ bs)).bind λo=>match o with
  |.nx ρ'=>RX gf bf r ρ'
  |.ct ρ'=>RX gf bf r ρ'
  |.bk ρ'=>some (.nx ρ')
  |.rt d b=>some (.rt d b)
def TK {stay:Gp->Prop} {g:TG3} {tb:TS3} {e:Ends3} (pg:PuG g) (pb:PuS tb) {D:Addr->Prop} {G0:Gp} {n:Nat} {o:Ot} {items0:List T} (hs:∀ A τ ρ G,RS D G0 A τ ρ G->stay G) (k:qkZ D G0 e o) :
  ∀ (ds:List PyData) (items:List T),(∀ A τ ρ G,RS D G0 A τ ρ G->Dqs (rs (AD D A) G) items ds)->∀ A τ ρ G,RS D G0 A τ ρ G->RX pg.f (pb.f n) ds ρ=some o->XX stay g tb e items τ G
 |[],items,hi,A,τ,ρ,G,h,hf=>by
  cases hf;have:=hi _ _ _ _ h;cases this;exact ⟨hs _ _ _ _ h,k _ _ _ h⟩
 |d::ds,items,hi,A,τ,ρ,G,h,hf=>by
  have hh:=hi _ _ _ _ h;cases hh with
  |cons hx hr=>
   rename_i x items;unfold RX at hf;obtain ⟨bs,e1,hf⟩:=obb hf;obtain ⟨o1,e2,hf⟩:=obb hf;obtain ⟨ts,bd,kg⟩:=pg.ok hx e1;refine ⟨hs _ _ _ _ h,kg _ _ _ ?_⟩;obtain ⟨A',h'⟩:=h.puts bd;refine pb.ok h' e2 ?_;have hi':∀ A τ ρ G,RS D G0 A τ ρ G->Dqs (rs (AD D A) G) items ds:=λA τ ρ G h=>by
    have:=hi _ _ _ _ h;cases this with
    |cons a b=>exact b
   cases o1 with
   |nx ρ'=>exact λA2 τ2 G2 h2=>TK (items0:=items0) pg pb hs k ds items hi' _ _ _ _ h2 hf
   |ct ρ'=>exact λA2 τ2 G2 h2=>TK (items0:=items0) pg pb hs k ds items hi' _ _ _ _ h2 hf
   |bk ρ'=>cases hf;exact k
   |rt d fr=>cases hf;exact k
def qih (pi:Rho->Option (List PyData)) (nm:Bool) (m:List Bool) (gf:PyData->Option (List (Nat×PyData))) (bf:Nat->Rho->Option Ot) (n:Nat) (ρ:Rho):Option Ot:=(pi ρ).bind λds=>RX gf (bf n) ds (if nm then ρ else dm m ρ)
def qlj {wi:TI3} {g:TG3} {tb:TS3} (pi:PuI wi) (pg:PuG g) (pb:PuS tb) (m:List Bool) (hm:Tru (pi.fv.all (mkb m))):PuS (S6 wi g tb):=⟨qih pi.f pi.nm m pg.f pb.f,λ{D G0 A τ ρ G n o e} h hf k=>by
 unfold qih at hf;obtain ⟨ds,e1,hf⟩:=obb hf;refine pi.ok (h.viewD hm) (h.dem m).dom e1 λitems stay G1 E1 D1 hs hnm=>?_;cases hb:pi.nm with
 |true=>
  rw [hb,if_pos rfl] at hf;obtain ⟨ns,rfl⟩:=hnm hb;have:=D1.ints;subst this;exact TK (items0:=[]) pg pb (λ_ _ _ _ _=>hs _ (.inl hb)) k _ _ (λA τ ρ G _=>Dqs.ofInts _) _ _ _ _ (h.up E1) hf
 |false=>
  rw [hb,if_neg Bool.false_ne_true] at hf;have h1:=(h.dem m).up E1;have b1:Ex G0 (rs (λb=>∃ i,Ad m A i=some b) G1):=λb o e=>by
   rw [jy]
   ·exact h1.ex _ _ e
   ·rintro ⟨i,z⟩;rw [h1.fr i _ z] at e;cases e
  have h2:RS D (rs (λb=>∃ i,Ad m A i=some b) G1) (Ad m A) τ (dm m ρ) G1:=⟨ZN,h.dm.up b1,λi p z=>by unfold rs;exact ze ⟨i,z⟩,h1.da,h1.inj,h1.len,h1.sh,h1.ow,h1.dc⟩
  have X:∀ A2 τ2 ρ2 G2,RS D (rs (λb=>∃ i,Ad m A i=some b) G1) A2 τ2 ρ2 G2->Ex (rs (AD D (Ad m A)) G1) (rs (AD D A2) G2):=λA2 τ2 ρ2 G2 r b o e=>by
   obtain ⟨n1,e⟩:=qw e;have eb:rs (λb=>∃ i,Ad m A i=some b) G1 b=some o:=by rw [jy (λz=>n1 (.inr z))];exact e
   rw [jy]
   ·exact r.ex _ _ eb
   ·rintro (z|⟨i,z⟩)
    ·exact n1 (.inl z)
    ·rw [r.fr i _ z] at eb;cases eb
  exact TK (items0:=[]) pg pb (λA2 τ2 ρ2 G2 r=>hs _ (.inr ((X _ _ _ _ r).trans ZN))) (k.base b1 h.dm) _ _ (λA2 τ2 ρ2 G2 r=>D1.up (X _ _ _ _ r)) _ _ _ _ h2 hf⟩
def whP (cf:Rho->Option Bool) (bf:Rho->Option Ot):Nat->Rho->Option Ot
 |0,_=>none
 |n+1,ρ=>(cf ρ).bind λk=>if k then (bf ρ).bind λo=>match o with
   |.nx ρ'=>whP cf bf n ρ'
   |.ct ρ'=>whP cf bf n ρ'
   |.bk ρ'=>some (.nx ρ')
   |.rt d b=>some (.rt d b)
  else some (.nx ρ)
def sWh {c:TT3} {tb:TS3} (pc:PuC c) (pb:PuS tb):PuS (KS c tb):=⟨λn ρ=>whP pc.f (pb.f n) n ρ,λ{D G0 A τ ρ G n o e} h hf k=>by
 refine ⟨λm τ G=>∃ A ρ,RS D G0 A τ ρ G/\whP pc.f (pb.f n) m ρ=some o,⟨n,A,ρ,h,hf⟩,?_⟩;rintro m τ G ⟨A,ρ,h,hf⟩;cases m with
 |zero=>cases hf
 |succ m=>
  unfold whP at hf;obtain ⟨b,e1,hf⟩:=obb hf;refine pc.ok (h.viewAll _) h.domD e1 λG1 E1=>?_;cases b with
  |true=>
   rw [if_pos rfl] at hf ⊢;obtain ⟨o1,e2,hf⟩:=obb hf;cases o1 with
   |nx ρ'=>exact ⟨λτ' G'=>∃ A',RS D G0 A' τ' ρ' G',λτ' G' ⟨A',h'⟩=>⟨m,by omega,A',ρ',h',hf⟩,pb.ok (h.up E1) e2 λA' τ' G' h'=>⟨A',h'⟩⟩
   |ct ρ'=>exact ⟨λτ' G'=>∃ A',RS D G0 A' τ' ρ' G',λτ' G' ⟨A',h'⟩=>⟨m,by omega,A',ρ',h',hf⟩,pb.ok (h.up E1) e2 λA' τ' G' h'=>⟨A',h'⟩⟩
   |bk ρ'=>cases hf;exact ⟨λ_ _=>False,λ_ _ z=>z.elim,pb.ok (h.up E1) e2 k⟩
   |rt d fr=>cases hf;exact ⟨λ_ _=>False,λ_ _ z=>z.elim,pb.ok (h.up E1) e2 k⟩
  |false=>
   cases hf;rw [if_neg Bool.false_ne_true];exact k _ _ _ (h.up E1)⟩
def UY (fr:Bool):Option Ot->Option PyData
 |some (.rt d b)=>if fr=true/\b=false then (match d with|.none=>some .none|_=>none) else some d
 |some (.nx _)=>if fr then none else some .none
 |_=>none
def st (ds:List PyData) (N:Nat):Rho:=ds.map Sl.sh++List.replicate (N-ds.length) .un
def run (f:Nat->Rho->Option Ot) (k N n:Nat) (fr:Bool) (ds:List PyData):Option PyData:=if ds.length=k then UY fr (f n (st ds N)) else none
def zT {t:TS3} (b:PuS t) (N:List Str) (k n:Nat) (fr:Bool):∀ ts G q,PSp (run b.f k N.length n fr) fr ts G q->ts.length=k/\t { nx:=λ_ G'=>q .non G',rt:=q } (qE N ts) G:=by
 rintro ts G q ⟨D,ds,d,hs,hd,hf,h⟩;unfold run at hf;split at hf
 ·rename_i hk;refine ⟨by rw [hs.length];exact hk,?_⟩;have r:RS D G (λ_=>none) (qE N ts) (st ds N.length) G:=by
   refine ⟨Ex.refl,hd,(λi p e=>by cases e),(λi p e=>by cases e),(λi j p e=>by cases e),(by simp [st,qE,hs.length]),λi d' e=>?_,λi es e=>?_,λi es e=>?_⟩
   ·unfold st at e;unfold qE;by_cases hi:i<ds.length
    ·rw [List.getElem?_append_left (by simpa using hi),getElem?_map] at e;obtain ⟨d2,e3,e4⟩:=Option.map_eq_some_iff.mp e;cases e4;obtain ⟨x,e5,hx⟩:=hs.get e3;refine ⟨x,?_,hx.up (z9 λb z=>?_)⟩
     ·rw [List.getElem?_append_left (by simp [hs.length];exact hi),getElem?_map,e5];rfl
     ·rcases z with z|⟨i,z⟩
      ·exact z
      ·cases z
    ·rw [List.getElem?_append_right (by simpa using hi),List.getElem?_replicate] at e;split at e<;>cases e
   ·unfold st at e;by_cases hi:i<ds.length
    ·rw [List.getElem?_append_left (by simpa using hi),getElem?_map] at e;obtain ⟨d2,e3,e4⟩:=Option.map_eq_some_iff.mp e;cases e4
    ·rw [List.getElem?_append_right (by simpa using hi),List.getElem?_replicate] at e;split at e<;>cases e
   ·unfold st at e;by_cases hi:i<ds.length
    ·rw [List.getElem?_append_left (by simpa using hi),getElem?_map] at e;obtain ⟨d2,e3,e4⟩:=Option.map_eq_some_iff.mp e;cases e4
    ·rw [List.getElem?_append_right (by simpa using hi),List.getElem?_replicate] at e;split at e<;>cases e
  unfold UY at hf;split at hf
  ·rename_i d' b' e;split at hf
   ·split at hf
    ·cases hf;exact b.ok r e λx G' a c z=>h x G' a c λ_=>.inl rfl
    ·cases hf
   ·rename_i hb;cases hf;exact b.ok r e λx G' a c z=>h x G' a c λw=>z (by
     cases b' with
     |true=>rfl
     |false=>exact absurd ⟨w,rfl⟩ hb)
  ·rename_i ρ' e;split at hf
   ·cases hf
   ·rename_i hb;cases hf;exact b.ok r e λA τ G' r'=>h .non G' r'.ex .non λw=>absurd w hb
  ·cases hf
 ·cases hf
def qdv (d:PyData) (es:List PyData):Option PyData:=match d,es with
 |.list ds,[.int k]=>(YJ ds).bind λns=>cif ((PyData.list (List.map PyData.int ns)).layable0=true/\k∈ns) (some (.int (List.idxOf k ns:Nat))) none
 |_,_=>none
def qoa {te:TE3} {t:TA3} (b:PuE te) (a:PuA t):PuE (bm3 qgd te t):=⟨λρ=>(b.f ρ).bind λd=>(a.f ρ).bind λes=>qdv d es,b.fv++a.fv,false,λhv hd hf k=>by
 obtain ⟨d,e1,hf⟩:=obb hf;obtain ⟨es,e2,hf⟩:=obb hf;unfold qdv at hf;split at hf
 ·obtain ⟨ns,e3,hf⟩:=obb hf;unfold cif at hf;split at hf
  ·rename_i c;cases hf;have:=ER e3;subst this;refine b.ok hv.l hd e1 λx G1 E1 D1 _=>?_;cases D1 with
   |lst g hs=>
    have:=hs.ints;subst this;simp only [zy (qw g).2];refine ⟨rfl,a.ok (hv.r.up E1) (hd.up E1) e2 λys G2 E2 D2=>?_⟩;cases D2 with
    |cons a b=>
     cases b;cases a;simp only [qgd,zy (E2 _ _ (qw g).2),ET];exact ⟨c.1,c.2,k _ _ (E1.trans E2) (.int _) (λz=>by cases z)⟩
  ·cases hf
 ·cases hf⟩
def qbP {fr:Bool}:∀ ts G q,PSp (λ_=>none) fr ts G q->False:=λts G q ⟨_,_,_,_,_,h,_⟩=>by cases h
def Fn3.pz {P:Program} {w:World} {K:Frg} {mg:Str->Option Value} {base:Heap} {k:Nat} {x:Str} {sp:Sp3} (F:Fn3 P w K mg base k x sp) (fr:Bool):Fn3 P w K mg base k x (PSp (λ_=>none) fr):=F.imp λts G q h=>(qbP ts G q h).elim
def qnX {i:Nat}:(bV i).f=λρ=>vw ρ i:=id rfl
def qde {i:Int}:(qz i).f=λ_=>some (.int i):=id rfl
def qkr {i:Bool}:(bBl i).f=λ_=>some (.bool i):=id rfl
def qcy {i:Str}:(qne i).f=λ_=>some (.str i):=id rfl
def qeh:qhU.f=λ_=>some .none:=id rfl
def qnV {r:R3} {ta tb:TE3} {R:OpD r} {a:PuE ta} {b:PuE tb}:(bO R a b).f=λρ=>(a.f ρ).bind λx=>(b.f ρ).bind λy=>R.f x y:=id rfl
def qdl:qs.f=λ_=>some []:=id rfl
def qaq {ta:TE3} {tr:TA3} {a:PuE ta} {r:PuA tr}:(qf a r).f=λρ=>(a.f ρ).bind λx=>(r.f ρ).bind λxs=>some (x::xs):=id rfl
def qdM {t:TA3} {a:PuA t} {hn:Tru (Nat.ble a.n 1000)}:(CZ a hn).f=λρ=>(a.f ρ).map .tuple:=id rfl
def qct {t:TA3} {a:PuA t} {hn:Tru (Nat.ble a.n 1000)}:(LW a hn).f=λρ=>(a.f ρ).map .list:=id rfl
def qa4 {r:List T->Gp->Q3->Prop} {t:TA3} {R:FnD r} {a:PuA t}:(qv R a).f=λρ=>(a.f ρ).bind R.f:=id rfl
def qgp {t:TE3} {a:PuE t}:(bTb a).f=λρ=>(a.f ρ).bind asB:=id rfl
def qdJ {t u:TT3} {a:PuC t} {b:PuC u}:(qoh a b).f=λρ=>(a.f ρ).bind λk=>if k then b.f ρ else some false:=id rfl
def qkS {t u:TT3} {a:PuC t} {b:PuC u}:(bOr a b).f=λρ=>(a.f ρ).bind λk=>if k then some true else b.f ρ:=id rfl
def qd2 {t:TT3} {a:PuC t}:(R8 a).f=λρ=>(a.f ρ).map (! ·):=id rfl
def qjl:bTt.f=λ_=>some true:=id rfl
def qaj {ta tb:TE3} {a:PuE ta} {b:PuE tb}:(D0 a b).f=λρ=>((a.f ρ).bind asB).bind λk=>if k then b.f ρ else some (.bool false):=id rfl
def MF {ta:TE3} {a:PuE ta}:(qet a).f=λρ=>((a.f ρ).bind asB).map λk=>.bool (!k):=id rfl
def qdF {ta:TE3} {a:PuE ta}:(qot a).f=λρ=>((a.f ρ).bind asI).map λi=>.int (-i):=id rfl
def qie {r r':R3} {ta tb tc:TE3} {R:OpD r} {R':OpD r'} {a:PuE ta} {b:PuE tb} {c:PuE tc}:(bCh R R' a b c).f=λρ=>(a.f ρ).bind λx=>(b.f ρ).bind λy=>((R.f x y).bind asB).bind λk=>if k then (c.f ρ).bind λz=>R'.f y z else some (.bool false):=id rfl
def qee {ta:TE3} {g:String->Bool} {a:PuE ta}:(S5 g a).f=λρ=>(a.f ρ).bind λd=>(tyD d).map λt=>.bool (g t):=id rfl
def qky:bNp.f=λ_=>some none:=id rfl
def qh7 {t:TE3} {a:PuE t}:(bSp a).f=λρ=>((a.f ρ).bind asI).map some:=id rfl
def qdj {te:TE3} {t:TA3} {b:PuE te} {a:PuA t}:(qoa b a).f=λρ=>(b.f ρ).bind λd=>(a.f ρ).bind λes=>qdv d es:=id rfl
def qhy {wi:TI3} {g:TG3} {tif:TT3} {te:TE3} {pi:PuI wi} {pg:PuG g} {pc:PuC tif} {pe:PuE te} {m:List (Option Nat)} {hm:Tru (pg.tg.all λi=>m[i]?==some none)}:(bLc pi pg pc pe m hm).f=lcF pi.f (lcH pg.f pc.f pe.f) m:=id rfl
def qdx {wi wi2:TI3} {g g2:TG3} {tif tif2:TT3} {te:TE3} {pi:PuI wi} {pg:PuG g} {pc:PuC tif} {pi2:PuI wi2} {pg2:PuG g2} {pc2:PuC tif2} {pe:PuE te} {m:List (Option Nat)} {hm:Tru (pg.tg.all λi=>m[i]?==some none)} {hm2:Tru (pg2.tg.all λi=>m[i]?==some none)} {hdj:Tru (pg2.tg.all λi=>!pg.tg.contains i)}:(qnU pi pg pc pi2 pg2 pc2 pe m hm hm2 hdj).f=qis pi.f (qjO pg.f pc.f pi2.f (lcH pg2.f pc2.f pe.f)) m:=id rfl
def qdw:RW.f=qje:=id rfl
def qdC:qbr.f=qk8:=id rfl
def qek:qmr.f=qk2:=id rfl
def qdN:qk5.f=qkq:=id rfl
def qal {F:List PyData->Option PyData} {fr:Bool}:(zn F fr).f=F:=id rfl
def qgX {g:Int->Int->Int} {i j:Int}:(opI g).f (.int i) (.int j)=some (.int (g i j)):=id rfl
def qiH {g:Int->Int->Bool} {i j:Int}:(opB g).f (.int i) (.int j)=some (.bool (g i j)):=id rfl
def qiy {C:Int->Int->Prop} {g:Int->Int->Int}:(opC C g).f=cI C g:=id rfl
def qdc {n:Bool}:(EN n).f=eqD n:=id rfl
def M3 {n:Bool}:(qjB n).f=qlg n:=id rfl
def qdm {n:Bool}:(qnP n).f=inD n:=id rfl
def qd4:EF.f=ixD:=id rfl
def NM:WV.f=qgg:=id rfl
def qeb {t:TE3} {a:PuE t}:(qc4 a).f=λρ=>(a.f ρ).bind KM:=id rfl
def qdh {t:TA3} {a:PuA t}:(M9 a).f=λρ=>(a.f ρ).bind qaJ:=id rfl
def qcv {t:TA3} {a:PuA t}:(qlc a).f=λρ=>(a.f ρ).bind λds=>match ds with|[d,e]=>(KM d).bind λus=>(KM e).bind λvs=>some (qd3 us vs)|_=>none:=id rfl
def qa0 {t:TA3} {a:PuA t}:(qf5 a).f=λρ=>(a.f ρ).bind λds=>match ds with|[d]=>(KM d).map λus=>enD 0 us|_=>none:=id rfl
def N9 {t:TE3} {a:PuE t}:(qc4 a).nm=false:=id rfl
def TD {t:TA3} {a:PuA t}:(qf5 a).nm=false:=id rfl
def M1 {t:TA3} {a:PuA t}:(M9 a).nm=true:=id rfl
def qn1 {i:Nat}:(gN i).f=λd=>some [(i,d)]:=id rfl
def MN:qbM.f []=some []:=id rfl
def SA {t:TG3} {u:RV} {a:PuG t} {b:PuGs u} {d:PyData} {r:List PyData}:(QN a b).f (d::r)=(a.f d).bind λx=>(b.f r).map λy=>x++y:=id rfl
def qao {u:RV} {n:Nat} {b:PuGs u} {ds:List PyData}:(qbp n b).f (.tuple ds)=if ds.length=n then b.f ds else none:=id rfl
def MW:Z9.f=λ_ ρ=>some (.nx ρ):=id rfl
def qc1 {t u:TS3} {a:PuS t} {b:PuS u}:(QQ a b).f=qlf a.f b.f:=id rfl
def qhQ {c:TT3} {t u:TS3} {pc:PuC c} {a:PuS t} {b:PuS u}:(sIf pc a b).f=λn ρ=>(pc.f ρ).bind λk=>if k then a.f n ρ else b.f n ρ:=id rfl
def qd8 {t:TE3} {a:PuE t}:(V0 a).f=λ_ ρ=>(a.f ρ).map λd=>.rt d a.nw:=id rfl
def NI {i:Nat}:(qbu i).f=λ_ ρ=>qfG ρ i:=id rfl
def qcw {t:TE3} {a:PuE t} {i:Nat} {m:List Bool} {hm:Tru (a.fv.all (mkb m))}:(CA a i m hm).f=λ_ ρ=>(a.f ρ).map λd=>.nx (L4 m a.nw i d ρ):=id rfl
def ME {t:TE3} {g:TG3} {a:PuE t} {pg:PuG g} {m:List Bool} {hm:Tru (a.fv.all (mkb m))}:(qco a pg m hm).f=λ_ ρ=>(a.f ρ).bind λd=>(pg.f d).map λbs=>.nx (Q4 (dm m ρ) bs):=id rfl
def qcZ {t:TA3} {a:PuA t} {i j:Nat} {m:List Bool} {hm:Tru (a.fv.all (mkb m))}:(qlo a i j m hm).f=λ_ ρ=>(a.f ρ).bind λds=>NX i j m ds ρ:=id rfl
def qa5 {t ti:TE3} {a:PuE t} {b:PuE ti} {i:Nat} {m:List Bool} {hm:Tru (a.fv.all (mkb m))}:(qnp a i b m hm).f=λ_ ρ=>(a.f ρ).bind λd=>(b.f ρ).bind λk=>qlb i k d (dmS m d ρ):=id rfl
def qd7 {wi:TI3} {g:TG3} {tb:TS3} {pi:PuI wi} {pg:PuG g} {pb:PuS tb} {m:List Bool} {hm:Tru (pi.fv.all (mkb m))}:(qlj pi pg pb m hm).f=qih pi.f pi.nm m pg.f pb.f:=id rfl
def qjD {c:TT3} {tb:TS3} {pc:PuC c} {pb:PuS tb}:(sWh pc pb).f=λn ρ=>whP pc.f (pb.f n) n ρ:=id rfl
def qkg {i:Nat}:(bV i).nw=false:=id rfl
def qdk {i:Bool}:(bBl i).nw=false:=id rfl
def qid {r:R3} {ta tb:TE3} {R:OpD r} {a:PuE ta} {b:PuE tb}:(bO R a b).nw=R.nw:=id rfl
def NY {t:TA3} {a:PuA t} {hn:Tru (Nat.ble a.n 1000)}:(CZ a hn).nw=false:=id rfl
def M2 {t:TA3} {a:PuA t} {hn:Tru (Nat.ble a.n 1000)}:(LW a hn).nw=true:=id rfl
def KP {r:List T->Gp->Q3->Prop} {t:TA3} {R:FnD r} {a:PuA t}:(qv R a).nw=R.nw:=id rfl
def KT {F:List PyData->Option PyData} {fr:Bool}:(zn F fr).nw=fr:=id rfl
def TY {ta tb:TE3} {a:PuE ta} {b:PuE tb}:(D0 a b).nw=false:=id rfl
def qdI {wi:TI3} {g:TG3} {tif:TT3} {te:TE3} {pi:PuI wi} {pg:PuG g} {pc:PuC tif} {pe:PuE te} {m:List (Option Nat)} {hm:Tru (pg.tg.all λi=>m[i]?==some none)}:(bLc pi pg pc pe m hm).nw=true:=id rfl
def M0:qbr.nw=false:=id rfl
def qaL:qmr.nw=true:=id rfl
def NA:EF.nw=false:=id rfl
def TJ:WV.nw=false:=id rfl
def qeg {C:Int->Int->Prop} {g:Int->Int->Int}:(opC C g).nw=false:=id rfl
def qoj {s:Sl} {r:Rho}:vw (s::r) 0=s.d:=id rfl
def qov {s:Sl} {r:Rho} {i:Nat}:vw (s::r) (i+1)=vw r i:=id rfl
def qkJ {d:PyData}:(Sl.sh d).d=some d:=id rfl
def qip {ds:List PyData}:(Sl.ow ds).d=some (.list ds):=id rfl
def qiB:Sl.un.d=none:=id rfl
def qas {r:Rho} {ds:List PyData}:qfG (.ow ds::r) 0=some (.rt (.list ds) true):=id rfl
def qaI {r:Rho} {d:PyData}:qfG (.sh d::r) 0=some (.rt d false):=id rfl
def qdW {s:Sl} {r:Rho} {i:Nat}:qfG (s::r) (i+1)=qfG r i:=id rfl
def qks {xs:List PyData} {i:Int}:ixD (.tuple xs) (.int i)=L2.atI xs i:=id rfl
def qew {xs:List PyData} {i:Int}:ixD (.list xs) (.int i)=L2.atI xs i:=id rfl
def at0 {α:Type} {a:α} {r:List α}:L2.atI (a::r) 0=some a:=by simp [L2.atI,ixN]
def at1 {α:Type} {a b:α} {r:List α}:L2.atI (a::b::r) 1=some b:=by
 have h:ixN (a::b::r).length 1=some 1:=by unfold ixN;rw [if_pos (by omega),if_pos (by simp;omega)];rfl
 unfold L2.atI;rw [h];rfl
def at2 {α:Type} {a b c:α} {r:List α}:L2.atI (a::b::c::r) 2=some c:=by
 have h:ixN (a::b::c::r).length 2=some 2:=by unfold ixN;rw [if_pos (by omega),if_pos (by simp;omega)];rfl
 unfold L2.atI;rw [h];rfl
def at3 {α:Type} {a b c d:α} {r:List α}:L2.atI (a::b::c::d::r) 3=some d:=by
 have h:ixN (a::b::c::d::r).length 3=some 3:=by unfold ixN;rw [if_pos (by omega),if_pos (by simp;omega)];rfl
 unfold L2.atI;rw [h];rfl
def atN {α:Type} {xs:List α} {k:Nat} (h:k<xs.length):L2.atI xs (k:Int)=xs[k]?:=by
 have e:ixN xs.length (k:Int)=some k:=by unfold ixN;rw [if_pos (by omega),if_pos (by omega)];rfl
 unfold L2.atI;rw [e];rfl
def eqI {n:Bool} {a b:Int}:eqD n (.int a) (.int b)=some (.bool (if n then !decide (a=b) else decide (a=b))):=id rfl
def qeS {C:Int->Int->Prop} {g:Int->Int->Int} {i j:Int} (h:C i j):cI C g (.int i) (.int j)=some (.int (g i j)):=by simp only [cI];exact ze h
def R7 {i j:Int} (h:-1000000<i/\i<1000000):cI EC (·*·) (.int i) (.int j)=some (.int (i*j)):=qeS (.inl ⟨by omega,by omega⟩)
def TN {i j:Int} (h:0<j):cI (λ_ j=>0<j) (·%·) (.int i) (.int j)=some (.int (i%j)):=qeS h
def WF {i j:Int} (h:0<j/\j<1073741824):cI Q7 (·/·) (.int i) (.int j)=some (.int (i/j)):=qeS h
def qoi {i j:Int}:qgg (.int i) (.int j)=some (.int (i+j)):=id rfl
def qba {j:Int} (h:-1000000000<=j/\j<1000000000):qaJ [.int j]=some ((YH 0 j.toNat).map PyData.int):=by simp only [qaJ];exact ze ⟨by omega,by omega⟩
def JN {pi:Rho->Option (List PyData)} {h:Rho->PyData->Option (Option PyData)} {m:List (Option Nat)} {ρ:Rho} {ds fs:List PyData} (h1:pi ρ=some ds) (h2:lcP (h (D6 m ρ)) ds=some fs) (h3:fs.length<=16777216):lcF pi h m ρ=some (.list fs):=by unfold lcF;rw [h1];simp only [Option.bind_some,h2];exact ze h3
def qeD {pi:Rho->Option (List PyData)} {h:Rho->PyData->Option (Option (List PyData))} {m:List (Option Nat)} {ρ:Rho} {ds fs:List PyData} (h1:pi ρ=some ds) (h2:qey (h (D6 m ρ)) ds=some fs) (h3:fs.length<=16777216):qis pi h m ρ=some (.list fs):=by unfold qis;rw [h1];simp only [Option.bind_some,h2];exact ze h3
def qce {gf:PyData->Option (List (Nat×PyData))} {bf:Rho->Option Ot} {α:Type} {g:α->PyData} (xs:List α) (I:Nat->Rho->Prop) {ρ:Rho} (h0:I 0 ρ)
  (hs:∀ i x ρ,xs[i]?=some x->I i ρ->∃ bs ρ',gf (g x)=some bs/\(bf (Q4 ρ bs)=some (.nx ρ')\/bf (Q4 ρ bs)=some (.ct ρ'))/\I (i+1) ρ'):∃ ρ',RX gf bf (xs.map g) ρ=some (.nx ρ')/\I xs.length ρ':=by
 have key:∀ (r:List α) (i:Nat) (ρ:Rho),xs.drop i=r->i<=xs.length->I i ρ->∃ ρ',RX gf bf (r.map g) ρ=some (.nx ρ')/\I xs.length ρ':=by
  intro r;induction r with
  |nil=>
   intro i ρ e hi h;have:i=xs.length:=by
    have:=congrArg List.length e;simp at this;omega
   subst this;exact ⟨ρ,rfl,h⟩
  |cons x r ih=>
   intro i ρ e hi h;have hl:i<xs.length:=by
    have:=congrArg List.length e;simp at this;omega
   have e':=List.drop_eq_getElem_cons hl;rw [e] at e';injection e' with e1 e2;obtain ⟨bs,ρ',h1,h2,h3⟩:=hs i x ρ (by rw [getElem?_eq_getElem hl,e1]) h;obtain ⟨ρ2,h4,h5⟩:=ih (i+1) ρ' e2.symm hl h3;refine ⟨ρ2,?_,h5⟩;simp only [map_cons,RX,h1,Option.bind_some];rcases h2 with h2|h2<;>(rw [h2];exact h4)
 exact key xs 0 ρ (by simp) (Nat.zero_le _) h0
def sqk (b:Nat->Rho->Option Ot) (n:Nat) (o:Ot):Option Ot:=match o with|.nx ρ'=>b n ρ'|o=>some o
def qd5 {a b:Nat->Rho->Option Ot} {n:Nat} {ρ:Rho}:qlf a b n ρ=(a n ρ).bind (sqk b n):=id rfl
def qdG {b:Nat->Rho->Option Ot} {n:Nat} {ρ:Rho}:sqk b n (.nx ρ)=b n ρ:=id rfl
def qdz {b:Nat->Rho->Option Ot} {n:Nat} {d:PyData} {f:Bool}:sqk b n (.rt d f)=some (.rt d f):=id rfl
def NG {d:PyData}:UY true (some (.rt d true))=some d:=id rfl
def qdR {d:PyData} {b:Bool}:UY false (some (.rt d b))=some d:=by simp [UY]
def qgP {b:Bool}:asB (.bool b)=some b:=id rfl
def qgx {b:Int}:asI (.int b)=some b:=id rfl
def qd6 {xs:List PyData}:qje [.tuple xs]=some (.int xs.length):=id rfl
def qdP {xs:List PyData}:qje [.list xs]=some (.int xs.length):=id rfl
def qdt {xs:List PyData}:qk8 [.list xs]=some (.tuple xs):=id rfl
def qdK {xs:List PyData}:qk2 [.tuple xs]=some (.list xs):=id rfl
def CF {xs:List Bool}:qkq [.list (xs.map PyData.bool)]=some (.bool (xs.all id)):=by simp only [qkq,qb6,Option.map_some]
def qei {xs:List PyData}:KM (.tuple xs)=some xs:=id rfl
def qcX {xs:List PyData}:KM (.list xs)=some xs:=id rfl
def qkl {i:Int}:tyD (.int i)=some "int" := id rfl
def qjo {i:Bool}:tyD (.bool i)=some "bool" := id rfl
def qiS:tyD .none=some "NoneType" := id rfl
def qgV {i:Str}:tyD (.str i)=some "str" := id rfl
def qiN {i:List PyData}:tyD (.tuple i)=some "tuple" := id rfl
def qjU {i:List PyData}:tyD (.list i)=some "list" := id rfl
def qhW {m:List Bool} {nw:Bool} {i:Nat} {v:Int} {ρ:Rho}:L4 m nw i (.int v) ρ=ρ.set i (.sh (.int v)):=id rfl
def qiV {m:List Bool} {nw:Bool} {i:Nat} {v:List PyData} {ρ:Rho}:L4 m nw i (.tuple v) ρ=(dm m ρ).set i (.sh (.tuple v)):=by cases nw<;>rfl
def qd1 {m:List Bool} {i:Nat} {v:List PyData} {ρ:Rho}:L4 m true i (.list v) ρ=(dm m ρ).set i (.ow v):=id rfl
def qhe {m:List Bool} {v:Int} {ρ:Rho}:dmS m (.int v) ρ=ρ:=id rfl
def qkN {m:List Bool} {v:List PyData} {ρ:Rho}:dmS m (.list v) ρ=dm m ρ:=id rfl
def qob {ρ:Rho}:dm [] ρ=ρ:=id rfl
def qod {m:List Bool} {s:Sl} {ρ:Rho}:dm (true::m) (s::ρ)=s.dem::dm m ρ:=id rfl
def qou {m:List Bool} {s:Sl} {ρ:Rho}:dm (false::m) (s::ρ)=s::dm m ρ:=id rfl
def qit {ds:List PyData}:(Sl.ow ds).dem=.sh (.list ds):=id rfl
def qko {d:PyData}:(Sl.sh d).dem=.sh d:=id rfl
def qkY {ρ:Rho}:D6 [] ρ=[]:=id rfl
def qkW {m:List (Option Nat)} {ρ:Rho}:D6 (none::m) ρ=.un::D6 m ρ:=id rfl
def cp (o:Option PyData):Sl:=match o with|some d=>.sh d|none=>.un
def qhh {m:List (Option Nat)} {j:Nat} {ρ:Rho}:D6 (some j::m) ρ=cp (vw ρ j)::D6 m ρ:=id rfl
def qn0 {d:PyData}:cp (some d)=.sh d:=id rfl
def qiv {i j:Nat} {m:List Bool} {x y:Int} {ρ:Rho}:NX i j m [.int x,.int y] ρ=some (.nx ((ρ.set i (.sh (.int x))).set j (.sh (.int y)))):=id rfl
def qcx {pi:Rho->Option (List PyData)} {m:List Bool} {gf:PyData->Option (List (Nat×PyData))} {bf:Nat->Rho->Option Ot} {n:Nat} {ρ:Rho}:qih pi true m gf bf n ρ=(pi ρ).bind λds=>RX gf (bf n) ds ρ:=id rfl
def qcT {pi:Rho->Option (List PyData)} {m:List Bool} {gf:PyData->Option (List (Nat×PyData))} {bf:Nat->Rho->Option Ot} {n:Nat} {ρ:Rho}:qih pi false m gf bf n ρ=(pi ρ).bind λds=>RX gf (bf n) ds (dm m ρ):=id rfl
def qcB {ρ:Rho}:Q4 ρ []=ρ:=id rfl
def qcD {ρ:Rho} {i:Nat} {d:PyData} {r:List (Nat×PyData)}:Q4 ρ ((i,d)::r)=Q4 (ρ.set i (.sh d)) r:=id rfl
def VL {gf:PyData->Option (List (Nat×PyData))} {cf:Rho->Option Bool} {ef:Rho->Option PyData} {ρ:Rho} {d:PyData}:lcH gf cf ef ρ d=(gf d).bind λbs=>(cf (Q4 ρ bs)).bind λk=>if k then (ef (Q4 ρ bs)).map some else some none:=id rfl
def qhE {gf:PyData->Option (List (Nat×PyData))} {cf:Rho->Option Bool} {it:Rho->Option (List PyData)} {h:Rho->PyData->Option (Option PyData)} {ρ:Rho} {d:PyData}:qjO gf cf it h ρ d=(gf d).bind λbs=>(cf (Q4 ρ bs)).bind λk=>if k then ((it (Q4 ρ bs)).bind λds=>lcP (h (Q4 ρ bs)) ds).map some else some none:=id rfl
def Nx (o:Option Ot) (P:Rho->Prop):Prop:=match o with|some (.nx ρ)=>P ρ|some (.ct ρ)=>P ρ|_=>False
def qiG {ρ:Rho} {P:Rho->Prop}:Nx (some (.nx ρ)) P=P ρ:=id rfl
def qh3 {o:Option Ot} {P:Rho->Prop} (h:Nx o P):∃ ρ,(o=some (.nx ρ)\/o=some (.ct ρ))/\P ρ:=by
 unfold Nx at h;split at h
 ·exact ⟨_,.inl rfl,h⟩
 ·exact ⟨_,.inr rfl,h⟩
 ·exact h.elim
section
variable {gf:PyData->Option (List (Nat×PyData))} {bf:Rho->Option Ot} {α:Type} {g:α->PyData} {ρ:Rho} {Q:Option Ot->Prop} {F:Ot->Option Ot}
def qbJ (xs:List α) (I:Nat->Rho->Prop) (h0:I 0 ρ) (hs:∀ i x ρ,xs[i]?=some x->I i ρ->Nx ((gf (g x)).bind λbs=>bf (Q4 ρ bs)) (I (i+1))) (k:∀ ρ',I xs.length ρ'->Q (some (.nx ρ'))):Q (RX gf bf (xs.map g) ρ):=by
 obtain ⟨ρ',e,h⟩:=qce (gf:=gf) (bf:=bf) (g:=g) xs I h0 λi x ρ hx hi=>by
  obtain ⟨ρ2,e,h⟩:=qh3 (hs i x ρ hx hi);cases e1:gf (g x) with
  |none=>rw [e1] at e;rcases e with e|e<;>cases e
  |some bs=>rw [e1] at e;exact ⟨bs,ρ2,rfl,e,h⟩
 rw [e];exact k ρ' h
def qab (xs:List α) (I:Nat->Rho->Prop) (h0:I 0 ρ) (hs:∀ i x ρ,xs[i]?=some x->I i ρ->Nx ((gf (g x)).bind λbs=>bf (Q4 ρ bs)) (I (i+1))) (k:∀ ρ',I xs.length ρ'->Q (F (.nx ρ'))):Q ((RX gf bf (xs.map g) ρ).bind F):=
 qbJ (Q:=λo=>Q (o.bind F)) xs I h0 hs k
def qi5 {cf:Rho->Option Bool} {N:Nat} (n:Nat) (hn:n<N) (I:Nat->Rho->Prop) (h0:I 0 ρ) (hc:∀ i ρ,i<n->I i ρ->cf ρ=some true) (hs:∀ i ρ,i<n->I i ρ->Nx (bf ρ) (I (i+1))) (he:∀ ρ,I n ρ->cf ρ=some false) (k:∀ ρ',I n ρ'->Q (F (.nx ρ'))):Q ((whP cf bf N ρ).bind F):=by
 have key:∀ (k i M:Nat) (ρ:Rho),i+k=n->k<M->I i ρ->∃ ρ',whP cf bf M ρ=some (.nx ρ')/\I n ρ':=by
  intro k;induction k with
  |zero=>
   intro i M ρ e hM h;have:i=n:=by omega
   subst this;cases M with
   |zero=>omega
   |succ M=>exact ⟨ρ,by unfold whP;rw [he ρ h];rfl,h⟩
  |succ k ih=>
   intro i M ρ e hM h;cases M with
   |zero=>omega
   |succ M=>
    have h1:=hc i ρ (by omega) h;obtain ⟨ρ',h2,h3⟩:=qh3 (hs i ρ (by omega) h);obtain ⟨ρ2,h4,h5⟩:=ih (i+1) M ρ' (by omega) (by omega) h3;refine ⟨ρ2,?_,h5⟩;unfold whP;rw [h1];rcases h2 with h2|h2<;>(simp only [Option.bind_some,if_pos,h2];exact h4)
 obtain ⟨ρ',e,h⟩:=key n 0 N ρ (by omega) hn h0;rw [e];exact k ρ' h
end
def qgo {α:Type} {us:List α} (h:us.length=1):∃ a0,us=[a0]:=List.length_eq_one_iff.mp h
def XT {α:Type} {us:List α} (h:us.length=2):∃ a0 a1,us=[a0,a1]:=by
 obtain ⟨a0,r,rfl⟩:=List.exists_cons_of_length_pos (show 0<us.length by omega);obtain ⟨a1,rfl⟩:=qgo (show r.length=1 by simpa using h);exact ⟨a0,a1,rfl⟩
def qpb {α:Type} {us:List α} (h:us.length=3):∃ a0 a1 a2,us=[a0,a1,a2]:=by
 obtain ⟨a0,r,rfl⟩:=List.exists_cons_of_length_pos (show 0<us.length by omega);obtain ⟨a1,a2,rfl⟩:=XT (show r.length=2 by simpa using h);exact ⟨a0,a1,a2,rfl⟩
def qln (d:PyData):Option PyData:=match d with|.list xs=>some (.list xs.reverse)|.tuple xs=>some (.tuple xs.reverse)|_=>none
def qn3 {te:TE3} (a:PuE te):PuE (qlA te (sp3 (u3 qcj (c3 (.int 1))))):=⟨λρ=>(a.f ρ).bind qln,a.fv,false,λ{D τ ρ G q d} hv hd hf k=>by
 obtain ⟨v,e1,hf⟩:=obb hf;unfold qln at hf;split at hf
 ·cases hf;refine a.ok hv hd e1 λx G1 E1 D1 _=>?_;cases D1 with
  |lst g hs=>
   simp only [sp3,u3,qcj,c3,zy (qw g).2];exact ⟨trivial,λp hp=>k _ _ (E1.trans (jP hp)) (JD (hd.up E1) hp hs.rev) (λz=>by cases z)⟩
 ·cases hf;refine a.ok hv hd e1 λx G1 E1 D1 _=>?_;cases D1 with
  |tup hs=>
   simp only [sp3,u3,qcj,c3];exact ⟨trivial,k _ _ E1 (.tup hs.rev) (λz=>by cases z)⟩
 ·cases hf⟩
def qgO {te:TE3} {a:PuE te}:(qn3 a).f=λρ=>(a.f ρ).bind qln:=id rfl
def qi4 {xs:List PyData}:qln (.tuple xs)=some (.tuple xs.reverse):=id rfl
def qgi (d e:PyData):Option PyData:=match d,e with
 |.tuple xs,.tuple ys=>cif (xs.length+ys.length<=sizeLine) (some (.tuple (xs++ys))) none
 |.list xs,.list ys=>cif (xs.length+ys.length<=sizeLine) (some (.list (xs++ys))) none
 |.int i,.int j=>some (.int (i+j))
 |_,_=>none
def jm:OpD QW:=⟨qgi,false,λ{D G x y d e v q} hx hy hd hf k=>by
  unfold qgi at hf;cases hx with
  | int i => cases hy <;> try (simp at hf;done)
             cases hf;exact k _ _ Ex.refl (.int _) (λz=>by cases z)
  |tup hs=>
    cases hy<;>try (simp at hf;done)
    rename_i hs2;simp only [cif] at hf;split at hf
    · rename_i c;cases hf;exact ⟨by rw [hs.length,hs2.length];exact c,k _ _ Ex.refl (.tup (hs.append hs2)) (λz=>by cases z)⟩
    · cases hf
  |lst g hs=>
    cases hy<;>try (simp at hf;done)
    rename_i g2 hs2;simp only [cif] at hf;split at hf
    · rename_i c;cases hf;simp only [QW,(qw g).2,(qw g2).2];exact ⟨by rw [hs.length,hs2.length];exact c,λp hp=>k _ _ (jP hp) (JD hd hp (hs.append hs2)) (λz=>by cases z)⟩
    · cases hf
  |_=>simp at hf⟩
def slA (d:PyData) (lo hi:Option Int):Option PyData:=match d with
 |.tuple xs=>some (.tuple (V3 xs lo hi))
 |.list xs=>some (.list (V3 xs lo hi))
 |_=>none
def LK {te:TE3} {tl th:TO3} (a:PuE te) (l:PuO tl) (h:PuO th):PuE (VU te tl th):=⟨λρ=>(a.f ρ).bind λd=>(l.f ρ).bind λlo=>(h.f ρ).bind λhi=>slA d lo hi,a.fv++(l.fv++h.fv),false,λhv hd hf k=>by
 obtain ⟨d,e1,hf⟩:=obb hf;obtain ⟨lo,e2,hf⟩:=obb hf;obtain ⟨hi,e3,hf⟩:=obb hf;refine a.ok hv.l hd e1 λx' G1 E1 D1 _=>l.ok (hv.r.l.up E1) (hd.up E1) e2 λG2 E2=>h.ok (hv.r.r.up (E1.trans E2)) (hd.up (E1.trans E2)) e3 λG3 E3=>?_;have E:=(E1.trans E2).trans E3;have D3:=(D1.up (jb E2)).up (jb E3);unfold slA at hf;cases D3 with
 |tup hs=>
  simp only at hf;cases hf;exact k _ _ E (.tup (hs.cut _ _)) (λz=>by cases z)
 |lst g hs=>
  simp only at hf;cases hf;simp only [ql4,zy (qw g).2];intro p hp;exact k _ _ (E.trans (jP hp)) (JD (hd.up E) hp (hs.cut _ _)) (λz=>by cases z)
 |_=>simp at hf⟩
def J9:jm.f=qgi:=id rfl
def CY:jm.nw=false:=id rfl
def C0 {te:TE3} {tl th:TO3} {a:PuE te} {l:PuO tl} {h:PuO th}:(LK a l h).f=λρ=>(a.f ρ).bind λd=>(l.f ρ).bind λlo=>(h.f ρ).bind λhi=>slA d lo hi:=id rfl
def LF {xs:List PyData} {lo hi:Option Int}:slA (.tuple xs) lo hi=some (.tuple (V3 xs lo hi)):=id rfl
def VF {xs ys:List PyData} (h:xs.length+ys.length<=16777216):qgi (.tuple xs) (.tuple ys)=some (.tuple (xs++ys)):=ze h
end Pu
namespace Pv
open PySem L2 L3 Pu
end Pv
namespace Pu
open PySem L2 L3
open Bk (Lf Ext)
section
variable {D:Addr->Prop} {a:Addr} {G G' G0:Gp} {n n':Nat} {fv gv:List Nat} {l:Nat} {τ:St3} {ρ:Rho}
def YD (e:Ext a G G') (h:D a):Ex (rs D G) (rs D G'):=λb o x=>by
 obtain ⟨n,x⟩:=qw x;rw [jy n];exact e b o (by rintro rfl;exact n h) x
def DK {k:Int} (h:Lf G a k):G a≠none:=by
 obtain ⟨o,c,m,e,_⟩:=h;rw [e];simp
def jM {k:Int} (hd:Dom D G) (e:Ext a G G') (lf:Lf G' a k):Dom D G':=λb hb z=>by
 by_cases h:b=a
 ·subst h;exact DK lf z
 ·cases g:G b with
  |none=>exact hd b hb g
  |some o=>rw [e b o h g] at z;cases z
def Nw.backx {x:T} {d:PyData} {k:Int} (h:Nw D G G' x d) (e:Ext a G0 G) (lf:Lf G a k):Nw D G0 G' x d:=by
 rcases h with h|⟨p,xs,ds,h1,h2,c,r⟩
 ·exact .inl h
 refine .inr ⟨p,xs,ds,h1,h2,?_,r⟩;cases z:G0 p with
 |none=>rfl
 |some o=>
  by_cases hp:p=a
  ·subst hp;exact absurd c (DK lf)
  ·rw [e p o hp z] at c;cases c
structure Ln (fv:List Nat) (l:Nat) (D:Addr->Prop) (G:Gp) (τ:St3) (ρ:Rho) (a:Addr) (n:Nat):Prop where
 v:WB fv D G τ ρ
 d:Dom D G
 da:D a
 tl:τ[l]?=some (some (.ref a))
 ul:vw ρ l=none
 lf:Lf G a n
def Ln.up (h:Ln fv l D G τ ρ a n) (e:Ext a G G') (lf:Lf G' a n'):Ln fv l D G' τ ρ a n':=
 ⟨λi hi d hd=>let ⟨t,x,y⟩:=h.v i hi d hd;⟨t,x,y.up (YD e h.da)⟩,jM h.d e lf,h.da,h.tl,h.ul,lf⟩
def Ln.fst (h:Ln (fv++gv) l D G τ ρ a n):Ln fv l D G τ ρ a n:=⟨h.v.l,h.d,h.da,h.tl,h.ul,h.lf⟩
def Ln.snd (h:Ln (fv++gv) l D G τ ρ a n):Ln gv l D G τ ρ a n:=⟨h.v.r,h.d,h.da,h.tl,h.ul,h.lf⟩
end
abbrev QD:=PyData->Nat->Prop
structure PwE (l:Nat) (t:TE3) where
 w:Rho->Nat->QD->Prop
 fv:List Nat
 nw:Bool
 mono:∀ {ρ n} {Q Q':QD},w ρ n Q->(∀ d m,Q d m->Q' d m)->w ρ n Q'
 ok:∀ {D τ ρ G a n} {q:Q3} {Q:QD},Ln fv l D G τ ρ a n->w ρ n Q->(∀ x d G' n',Q d n'->Ext a G G'->Lf G' a n'->Dq (rs D G') x d->(nw=true->Nw D G G' x d)->q x G')->t τ G q
structure PwC (l:Nat) (t:TT3) where
 w:Rho->Nat->(Bool->Nat->Prop)->Prop
 fv:List Nat
 mono:∀ {ρ n} {Q Q':Bool->Nat->Prop},w ρ n Q->(∀ d m,Q d m->Q' d m)->w ρ n Q'
 ok:∀ {D τ ρ G a n} {q:Bool->Gp->Prop} {Q:Bool->Nat->Prop},Ln fv l D G τ ρ a n->w ρ n Q->(∀ k G' n',Q k n'->Ext a G G'->Lf G' a n'->q k G')->t τ G q
structure PwA (l:Nat) (t:TA3) where
 w:Rho->Nat->(List PyData->Nat->Prop)->Prop
 fv:List Nat
 k:Nat
 mono:∀ {ρ n} {Q Q':List PyData->Nat->Prop},w ρ n Q->(∀ d m,Q d m->Q' d m)->w ρ n Q'
 ok:∀ {D τ ρ G a n} {q:List T->Gp->Prop} {Q:List PyData->Nat->Prop},Ln fv l D G τ ρ a n->w ρ n Q->(∀ x d G' n',Q d n'->d.length=k->Ext a G G'->Lf G' a n'->Dqs (rs D G') x d->q x G')->t τ G q
structure PwI (l:Nat) (t:TI3) where
 w:Rho->Nat->(List PyData->Nat->Prop)->Prop
 fv:List Nat
 nm:Bool
 mono:∀ {ρ n} {Q Q':List PyData->Nat->Prop},w ρ n Q->(∀ d m,Q d m->Q' d m)->w ρ n Q'
 ok:∀ {D τ ρ G a n} {r:List T->(Gp->Prop)->Gp->Prop} {Q:List PyData->Nat->Prop},Ln fv l D G τ ρ a n->w ρ n Q ->
  (∀ items stay ds G' n',Q ds n'->Ext a G G'->Lf G' a n'->Dqs (rs D G') items ds->(∀ G'',(nm=true\/Ex (rs D G') G'')->stay G'')->(nm=true->∃ ns:List Int,ds=ns.map PyData.int)->r items stay G')->t τ G r
structure DrD (r:List T->Gp->Q3->Prop) where
 W:List PyData->Nat->QD->Prop
 nw:Bool
 mono:∀ {ds n} {Q Q':QD},W ds n Q->(∀ d m,Q d m->Q' d m)->W ds n Q'
 ok:∀ {D:Addr->Prop} {G:Gp} {a:Addr} {n:Nat} {ts:List T} {ds:List PyData} {q:Q3} {Q:QD},Lf G a n->D a->Dom D G->Dqs (rs D G) ts ds->W ds n Q->(∀ x d G' n',Q d n'->Ext a G G'->Lf G' a n'->Dq (rs D G') x d->(nw=true->Nw D G G' x d)->q x G')->r (.ref a::ts) G q
section
variable {l:Nat}
def eOf {t:TE3} (b:PuE t):PwE l t:=⟨λρ n Q=>∃ d,b.f ρ=some d/\Q d n,b.fv,b.nw,λ⟨d,h1,h2⟩ h=>⟨d,h1,h _ _ h2⟩,λh ⟨d,h1,h2⟩ k=>
 b.ok h.v h.d h1 λx G1 E1 D1 N1=>k x d G1 _ h2 (Bk.Y8 E1) (h.lf.ex E1) D1 N1⟩
def cOf {t:TT3} (b:PuC t):PwC l t:=⟨λρ n Q=>∃ d,b.f ρ=some d/\Q d n,b.fv,λ⟨d,h1,h2⟩ h=>⟨d,h1,h _ _ h2⟩,λh ⟨d,h1,h2⟩ k=>
 b.ok h.v h.d h1 λG1 E1=>k d G1 _ h2 (Bk.Y8 E1) (h.lf.ex E1)⟩
def aOf {t:TA3} (b:PuA t):PwA l t:=⟨λρ n Q=>∃ d,b.f ρ=some d/\Q d n,b.fv,b.n,λ⟨d,h1,h2⟩ h=>⟨d,h1,h _ _ h2⟩,λh ⟨d,h1,h2⟩ k=>
 b.ok h.v h.d h1 λx G1 E1 D1=>k x d G1 _ h2 (b.ln h1) (Bk.Y8 E1) (h.lf.ex E1) D1⟩
def iOf {t:TI3} (b:PuI t):PwI l t:=⟨λρ n Q=>∃ d,b.f ρ=some d/\Q d n,b.fv,b.nm,λ⟨d,h1,h2⟩ h=>⟨d,h1,h _ _ h2⟩,λh ⟨d,h1,h2⟩ k=>
 b.ok h.v h.d h1 λitems stay G1 E1 D1 s nm=>k items stay d G1 _ h2 (Bk.Y8 E1) (h.lf.ex E1) D1 s nm⟩
def eO {r:R3} {ta tb:TE3} (R:OpD r) (a:PwE l ta) (b:PwE l tb):PwE l (o3 r ta tb):=
 ⟨λρ n Q=>a.w ρ n λx n1=>b.w ρ n1 λy n2=>∃ v,R.f x y=some v/\Q v n2,a.fv++b.fv,R.nw,λh k=>a.mono h λx n1 h=>b.mono h λy n2 ⟨v,h1,h2⟩=>⟨v,h1,k _ _ h2⟩,λh hw k=>
  a.ok h.fst hw λx dx G1 n1 h1 E1 L1 D1 _=>b.ok (h.snd.up E1 L1) h1 λy dy G2 n2 ⟨v,e,hq⟩ E2 L2 D2 _=>R.ok (D1.up (YD E2 h.da)) D2 (jM (jM h.d E1 L1) E2 L2) e λz G3 E3 D3 N3=>k z v G3 n2 hq ((E1.trans E2).trans (Bk.Y8 E3)) (L2.ex E3) D3 λz=>(N3 z).backx (E1.trans E2) L2⟩
def YZ {ta:TE3} {tr:TA3} (a:PwE l ta) (r:PwA l tr):PwA l (qc ta tr):=
 ⟨λρ n Q=>a.w ρ n λx n1=>r.w ρ n1 λxs n2=>Q (x::xs) n2,a.fv++r.fv,r.k+1,λh k=>a.mono h λx n1 h=>r.mono h λxs n2 h=>k _ _ h,λh hw k=>
  a.ok h.fst hw λx dx G1 n1 h1 E1 L1 D1 _=>r.ok (h.snd.up E1 L1) h1 λy dy G2 n2 hq hl E2 L2 D2=>k _ _ G2 n2 hq (by simp [hl]) (E1.trans E2) L2 (.cons (D1.up (YD E2 h.da)) D2)⟩
def qlp {t:TA3} (b:PwA l t) (hn:Tru (Nat.ble b.k 1000)):PwE l (WC t):=⟨λρ n Q=>b.w ρ n λxs n1=>Q (.tuple xs) n1,b.fv,false,λh k=>b.mono h λxs n1 h=>k _ _ h,λh hw k=>
 b.ok h hw λx dx G1 n1 h1 hl E1 L1 D1=>⟨by rw [D1.length,hl];exact few hn,k _ _ _ _ h1 E1 L1 (.tup D1) (λz=>by cases z)⟩⟩
def LL {r:List T->Gp->Q3->Prop} {t:TA3} (R:FnD r) (b:PwA l t):PwE l (cb3 r t):=⟨λρ n Q=>b.w ρ n λxs n1=>∃ v,R.f xs=some v/\Q v n1,b.fv,R.nw,λh k=>b.mono h λxs n1 ⟨v,h1,h2⟩=>⟨v,h1,k _ _ h2⟩,λh hw k=>
 b.ok h hw λx dx G1 n1 ⟨v,e,hq⟩ hl E1 L1 D1=>R.ok D1 (jM h.d E1 L1) e λz G3 E3 D3 N3=>k z v G3 n1 hq (E1.trans (Bk.Y8 E3)) (L1.ex E3) D3 λz=>(N3 z).backx E1 L1⟩
def eDr {r:List T->Gp->Q3->Prop} {t:TA3} (R:DrD r) (b:PwA l t):PwE l (cb3 r (qc (v3 l) t)):=⟨λρ n Q=>b.w ρ n λxs n1=>R.W xs n1 Q,b.fv,R.nw,λh k=>b.mono h λxs n1 h=>R.mono h k,λ{D τ ρ G a n q Q} h hw k=>by
 simp only [cb3,qc,v3,h.tl];exact b.ok h hw λx dx G1 n1 hW hl E1 L1 D1=>R.ok L1 h.da (jM h.d E1 L1) D1 hW λz d G3 n3 hq E3 L3 D3 N3=>k z d G3 n3 hq (E1.trans E3) L3 D3 λz=>(N3 z).backx E1 L1⟩
def cTb {t:TE3} (b:PwE l t):PwC l (tb3 t):=⟨λρ n Q=>b.w ρ n λd n1=>∃ k,asB d=some k/\Q k n1,b.fv,λh k=>b.mono h λd m ⟨v,h1,h2⟩=>⟨v,h1,k _ _ h2⟩,λh hw k=>b.ok h hw λx d G1 n1 ⟨v,e,hq⟩ E1 L1 D1 _=>by
 have:=RO e;subst this;cases D1;exact k _ _ _ hq E1 L1⟩
def cOr {t u:TT3} (a:PwC l t) (b:PwC l u):PwC l (or3 t u):=⟨λρ n Q=>a.w ρ n λk n1=>if k then Q true n1 else b.w ρ n1 Q,a.fv++b.fv,λh k=>a.mono h λj m h=>by
  cases j with
  |false=>exact b.mono h k
  |true=>exact k _ _ h,λh hw k=>a.ok h.fst hw λj G1 n1 hj E1 L1=>by
  cases j with
  |false=>exact b.ok (h.snd.up E1 L1) hj λi G2 n2 hq E2 L2=>k _ _ _ hq (E1.trans E2) L2
  |true=>exact k _ _ _ hj E1 L1⟩
def qoe {t:TT3} (a:PwC l t):PwC l (D7 t):=⟨λρ n Q=>a.w ρ n λk n1=>Q (!k) n1,a.fv,λh k=>a.mono h λj m h=>k _ _ h,λh hw k=>a.ok h hw λj G1 n1 hj E1 L1=>k _ _ _ hj E1 L1⟩
def iR {t:TA3} (b:PwA l t):PwI l (ZO t):=⟨λρ n Q=>b.w ρ n λxs n1=>∃ ds,qaJ xs=some ds/\Q ds n1,b.fv,true,λh k=>b.mono h λxs n1 ⟨v,h1,h2⟩=>⟨v,h1,k _ _ h2⟩,λh hw k=>b.ok h hw λx dx G1 n1 ⟨ds,e,hq⟩ hl E1 L1 D1=>by
 unfold qaJ at e;split at e
 ·unfold cif at e;split at e
  ·rename_i c;cases e;cases D1 with
   |cons a b=>cases b;cases a;simp only;rw [KB];exact ⟨c,k _ _ _ _ _ hq E1 L1 (Dqs.ofInts _) (λ_ _=>trivial) λ_=>⟨_,rfl⟩⟩
  ·cases e
 ·unfold cif at e;split at e
  ·rename_i c;cases e;cases D1 with
   |cons a b=>cases b with
    |cons b c'=>cases c';cases a;cases b;simp only;rw [KB];exact ⟨c,k _ _ _ _ _ hq E1 L1 (Dqs.ofInts _) (λ_ _=>trivial) λ_=>⟨_,rfl⟩⟩
  ·cases e
 ·cases e⟩
end
def lcW (gf:PyData->Option (List (Nat×PyData))) (cw:Rho->Nat->(Bool->Nat->Prop)->Prop) (ew:Rho->Nat->QD->Prop) (ρ:Rho):List PyData->Nat->(List PyData->Nat->Prop)->Prop
 |[],n,Q=>Q [] n
 |d::r,n,Q=>∃ bs,gf d=some bs/\cw (Q4 ρ bs) n λk n1=>if k then ew (Q4 ρ bs) n1 λy n2=>lcW gf cw ew ρ r n2 λys n3=>Q (y::ys) n3 else lcW gf cw ew ρ r n1 Q
def VH {l:Nat} {g:TG3} {tif:TT3} {te:TE3} (pg:PuG g) (pc:PwC l tif) (pe:PwE l te) {ρ:Rho}:∀ {ds:List PyData} {n:Nat} {Q Q':List PyData->Nat->Prop},lcW pg.f pc.w pe.w ρ ds n Q->(∀ d m,Q d m->Q' d m)->lcW pg.f pc.w pe.w ρ ds n Q'
 |[],n,Q,Q',h,k=>k _ _ h
 |d::r,n,Q,Q',⟨bs,e,h⟩,k=>⟨bs,e,pc.mono h λj m h=>by
   cases j with
   |true=>rw [if_pos rfl] at h ⊢;exact pe.mono h λy m2 h=>VH pg pc pe h λys m3 h=>k _ _ h
   |false=>exact VH pg pc pe h k⟩
def VA.ext {D:Addr->Prop} {a:Addr} {G G':Gp} {τ:St3} {ρ:Rho} (h:VA D G τ ρ) (e:Ext a G G') (da:D a):VA D G' τ ρ:=h.upx (YD e da)
def qaU:∀ {ts:List (Nat×T)} {τ:St3} {i:Nat},(∀ p∈ts,p.1≠i)->(sets τ ts)[i]?=τ[i]?
 |[],_,_,_=>rfl
 |p::r,τ,i,h=>by
  unfold sets;rw [qaU λq hq=>h q (by simp [hq]),getElem?_set,if_neg (h p (by simp))]
def qaf {l:Nat} {stay:Gp->Prop} {g:TG3} {tif:TT3} {te:TE3} {q:Q3} (pg:PuG g) (pc:PwC l tif) (pe:PwE l te) {D:Addr->Prop} {a:Addr} {ρ0:Rho} {G0:Gp} (da:D a) (hs:∀ G,Ext a G0 G->stay G) (hm:∀ i∈pg.tg,vw ρ0 i=none) (hl:∀ i∈pg.tg,i≠l) {Q:List PyData->Nat->Prop}
  (k:∀ G ys fs n,Q fs n->fs.length<=sizeLine->Ext a G0 G->Lf G a n->Dqs (rs D G) ys fs->∀ p,G p=none->q (.ref p) (gu G p (.lst ys))) :
  vw ρ0 l=none->∀ (ds:List PyData) (items ys:List T) (es:List PyData) (τ:St3) (G:Gp) (n:Nat),Dqs (rs D G0) items ds->VA D G τ ρ0->τ[l]?=some (some (.ref a))->Ext a G0 G->Dom D G->Lf G a n->Dqs (rs D G) ys es->lcW pg.f pc.w pe.w ρ0 ds n (λfs n=>(es++fs).length<=sizeLine/\Q (es++fs) n)->ds.length+es.length<=sizeLine->TF stay g tif te q items ys τ G
 |_,_,_,ys,es,τ,G,n,.nil,va,tl,E,hd,lf,hy,hw,_=>by
  obtain ⟨h1,h2⟩:=hw;rw [List.append_nil] at h1 h2;exact ⟨hs G E,k G ys es n h2 h1 E lf hy⟩
 |ul,d::ds,x::items,ys,es,τ,G,n,.cons hx hr,va,tl,E,hd,lf,hy,⟨bs,e3,hw⟩,hz=>by
  obtain ⟨ts,bd,kg⟩:=pg.ok (hx.up (YD E da)) e3;refine ⟨hs G E,kg τ G _ ?_⟩;have va1:=va.sets bd;have at1:∀ p∈ts,p.1∈pg.tg:=λp hp=>by
   obtain ⟨q,hq,e⟩:=MT bd p hp;rw [← e];exact pg.at' e3 q hq
  have va2:=va.keep (ts:=ts) λp hp=>hm _ (at1 p hp);have tl1:(sets τ ts)[l]?=some (some (.ref a)):=by rw [qaU λp hp=>hl _ (at1 p hp)];exact tl
  have ul1:vw (Q4 ρ0 bs) l=none:=by rw [XW λp hp=>hl _ (pg.at' e3 p hp)];exact ul
  refine pc.ok ⟨va1.view _,hd,da,tl1,ul1,lf⟩ hw λc G1 n1 hc E1 L1=>?_;cases c with
  |true=>
   rw [if_pos rfl] at hc ⊢;refine pe.ok ⟨(va1.ext E1 da).view _,jM hd E1 L1,da,tl1,ul1,L1⟩ hc λz y G2 n2 hq E2 L2 D2 _=>⟨?_,?_⟩
   ·rw [hy.length];simp at hz;omega
   ·refine qaf pg pc pe da hs hm hl k ul ds items (ys++[z]) (es++[y]) _ G2 n2 hr ((va2.ext E1 da).ext E2 da) tl1 ((E.trans E1).trans E2) (jM (jM hd E1 L1) E2 L2) L2 (((hy.up (YD E1 da)).up (YD E2 da)).append (.cons D2 .nil)) ?_ (by simp at hz ⊢;omega);refine VH pg pc pe hq λfs m h=>?_;rw [List.append_assoc];exact h
  |false=>
   rw [if_neg Bool.false_ne_true] at hc ⊢;exact qaf pg pc pe da hs hm hl k ul ds items ys es _ G1 n1 hr (va2.ext E1 da) tl1 (E.trans E1) (jM hd E1 L1) L1 (hy.up (YD E1 da)) hc (by simp at hz;omega)
def qpd {l:Nat} (it:Rho->Nat->(List PyData->Nat->Prop)->Prop) (h:Rho->List PyData->Nat->(List PyData->Nat->Prop)->Prop) (m:List (Option Nat)) (ρ:Rho) (n:Nat) (Q:QD):Prop:=
 it ρ n λds n1=>ds.length<=16777216/\h (D6 m ρ) ds n1 λfs n2=>fs.length<=16777216/\Q (.list fs) n2
def eLc {l:Nat} {wi:TI3} {g:TG3} {tif:TT3} {te:TE3} (l2:Nat) (pi:PwI l wi) (pg:PuG g) (pc:PwC l2 tif) (pe:PwE l2 te) (m:List (Option Nat)) (hm:Tru (pg.tg.all λi=>m[i]?==some none)) (hl:Tru (m[l2]?==some (some l))):PwE l (lc3 wi g tif te m):=
 ⟨qpd (l:=l) pi.w (lcW pg.f pc.w pe.w) m,pi.fv++(m.filterMap id).filter (· != l),true,λh k=>pi.mono h λds n1 ⟨h1,h⟩=>⟨h1,VH pg pc pe h λfs n2 ⟨h2,h⟩=>⟨h2,k _ _ h⟩⟩,λ{D τ ρ G a n q Q} h hw k=>by
  have hl':m[l2]?=some (some l):=by simpa using hl.h
  refine pi.ok h.fst hw λitems stay ds G1 n1 ⟨h1,hw1⟩ E1 L1 D1 hs _=>?_;have hv:WB (m.filterMap id) D G τ ρ:=λi hi d hd=>by
   by_cases e:i=l
   ·subst e;rw [h.ul] at hd;cases hd
   ·exact h.snd.v i (List.mem_filter.mpr ⟨hi,by simpa using e⟩) d hd
  have va:=(VA.cap (m:=m) hv).ext E1 h.da;refine qaf pg pc pe (D:=D) (a:=a) (ρ0:=D6 m ρ) (G0:=G1) h.da (λG2 E2=>hs G2 (.inr ((YD E2 h.da).trans ZN))) (λi hi=>W5 ?_) (λi hi e=>?_) (Q:=λfs n=>Q (.list fs) n) (λG2 ys fs n2 hq hlen E2 L2 D2 p hp=>?_) ?_ ds items [] [] _ G1 n1 D1 va ?_ Bk.Ext.refl (jM h.d E1 L1) L1 .nil ?_ ?_
  ·simpa using List.all_eq_true.mp hm.h i hi
  ·subst e;have:=List.all_eq_true.mp hm.h i hi;rw [hl'] at this;simp at this
  ·exact k _ _ _ _ hq ((E1.trans E2).trans (Bk.Y8 (jP hp))) (L2.ex (jP hp)) (JD (jM (jM h.d E1 L1) E2 L2) hp D2) λ_=>(WE hp D2).backx (E1.trans E2) L2
  ·unfold vw D6;rw [getElem?_map,hl'];simp only [Option.map_some,Option.bind_some,h.ul];rfl
  ·unfold L3.cap;rw [getElem?_map,hl'];simp [h.tl]
  ·refine VH pg pc pe hw1 λfs m ⟨h2,h3⟩=>⟨?_,by simpa using h3⟩
   rw [sizeLine_eq];simpa using h2
  ·rw [sizeLine_eq];simpa using h1⟩
structure RL (l:Nat) (a:Addr) (z0:Option (Option T)×Nat) (D:Addr->Prop) (G0:Gp) (A:Nat->Option Addr) (τ:St3) (ρ:Rho) (G:Gp) (n:Nat):Prop where
 r:RS D G0 A τ ρ G
 al:A l=some a
 tl:τ[l]?=some (some (.ref a))
 ul:ρ[l]?=some Sl.un
 lf:Lf G a n
 tz:τ[0]?=z0.1/\τ.length=z0.2
section
variable {l:Nat} {a:Addr} {z0:Option (Option T)×Nat} {D:Addr->Prop} {G0 G G':Gp} {A:Nat->Option Addr} {τ:St3} {ρ:Rho} {n n':Nat}
def RL.vl (h:RL l a z0 D G0 A τ ρ G n):vw ρ l=none:=by unfold vw;rw [h.ul];rfl
def RL.up (h:RL l a z0 D G0 A τ ρ G n) (e:Ext a G G') (lf:Lf G' a n'):RL l a z0 D G0 A τ ρ G' n':=by
 have X:Ex (rs (AD D A) G) (rs (AD D A) G'):=YD e (.inr ⟨l,h.al⟩);refine ⟨⟨λb o x=>e b o (by rintro rfl;rw [h.r.fr l _ h.al] at x;cases x) (h.r.ex b o x),h.r.dm,h.r.fr,λi p hp z=>?_,h.r.inj,h.r.len,λi d x=>let ⟨t,y,z⟩:=h.r.sh i d x;⟨t,y,z.up X⟩,λi ds x=>?_,λi ds x=>?_⟩,h.al,h.tl,h.ul,lf,h.tz⟩
 ·by_cases c:p=a
  ·subst c;exact DK lf z
  ·cases g:G p with
   |none=>exact h.r.da i p hp g
   |some o=>rw [e p o c g] at z;cases z
 ·obtain ⟨p,xs,y1,y2,y3,y4⟩:=h.r.ow i ds x;refine ⟨p,xs,y1,y2,e p _ ?_ y3,y4.up X⟩;rintro rfl;have:=h.r.inj i l _ y1 h.al;subst this;rw [h.ul] at x;cases x
 ·obtain ⟨p,xs,y1,y2,y3,yk,y4⟩:=h.r.dc i ds x;refine ⟨p,xs,y1,y2,e p _ ?_ y3,yk,y4.up X⟩;rintro rfl;have:=h.r.inj i l _ y1 h.al;subst this;rw [h.ul] at x;cases x
def RL.all (h:RL l a z0 D G0 A τ ρ G n) (fv:List Nat):Ln fv l (λb=>D b\/b=a) G τ ρ a n:=by
 refine ⟨λi _ d hd=>?_,λb hb=>?_,.inr rfl,h.tl,h.vl,h.lf⟩
 ·unfold vw at hd;obtain ⟨s,e,hd⟩:=obb hd;have less:Ex (rs (AD D A) G) (rs (λb=>D b\/b=a) G):=z9 λb z=>by
   rcases z with z|z
   ·exact .inl z
   ·subst z;exact .inr ⟨l,h.al⟩
  cases s with
  |un=>cases hd
  |sh d'=>
   cases hd;obtain ⟨t,b,c⟩:=h.r.sh i _ e;exact ⟨t,b,c.up less⟩
  |ow ds=>
   cases hd;obtain ⟨p,xs,b,c,g,f⟩:=h.r.ow i _ e;refine ⟨_,c,.lst ?_ (f.up less)⟩;rw [jy]
   ·exact g
   ·rintro (z|z)
    ·exact h.r.nd b z
    ·subst z;have:=h.r.inj i l _ b h.al;subst this;rw [h.ul] at e;cases e
  |dc kvs=>cases hd
 ·rcases hb with hb|hb
  ·exact h.r.domD b hb
  ·subst hb;exact DK h.lf
def qnS {m:List Bool} (hm:mkb m l=false) (al:A l=some a):Ad m A l=some a:=by unfold Ad;rw [if_neg (by rw [hm];simp)];exact al
def RL.dem (h:RL l a z0 D G0 A τ ρ G n) {m:List Bool} (hm:mkb m l=false):RL l a z0 D G0 (Ad m A) τ (Pu.dm m ρ) G n:=
 ⟨h.r.dem m,qnS hm h.al,h.tl,by rw [SH,h.ul];simp [hm],h.lf,h.tz⟩
def RL.ln (h:RL l a z0 D G0 A τ ρ G n) {m:List Bool} {fv:List Nat} (hm:mkb m l=false) (hf:Tru (fv.all (mkb m))):Ln fv l (AD D (Ad m A)) G τ ρ a n:=
 ⟨h.r.viewD hf,(h.r.dem m).dom,.inr ⟨l,qnS hm h.al⟩,h.tl,h.vl,h.lf⟩
def RL.put (h:RL l a z0 D G0 A τ ρ G n) {i:Nat} (hi:i≠l) (h0:i≠0) {x:T} {d:PyData} (hx:Dq (rs (AD D A) G) x d):RL l a z0 D G0 (Er A i) (τ.set i (some x)) (ρ.set i (.sh d)) G n:=
 ⟨h.r.put i hx,by unfold Er;rw [if_neg (λz=>hi z.symm)];exact h.al,by rw [getElem?_set,if_neg hi];exact h.tl,by rw [getElem?_set,if_neg hi];exact h.ul,h.lf,⟨by rw [getElem?_set,if_neg h0];exact h.tz.1,by rw [List.length_set];exact h.tz.2⟩⟩
def RL.puts:∀ {ts:List (Nat×T)} {bs:List (Nat×PyData)} {A:Nat->Option Addr} {τ:St3} {ρ:Rho},RL l a z0 D G0 A τ ρ G n->Bd (rs (AD D A) G) ts bs->(∀ p∈bs,p.1≠l/\p.1≠0)->∃ A',RL l a z0 D G0 A' (sets τ ts) (Q4 ρ bs) G n
 |_,_,A,_,_,h,.nil,_=>⟨A,h⟩
 |_,_,A,_,_,h,.cons x b,hn=>by
  unfold sets Q4;exact RL.puts (h.put (hn _ List.mem_cons_self).1 (hn _ List.mem_cons_self).2 x) (b.up qeM) (λp hp=>hn p (List.mem_cons_of_mem _ hp))
def RL.putN (h:RL l a z0 D G0 A τ ρ G n) {i:Nat} (hi:i≠l) (h0:i≠0) {x:T} {d:PyData} {ds:List PyData} (hd:d=.list ds) (E:Ext a G G') (lf:Lf G' a n') (hx:Nw (AD D A) G G' x d):∃ A',RL l a z0 D G0 A' (τ.set i (some x)) (ρ.set i (.ow ds)) G' n':=by
 have h1:=h.up E lf;rcases hx with hx|⟨p,xs,ds',rfl,e',gp,gp',hs⟩
 ·rw [hd] at hx;cases hx
 rw [hd] at e';cases e';have np:∀ {j q},A j=some q->q≠p:=λe=>by rintro rfl;exact h.r.da _ _ e gp
 have X1:Ex (rs (AD D A) G) (rs (AD D (λj=>if j=i then some p else A j)) G'):=λb o e=>by
  obtain ⟨n,e⟩:=qw e;rw [jy]
  ·exact E b o (by rintro rfl;exact n (.inr ⟨l,h.al⟩)) e
  ·rintro (z|⟨j,z⟩)
   ·exact n (.inl z)
   ·simp only at z;split at z
    ·cases z;rw [gp] at e;cases e
    ·exact n (.inr ⟨j,z⟩)
 refine ⟨λj=>if j=i then some p else A j,⟨h1.r.ex,h.r.dm,λj q e=>?_,λj q e=>?_,λj k q x y=>?_,by simp [h.r.len],λj e he=>?_,λj es e=>?_,λj es e=>?_⟩,by rw [if_neg (λz=>hi z.symm)];exact h.al,by rw [getElem?_set,if_neg hi];exact h.tl,by rw [getElem?_set,if_neg hi];exact h.ul,lf,⟨by rw [getElem?_set,if_neg h0];exact h.tz.1,by rw [List.length_set];exact h.tz.2⟩⟩
 ·split at e
  ·cases e;cases z:G0 p with
   |none=>rfl
   |some o=>rw [h.r.ex _ _ z] at gp;cases gp
  ·exact h.r.fr j q e
 ·split at e
  ·cases e;rw [gp'];simp
  ·exact h1.r.da j q e
 ·split at x
  ·cases x;split at y
   ·rename_i h1 h2;rw [h1,h2]
   ·exact absurd rfl (np y)
  ·split at y
   ·cases y;exact absurd rfl (np x)
   ·exact h.r.inj j k q x y
 ·rw [getElem?_set] at he ⊢;split at he
  ·split at he<;>cases he
  ·rename_i hj;rw [if_neg hj];obtain ⟨t,b,c⟩:=h.r.sh j _ he;exact ⟨t,b,c.up X1⟩
 ·rw [getElem?_set] at e ⊢;split at e
  ·rename_i hj;subst hj;split at e
   ·rename_i hl;cases e;refine ⟨p,xs,by simp,by rw [if_pos rfl,if_pos (by rw [← h.r.len];exact hl)],gp',hs.up (z9 λb z=>?_)⟩;rcases z with z|⟨j,z⟩
    ·exact .inl (.inl z)
    ·simp only at z;split at z
     ·cases z;exact .inr rfl
     ·exact .inl (.inr ⟨j,z⟩)
   ·cases e
  ·rename_i hj;rw [if_neg hj];obtain ⟨q,ys,b,c,g,f⟩:=h1.r.ow j _ e;obtain ⟨q',ys',b',c',g',f'⟩:=h.r.ow j _ e;rw [b] at b';cases b';have:G' q=some (.lst ys'):=E q _ (by rintro rfl;have:=h.r.inj j l _ b h.al;subst this;rw [h.ul] at e;cases e) g';exact ⟨q,ys',by rw [if_neg (λz=>hj z.symm)];exact b,c,this,f'.up X1⟩
 ·rw [getElem?_set] at e ⊢;split at e
  ·split at e<;>cases e
  ·rename_i hj;rw [if_neg hj];obtain ⟨q,ys,b,c,g,k,f⟩:=h.r.dc j _ e;have:G' q=some (.dct ys):=E q _ (by rintro rfl;have:=h.r.inj j l _ b h.al;subst this;rw [h.ul] at e;cases e) g;exact ⟨q,ys,by rw [if_neg (λz=>hj z.symm)];exact b,c,this,k,f.up X1⟩
def RL.wr (h:RL l a z0 D G0 A τ ρ G n) {i:Nat} {p:Addr} {xs:List T} {ds ds0:List PyData} (ho:ρ[i]?=some (Sl.ow ds0)) (hi:A i=some p) (ht:τ[i]?=some (some (.ref p))) (hs:Dqs (rs (AD D A) G) xs ds):RL l a z0 D G0 A τ (ρ.set i (.ow ds)) (gu G p (.lst xs)) n:=by
 have il:i≠l:=by rintro rfl;rw [h.ul] at ho;cases ho
 have pa:p≠a:=by rintro rfl;exact il (h.r.inj i l _ hi h.al)
 exact ⟨h.r.wr hi ht hs,h.al,h.tl,by rw [getElem?_set,if_neg il];exact h.ul,h.lf.new pa,h.tz⟩
end
abbrev QO:=Ot->Nat->Prop
def qax (l:Nat) (a:Addr) (z0:Option (Option T)×Nat) (D:Addr->Prop) (G0:Gp) (e:Ends3):Ot->Nat->Prop
 |.nx ρ,n=>∀ A τ G,RL l a z0 D G0 A τ ρ G n->e.nx τ G
 |.bk ρ,n=>∀ A τ G,RL l a z0 D G0 A τ ρ G n->e.bk τ G
 |.ct ρ,n=>∀ A τ G,RL l a z0 D G0 A τ ρ G n->e.ct τ G
 |.rt d fr,n=>∀ x G,Ex G0 G->Lf G a n->Dq (rs (λb=>D b\/b=a) G) x d->(fr=true->Nw (λb=>D b\/b=a) G0 G x d)->e.rt x G
structure PwS (l:Nat) (t:TS3) where
 w:Rho->Nat->QO->Prop
 mono:∀ {ρ n} {Q Q':QO},w ρ n Q->(∀ o m,Q o m->Q' o m)->w ρ n Q'
 ok:∀ {a z0 D G0 A τ ρ G n} {e:Ends3} {Q:QO},RL l a z0 D G0 A τ ρ G n->w ρ n Q->(∀ o m,Q o m->qax l a z0 D G0 e o m)->t e τ G
section
variable {l:Nat}
def UD:PwS l za:=⟨λρ n Q=>Q (.nx ρ) n,λh k=>k _ _ h,λh hw k=>k _ _ hw _ _ _ h⟩
def sqw (b:Rho->Nat->QO->Prop) (Q:QO):QO:=λo n=>match o with|.nx ρ'=>b ρ' n Q|o=>Q o n
def U5 {t u:TS3} (x:PwS l t) (y:PwS l u):PwS l (qY t u):=⟨λρ n Q=>x.w ρ n (sqw y.w Q),λh k=>x.mono h λo m h=>by
  cases o with
  |nx ρ=>exact y.mono h k
  |bk ρ=>exact k _ _ h
  |ct ρ=>exact k _ _ h
  |rt d f=>exact k _ _ h,λh hw k=>x.ok h hw λo m h=>by
  cases o with
  |nx ρ=>exact λA τ G r=>y.ok r h k
  |bk ρ=>exact k _ _ h
  |ct ρ=>exact k _ _ h
  |rt d f=>exact k _ _ h⟩
def wIf {c:TT3} {t u:TS3} (pc:PwC l c) (x:PwS l t) (y:PwS l u):PwS l (QB c t u):=⟨λρ n Q=>pc.w ρ n λk n1=>if k then x.w ρ n1 Q else y.w ρ n1 Q,λh k=>pc.mono h λj m h=>by
  cases j with
  |true=>rw [if_pos rfl] at h ⊢;exact x.mono h k
  |false=>exact y.mono h k,λh hw k=>pc.ok (h.all _) hw λj G1 n1 hj E1 L1=>by
  cases j with
  |true=>rw [if_pos rfl] at hj ⊢;exact x.ok (h.up E1 L1) hj k
  |false=>exact y.ok (h.up E1 L1) hj k⟩
def qeC {a:Addr} {z0:Option (Option T)×Nat} {D:Addr->Prop} {G0 G G':Gp} {A:Nat->Option Addr} {τ:St3} {ρ:Rho} {n:Nat} (h:RL l a z0 D G0 A τ ρ G n) (e:Ext a G G'):Ex G0 G':=λb o x=>e b o (by rintro rfl;rw [h.r.fr l _ h.al] at x;cases x) (h.r.ex b o x)
def CW {t:TE3} (x:PwE l t):PwS l (zz t):=⟨λρ n Q=>x.w ρ n λd n1=>Q (.rt d x.nw) n1,λh k=>x.mono h λd m h=>k _ _ h,λh hw k=>x.ok (h.all _) hw λy d G1 n1 hq E1 L1 D1 N1=>k _ _ hq y G1 (qeC h E1) L1 D1 λz=>(N1 z).back h.r.ex⟩
def K3 {t:TE3} (x:PwE l t) (i:Nat) (m:List Bool) (hm:Tru (x.fv.all (mkb m))) (hl:Tru (!mkb m l&&(i != l&&i != 0))):PwS l (zQ t (gn3 i)):=⟨λρ n Q=>x.w ρ n λd n1=>Q (.nx (L4 m x.nw i d ρ)) n1,λh k=>x.mono h λd m h=>k _ _ h,λ{a z0 D G0 A τ ρ G n e Q} h hw k=>by
 have hl':mkb m l=false/\i≠l/\i≠0:=by simpa using hl.h
 refine x.ok (h.ln hl'.1 hm) hw λy d G1 n1 hq E1 L1 D1 N1=>?_;have k:=k _ _ hq;unfold L4 at k;show e.nx (τ.set i (some y)) G1;split at k
 ·rename_i hs;exact k _ _ _ ((h.up E1 L1).put hl'.2.1 hl'.2.2 (UZ D1 hs))
 ·split at k
  ·rename_i hn;have N:=N1 hn;rcases id N with h2|⟨p,xs,ds,h1,h2,_⟩
   ·exact absurd h2 (by assumption)
   subst h2;obtain ⟨A',r⟩:=(h.dem hl'.1).putN hl'.2.1 hl'.2.2 rfl E1 L1 N;exact k _ _ _ r
  ·exact k _ _ _ (((h.dem hl'.1).up E1 L1).put hl'.2.1 hl'.2.2 D1)⟩
def qol {t:TA3} (x:PwA l t) (i j:Nat) (m:List Bool) (hm:Tru (x.fv.all (mkb m))) (hl:Tru (!mkb m l&&((i != l&&i != 0)&&(j != l&&j != 0)))):PwS l (MO i j t):=⟨λρ n Q=>x.w ρ n λds n1=>∃ o,NX i j m ds ρ=some o/\Q o n1,λh k=>x.mono h λd m ⟨bs,h1,h2⟩=>⟨bs,h1,k _ _ h2⟩,λ{a z0 D G0 A τ ρ G n e Q} h hw k=>by
 have hl':mkb m l=false/\(i≠l/\i≠0)/\j≠l/\j≠0:=by simpa using hl.h
 refine x.ok (h.ln hl'.1 hm) hw λy d G1 n1 ⟨o,e2,hq⟩ hlen E1 L1 D1=>?_;unfold NX at e2;split at e2
 ·cases D1 with
  |cons x1 b=>cases b with
   |cons x2 c=>
    cases c;split at e2
    ·rename_i hs;cases e2;rw [Bool.and_eq_true] at hs;exact k _ _ hq _ _ _ (((h.up E1 L1).put hl'.2.1.1 hl'.2.1.2 (UZ x1 hs.1)).put hl'.2.2.1 hl'.2.2.2 (UZ x2 hs.2))
    ·cases e2;exact k _ _ hq _ _ _ ((((h.dem hl'.1).up E1 L1).put hl'.2.1.1 hl'.2.1.2 x1).put hl'.2.2.1 hl'.2.2.2 (x2.up qeM))
 ·cases e2⟩
def RL.evalS {a:Addr} {z0:Option (Option T)×Nat} {D:Addr->Prop} {G0 G:Gp} {A:Nat->Option Addr} {τ:St3} {ρ:Rho} {n:Nat} (h:RL l a z0 D G0 A τ ρ G n) {t:TE3} (x:PwE l t) (m:List Bool) (hm:Tru (x.fv.all (mkb m))) (hl:mkb m l=false) {Q:QD} (hw:x.w ρ n Q) (q:Q3) (k:∀ y d G' n' A1,Q d n'->RL l a z0 D G0 A1 τ (dmS m d ρ) G' n'->Ext a G G'->Dq (rs (AD D A1) G') y d->q y G'):t τ G q:=by
 refine x.ok (h.ln hl hm) hw λy d G1 n1 hq E1 L1 D1 _=>?_;by_cases hs:LY d=true
 ·exact k y d G1 n1 A hq (by unfold dmS;rw [if_pos hs];exact h.up E1 L1) E1 (UZ D1 hs)
 ·exact k y d G1 n1 _ hq (by unfold dmS;rw [if_neg hs];exact (h.dem hl).up E1 L1) E1 D1
def qcg (gf:PyData->Option (List (Nat×PyData))) (bw:Rho->Nat->QO->Prop):List PyData->Rho->Nat->QO->Prop
 |[],ρ,n,Q=>Q (.nx ρ) n
 |d::r,ρ,n,Q=>∃ bs,gf d=some bs/\bw (Q4 ρ bs) n λo n1=>match o with
  |.nx ρ'=>qcg gf bw r ρ' n1 Q
  |.ct ρ'=>qcg gf bw r ρ' n1 Q
  |.bk ρ'=>Q (.nx ρ') n1
  |.rt d b=>Q (.rt d b) n1
def DW {g:TG3} {tb:TS3} (pg:PuG g) (pb:PwS l tb):∀ {ds:List PyData} {ρ:Rho} {n:Nat} {Q Q':QO},qcg pg.f pb.w ds ρ n Q->(∀ o m,Q o m->Q' o m)->qcg pg.f pb.w ds ρ n Q'
 |[],_,_,_,_,h,k=>k _ _ h
 |d::r,_,_,_,_,⟨bs,e,h⟩,k=>⟨bs,e,pb.mono h λo m h=>by
   cases o with
   |nx ρ=>exact DW pg pb h k
   |ct ρ=>exact DW pg pb h k
   |bk ρ=>exact k _ _ h
   |rt d b=>exact k _ _ h⟩
def XM {stay:Gp->Prop} {g:TG3} {tb:TS3} {e:Ends3} (pg:PuG g) (pb:PwS l tb) {a:Addr} {z0:Option (Option T)×Nat} {D:Addr->Prop} {G0:Gp} {Q:QO} (hl:∀ i∈pg.tg,i≠l/\i≠0) (hs:∀ A τ ρ G n,RL l a z0 D G0 A τ ρ G n->stay G) (k:∀ o m,Q o m->qax l a z0 D G0 e o m) :
  ∀ (ds:List PyData) (items:List T),(∀ A τ ρ G n,RL l a z0 D G0 A τ ρ G n->Dqs (rs (AD D A) G) items ds)->∀ A τ ρ G n,RL l a z0 D G0 A τ ρ G n->qcg pg.f pb.w ds ρ n Q->XX stay g tb e items τ G
 |[],items,hi,A,τ,ρ,G,n,h,hw=>by
  have:=hi _ _ _ _ _ h;cases this;exact ⟨hs _ _ _ _ _ h,k _ _ hw _ _ _ h⟩
 |d::ds,items,hi,A,τ,ρ,G,n,h,⟨bs,e1,hw⟩=>by
  have hh:=hi _ _ _ _ _ h;cases hh with
  |cons hx hr=>
   rename_i x items;obtain ⟨ts,bd,kg⟩:=pg.ok hx e1;refine ⟨hs _ _ _ _ _ h,kg _ _ _ ?_⟩;obtain ⟨A',h'⟩:=h.puts bd λp hp=>hl _ (pg.at' e1 p hp);have hi':∀ A τ ρ G n,RL l a z0 D G0 A τ ρ G n->Dqs (rs (AD D A) G) items ds:=λA τ ρ G n h=>by
    have:=hi _ _ _ _ _ h;cases this with
    |cons a b=>exact b
   refine pb.ok h' hw λo m hq=>?_;cases o with
   |nx ρ'=>exact λA2 τ2 G2 h2=>XM pg pb hl hs k ds items hi' _ _ _ _ _ h2 hq
   |ct ρ'=>exact λA2 τ2 G2 h2=>XM pg pb hl hs k ds items hi' _ _ _ _ _ h2 hq
   |bk ρ'=>exact k _ _ hq
   |rt d fr=>exact k _ _ hq
def RL.base {a:Addr} {z0:Option (Option T)×Nat} {D:Addr->Prop} {G0 Gb G:Gp} {A:Nat->Option Addr} {τ:St3} {ρ:Rho} {n:Nat} (h:RL l a z0 D Gb A τ ρ G n) (e:Ex G0 Gb) (hd:Dom D G0):RL l a z0 D G0 A τ ρ G n:=⟨h.r.base e hd,h.al,h.tl,h.ul,h.lf,h.tz⟩
def qax.base {a:Addr} {z0:Option (Option T)×Nat} {D:Addr->Prop} {G0 Gb:Gp} {e:Ends3} {o:Ot} {n:Nat} (h:qax l a z0 D G0 e o n) (x:Ex G0 Gb) (hd:Dom D G0):qax l a z0 D Gb e o n:=by
 cases o with
 |nx ρ=>exact λA τ G r=>h A τ G (r.base x hd)
 |bk ρ=>exact λA τ G r=>h A τ G (r.base x hd)
 |ct ρ=>exact λA τ G r=>h A τ G (r.base x hd)
 |rt d fr=>exact λy G p q r z=>h y G (x.trans p) q r λw=>(z w).back x
def qll {wi:TI3} {g:TG3} {tb:TS3} (pi:PwI l wi) (pg:PuG g) (pb:PwS l tb) (m:List Bool) (hm:Tru (pi.fv.all (mkb m))) (hl:Tru (!mkb m l&&pg.tg.all (λi=>i != l&&i != 0))):PwS l (S6 wi g tb):=⟨λρ n Q=>pi.w ρ n λds n1=>qcg pg.f pb.w ds (if pi.nm then ρ else dm m ρ) n1 Q,λh k=>pi.mono h λd m h=>DW pg pb h k,λ{a z0 D G0 A τ ρ G n e Q} h hw k=>by
 have hl':mkb m l=false/\∀ i∈pg.tg,i≠l/\i≠0:=by simpa using hl.h
 refine pi.ok (h.ln hl'.1 hm) hw λitems stay ds G1 n1 hq E1 L1 D1 hs hnm=>?_;cases hb:pi.nm with
 |true=>
  rw [hb,if_pos rfl] at hq;obtain ⟨ns,rfl⟩:=hnm hb;have:=D1.ints;subst this;exact XM pg pb hl'.2 (λ_ _ _ _ _ _=>hs _ (.inl hb)) k _ _ (λA τ ρ G _ _=>Dqs.ofInts _) _ _ _ _ _ (h.up E1 L1) hq
 |false=>
  rw [hb,if_neg Bool.false_ne_true] at hq;have h1:=(h.dem hl'.1).up E1 L1;have b1:Ex G0 (rs (λb=>∃ i,Ad m A i=some b) G1):=λb o e=>by
   rw [jy]
   ·exact h1.r.ex _ _ e
   ·rintro ⟨i,z⟩;rw [h1.r.fr i _ z] at e;cases e
  have h2:RL l a z0 D (rs (λb=>∃ i,Ad m A i=some b) G1) (Ad m A) τ (dm m ρ) G1 n1:=⟨⟨ZN,h.r.dm.up b1,λi p z=>by unfold rs;exact ze ⟨i,z⟩,h1.r.da,h1.r.inj,h1.r.len,h1.r.sh,h1.r.ow,h1.r.dc⟩,h1.al,h1.tl,h1.ul,h1.lf,h1.tz⟩
  have X:∀ A2 τ2 ρ2 G2,RS D (rs (λb=>∃ i,Ad m A i=some b) G1) A2 τ2 ρ2 G2->Ex (rs (AD D (Ad m A)) G1) (rs (AD D A2) G2):=λA2 τ2 ρ2 G2 r b o e=>by
   obtain ⟨n1,e⟩:=qw e;have eb:rs (λb=>∃ i,Ad m A i=some b) G1 b=some o:=by rw [jy (λz=>n1 (.inr z))];exact e
   rw [jy]
   ·exact r.ex _ _ eb
   ·rintro (z|⟨i,z⟩)
    ·exact n1 (.inl z)
    ·rw [r.fr i _ z] at eb;cases eb
  exact XM pg pb hl'.2 (λA2 τ2 ρ2 G2 n2 r=>hs _ (.inr ((X _ _ _ _ r.r).trans ZN))) (λo m hq=>(k o m hq).base b1 h.r.dm) _ _ (λA2 τ2 ρ2 G2 n2 r=>D1.up (X _ _ _ _ r.r)) _ _ _ _ _ h2 hq⟩
end
def DSp (W:List PyData->Nat->QD->Prop) (fr:Bool):Sp3:=λts G q=>∃ (D:Addr->Prop) (a:Addr) (n:Nat) (ts':List T) (ds:List PyData) (Q:QD),ts=.ref a::ts'/\Lf G a n/\D a/\Dom D G/\Dqs (rs D G) ts' ds/\W ds n Q/\∀ x d G' n',Q d n'->Ext a G G'->Lf G' a n'->Dq (rs D G') x d->(fr=true->Nw D G G' x d)->q x G'
structure Wm where
 W:List PyData->Nat->QD->Prop
 mono:∀ {ds n} {Q Q':QD},W ds n Q->(∀ d m,Q d m->Q' d m)->W ds n Q'
def dSp (w:Wm) (fr:Bool):DrD (DSp w.W fr):=⟨w.W,fr,w.mono,λ{D G a n ts ds q Q} lf da hd hs hw k=>⟨D,a,n,ts,ds,Q,rfl,lf,da,hd,hs,hw,k⟩⟩
def qbH (fr:Bool) (Q:QD):QO:=λo n=>match o with
 |.rt d b=>(fr=true->b=true)/\∃ m,n<=m/\Q d m
 |.nx _=>fr=false/\∃ m,n<=m/\Q .none m
 |_=>False
def qgl {t:TS3} (b:PwS 0 t) (k N:Nat) (fr:Bool):Wm:=⟨λds n Q=>ds.length+1=k/\b.w (.un::(ds.map Sl.sh++List.replicate (N-(ds.length+1)) .un)) n (qbH fr Q),λ⟨h1,h2⟩ k=>⟨h1,b.mono h2 λo m h=>by
 cases o with
 |rt d f=>obtain ⟨h1,m,h2,h3⟩:=h;exact ⟨h1,m,h2,k _ _ h3⟩
 |nx ρ=>obtain ⟨h1,m,h2,h3⟩:=h;exact ⟨h1,m,h2,k _ _ h3⟩
 |bk ρ=>exact h
 |ct ρ=>exact h⟩⟩
def DZ {t:TS3} (b:PwS 0 t) (N:List Str) (k:Nat) (fr:Bool):∀ ts G q,DSp (qgl b k N.length fr).W fr ts G q->ts.length=k/\t { nx:=λ_ G'=>q .non G',rt:=q } (qE N ts) G:=by
 rintro ts G q ⟨D,a,n,ts',ds,Q,rfl,lf,da,hd,hs,⟨hk,hw⟩,h⟩;refine ⟨by simp [hs.length];omega,?_⟩;have DD:∀ b,(D b/\b≠a)\/b=a↔D b:=λb=>by
  by_cases e:b=a
  ·subst e;simp [da]
  ·simp [e]
 have rr:∀ H,rs (λb=>(D b/\b≠a)\/b=a) H=rs D H:=λH=>by
  have:(λb=>(D b/\b≠a)\/b=a)=D:=funext λb=>propext (DD b);rw [this]
 have ad:AD (λb=>D b/\b≠a) (λi=>if i=0 then some a else none)=D:=funext λb=>propext ⟨(λz=>by
   rcases z with z|⟨i,z⟩
   ·exact z.1
   ·simp only at z;split at z
    ·cases z;exact da
    ·cases z),(λz=>by
   by_cases e:b=a
   ·subst e;exact .inr ⟨0,rfl⟩
   ·exact .inl ⟨z,e⟩)⟩
 have ga:G a≠none:=DK lf;have r:RL 0 a (some (some (.ref a)),(qE N (.ref a::ts')).length) (λb=>D b/\b≠a) (rs (λb=>b=a) G) (λi=>if i=0 then some a else none) (qE N (.ref a::ts')) (.un::(ds.map Sl.sh++List.replicate (N.length-(ds.length+1)) .un)) G n:=by
  refine ⟨⟨ZN,λb hb=>by rw [jy (D:=λb=>b=a) hb.2];exact hd b hb.1,λi p e=>?_,λi p e=>?_,λi j p e e'=>?_,by simp [qE,hs.length],λi d' e=>?_,λi es e=>?_,λi es e=>?_⟩,rfl,by simp [qE],rfl,lf,⟨by simp [qE],rfl⟩⟩
  ·split at e
   ·cases e;unfold rs;exact ze rfl
   ·cases e
  ·split at e
   ·cases e;exact ga
   ·cases e
  ·split at e
   ·split at e'
    ·rename_i h1 h2;rw [h1,h2]
    ·cases e'
   ·cases e
  ·rw [ad];cases i with
   |zero=>cases e
   |succ i=>
    rw [getElem?_cons_succ] at e;by_cases hi:i<ds.length
    ·rw [List.getElem?_append_left (by simpa using hi),getElem?_map] at e;obtain ⟨d2,e3,e4⟩:=Option.map_eq_some_iff.mp e;cases e4;obtain ⟨x,e5,hx⟩:=hs.get e3;refine ⟨x,?_,hx⟩;unfold qE;rw [List.getElem?_append_left (by simp [hs.length];exact hi),getElem?_map,getElem?_cons_succ,e5];rfl
    ·rw [List.getElem?_append_right (by simpa using hi),List.getElem?_replicate] at e;split at e<;>cases e
  ·cases i with
   |zero=>cases e
   |succ i=>
    rw [getElem?_cons_succ] at e;by_cases hi:i<ds.length
    ·rw [List.getElem?_append_left (by simpa using hi),getElem?_map] at e;obtain ⟨d2,e3,e4⟩:=Option.map_eq_some_iff.mp e;cases e4
    ·rw [List.getElem?_append_right (by simpa using hi),List.getElem?_replicate] at e;split at e<;>cases e
  ·cases i with
   |zero=>cases e
   |succ i=>
    rw [getElem?_cons_succ] at e;by_cases hi:i<ds.length
    ·rw [List.getElem?_append_left (by simpa using hi),getElem?_map] at e;obtain ⟨d2,e3,e4⟩:=Option.map_eq_some_iff.mp e;cases e4
    ·rw [List.getElem?_append_right (by simpa using hi),List.getElem?_replicate] at e;split at e<;>cases e
 have xe:∀ {G'},Ex (rs (λb=>b=a) G) G'->Ext a G G':=λe b o n x=>e b o (by rw [jy (D:=λb=>b=a) n];exact x);refine b.ok r hw λo m hq=>?_;cases o with
 |rt d f=>
  intro x G' E L Dx0 N;have Dx:=Dx0;rw [rr] at Dx;obtain ⟨hq1,m2,hm,hq2⟩:=hq;refine h x d G' m2 hq2 (xe E) (L.mono (by omega)) Dx λz=>?_;rcases N (hq1 z) with h2|⟨p,xs,ds',h1,h2,c,g,f'⟩
  ·exact .inl h2
  have np:p≠a:=by
   rintro rfl;rw [h1] at Dx0;cases Dx0 with
   |lst g0 _=>exact (qw g0).1 (.inr rfl)
  refine .inr ⟨p,xs,ds',h1,h2,by rw [jy (D:=λb=>b=a) np] at c;exact c,g,f'.up (z9 λb z=>?_)⟩;rcases z with z|z
  ·exact .inl ((DD b).mpr z)
  ·exact .inr z
 |nx ρ=>
  obtain ⟨hq1,m2,hm,hq2⟩:=hq;exact λA τ G' r'=>h .non .none G' m2 hq2 (xe r'.r.ex) (r'.lf.mono (by omega)) .non λz=>by rw [hq1] at z;cases z
 |bk ρ=>exact hq.elim
 |ct ρ=>exact hq.elim
def okW:QO:=λo _=>match o with|.nx _=>True|.ct _=>True|_=>False
def qn4 (K:Int):TE3:=o3 V1 (c3 (.int 1)) (cb3 qhi (qc (c3 (.int K)) (qc (cb3 V2 (qc (v3 0) ql)) ql)))
def qhL {i:Nat} {τ:St3} {t:T} {G:Gp} {q:Q3} (h:τ[i]?=some (some t)):v3 i τ G q=q t G:=by unfold v3;rw [h]
def qn6 (K:Int) (R:TS3):TS3:=qY (S6 (ZO (qc (qn4 K) ql)) (gn3 1) (qY (zQ (cb3 Bk.ZD (qc (v3 0) (qc (v3 1) ql))) (gn3 2)) R)) (zz (c3 (.bl true)))
def qck {R:TS3} (b:PwS 2 R) (N:List Str) (K:Int) (M:Nat) (hK:0<=K/\K<=60) (hN:N.length=M+3) (h:∀ k:Nat,k<=60->b.w ([.un,.sh (.int k),.un]++List.replicate M .un) 0 okW):∀ ts G q,WG ts G q->ts.length=1/\qn6 K R { nx:=λ_ G'=>q .non G',rt:=q } (qE N ts) G:=by
 rintro ts G q ⟨a,ns,rfl,hG,hl,hq⟩;refine ⟨rfl,?_⟩;have s0:(qE N [T.ref a])[0]?=some (some (.ref a)):=by simp [qE]
 have gl:getL G a=some (ns.map T.int):=by unfold getL;rw [hG]
 simp only [qn6,qY,S6,ZO,qn4,qc,ql,o3,c3,cb3,v3,s0,V2,gl,qhi,V1,length_map];have cnt:((1+(if ((ns.length:Nat):Int)<K then ((ns.length:Nat):Int) else K)).toNat)<=61:=by split<;>omega
 refine ⟨⟨by split<;>omega,by split<;>omega⟩,?_⟩;refine qaR _ (λ_ τ G'=>G' a=some (.frz (ns.map T.int))/\τ[0]?=some (some (.ref a))/\τ.length=M+3) ⟨hG,s0,by simp [qE,hN]⟩ (λ_ _ _ _ _=>True.intro) ?_ ?_
 ·rintro i z τ G' nx hz ⟨gA,t0,tl⟩ hn;obtain ⟨hi,rfl⟩:=qeR hz;have hi2:i<=60:=by omega
  have t1:(τ.set 1 (some (T.int (0+(i:Int)))))[0]?=some (some (.ref a)):=by rw [getElem?_set,if_neg (by omega)];exact t0
  have t2:(τ.set 1 (some (T.int (0+(i:Int)))))[1]?=some (some (T.int (0+(i:Int)))):=by rw [getElem?_set,if_pos rfl,if_pos (by omega)]
  show v3 0 (τ.set 1 (some (T.int (0+(i:Int))))) G' (λx G1=>v3 1 (τ.set 1 (some (T.int (0+(i:Int))))) G1 λy G2=>Bk.ZD [x,y] G2 λz G3=>R _ ((τ.set 1 (some (T.int (0+(i:Int))))).set 2 (some z)) G3);rw [qhL t1,qhL t2];refine ⟨a,_,ns,rfl,gA,hl,by omega,by omega,λp o c hp ho=>?_⟩;have pa:a≠p:=by rintro rfl;rw [gA] at hp;cases hp
  have r:RL 2 p (some (some (.ref a)),M+3) (λ_=>False) G' (λj=>if j=2 then some p else none) ((τ.set 1 (some (T.int (0+(i:Int))))).set 2 (some (.ref p))) ([.un,.sh (.int i),.un]++List.replicate M .un) (gu G' p (.lst [.int o,.int c,.int 0])) 0:=by
   refine ⟨⟨jP hp,λb z=>z.elim,λj q e=>?_,λj q e=>?_,λj k q e e'=>?_,by simp [tl],λj d e=>?_,λj ds e=>?_,λj ds e=>?_⟩,rfl,by rw [getElem?_set,if_pos rfl,if_pos (by simp;omega)],rfl,⟨o,c,0,qL,ho,by omega,by omega⟩,⟨by rw [getElem?_set,if_neg (by omega)];exact t1,by simp [tl]⟩⟩
   ·split at e
    ·cases e;exact hp
    ·cases e
   ·split at e
    ·cases e;rw [qL];simp
    ·cases e
   ·split at e
    ·split at e'
     ·rename_i h1 h2;rw [h1,h2]
     ·cases e'
    ·cases e
   ·match j,e with
    |0,e=>cases e
    |1,e=>
     cases e;refine ⟨.int (0+(i:Int)),by rw [getElem?_set,if_neg (by omega)];exact t2,?_⟩;rw [Int.zero_add];exact .int _
    |2,e=>cases e
    |j+3,e=>
     simp only [cons_append,List.nil_append,getElem?_cons_succ,List.getElem?_replicate] at e;split at e<;>cases e
   ·match j,e with
    |0,e=>cases e
    |1,e=>cases e
    |2,e=>cases e
    |j+3,e=>
     simp only [cons_append,List.nil_append,getElem?_cons_succ,List.getElem?_replicate] at e;split at e<;>cases e
   ·match j,e with
    |0,e=>cases e
    |1,e=>cases e
    |2,e=>cases e
    |j+3,e=>
     simp only [cons_append,List.nil_append,getElem?_cons_succ,List.getElem?_replicate] at e;split at e<;>cases e
  refine b.ok r (h i hi2) λo' m ho'=>?_;cases o' with
  |nx ρ'=>exact λA τ' G2 r2=>hn _ _ ⟨r2.r.ex _ _ gA,r2.tz.1,r2.tz.2⟩
  |ct ρ'=>exact λA τ' G2 r2=>hn _ _ ⟨r2.r.ex _ _ gA,r2.tz.1,r2.tz.2⟩
  |bk ρ'=>exact ho'.elim
  |rt d f=>exact ho'.elim
 ·rintro τ G' ⟨gA,t0,tl⟩;exact hq G'
def qmx {G:Gp} {ts:List T} {i:Int} (h:Dqs G ts [.int i]):ts=[.int i]:=by
 cases h with
 |cons a b=>cases b;cases a;rfl
def lfc {G:Gp} {a:Addr} {n c:Nat} (h:Lf G a ((n:Int)+(c:Int))):Lf G a ((n+c:Nat):Int):=by rw [Int.natCast_add];exact h
def YA:DrD Bk.qD:=⟨λds n Q=>∃ m:Int,ds=[.int m]/\(1<=m/\m<1073741824)/\n<1000000000/\∀ d:Int,0<=d->d<m->Q (.int d) (n+1),false,
 λ⟨m,h1,h2,h3,h4⟩ k=>⟨m,h1,h2,h3,λd x y=>k _ _ (h4 d x y)⟩,λ{D G a n ts ds q Q} lf da hd hs ⟨m,h1,h2,h3,h4⟩ k=>by
 subst h1;have:=qmx hs;subst this;exact ⟨a,n,m,rfl,h2.1,h2.2,lf,by omega,λd G' x y L E=>k _ _ G' (n+1) (h4 d x y) E (lfc (c:=1) L) (.int d) (λz=>by cases z)⟩⟩
def qbz (n:Nat):FnD (Bk.jn (n+1)):=⟨λds=>match ds with|[d,e]=>cif (d=e/\Bk.VG n d) (some (.bool true)) none|_=>none,false,λ{D G xs ds v q} hx hd hf k=>by
 split at hf
 ·unfold cif at hf;split at hf
  ·rename_i c;cases hf;obtain ⟨rfl,c⟩:=c;cases hx with
   |cons x b=>cases b with
    |cons y b=>
     cases b;exact ⟨_,_,_,rfl,(x.up ZN).dp,(y.up ZN).dp,c,λG' E=>k _ _ E (.bl true) (λz=>by cases z)⟩
  ·cases hf
 ·cases hf⟩
def qat {n:Nat} {d:PyData} (h:Bk.VG n d):(qbz n).f [d,d]=some (.bool true):=ze ⟨rfl,h⟩
def qhN {l:Nat} {t:TE3} {b:PuE t}:(eOf (l:=l) b).w=λρ n Q=>∃ d,b.f ρ=some d/\Q d n:=id rfl
def qg2 {l:Nat} {t:TT3} {b:PuC t}:(cOf (l:=l) b).w=λρ n Q=>∃ d,b.f ρ=some d/\Q d n:=id rfl
def qjS {l:Nat} {t:TA3} {b:PuA t}:(aOf (l:=l) b).w=λρ n Q=>∃ d,b.f ρ=some d/\Q d n:=id rfl
def qjI {l:Nat} {t:TI3} {b:PuI t}:(iOf (l:=l) b).w=λρ n Q=>∃ d,b.f ρ=some d/\Q d n:=id rfl
def qn9 {l:Nat} {r:R3} {ta tb:TE3} {R:OpD r} {a:PwE l ta} {b:PwE l tb}:(eO R a b).w=λρ n Q=>a.w ρ n λx n1=>b.w ρ n1 λy n2=>∃ v,R.f x y=some v/\Q v n2:=id rfl
def MX {l:Nat} {ta:TE3} {tr:TA3} {a:PwE l ta} {r:PwA l tr}:(YZ a r).w=λρ n Q=>a.w ρ n λx n1=>r.w ρ n1 λxs n2=>Q (x::xs) n2:=id rfl
def qdo {l:Nat} {t:TA3} {b:PwA l t} {hn:Tru (Nat.ble b.k 1000)}:(qlp b hn).w=λρ n Q=>b.w ρ n λxs n1=>Q (.tuple xs) n1:=id rfl
def ND {l:Nat} {r:List T->Gp->Q3->Prop} {t:TA3} {R:FnD r} {b:PwA l t}:(LL R b).w=λρ n Q=>b.w ρ n λxs n1=>∃ v,R.f xs=some v/\Q v n1:=id rfl
def qg7 {l:Nat} {r:List T->Gp->Q3->Prop} {t:TA3} {R:DrD r} {b:PwA l t}:(eDr R b).w=λρ n Q=>b.w ρ n λxs n1=>R.W xs n1 Q:=id rfl
def qj2 {l:Nat} {t:TE3} {b:PwE l t}:(cTb b).w=λρ n Q=>b.w ρ n λd n1=>∃ k,asB d=some k/\Q k n1:=id rfl
def qg8 {l:Nat} {t u:TT3} {a:PwC l t} {b:PwC l u}:(cOr a b).w=λρ n Q=>a.w ρ n λk n1=>if k then Q true n1 else b.w ρ n1 Q:=id rfl
def qcW {l:Nat} {t:TT3} {a:PwC l t}:(qoe a).w=λρ n Q=>a.w ρ n λk n1=>Q (!k) n1:=id rfl
def qor {l:Nat} {t:TA3} {b:PwA l t}:(iR b).w=λρ n Q=>b.w ρ n λxs n1=>∃ ds,qaJ xs=some ds/\Q ds n1:=id rfl
def qgy {l:Nat} {t:TA3} {b:PwA l t}:(iR b).nm=true:=id rfl
def qcK {l:Nat} {t:TI3} {b:PuI t}:(iOf (l:=l) b).nm=b.nm:=id rfl
def qcY {l:Nat} {t:TE3} {b:PuE t}:(eOf (l:=l) b).nw=b.nw:=id rfl
def qhp {l:Nat} {r:R3} {ta tb:TE3} {R:OpD r} {a:PwE l ta} {b:PwE l tb}:(eO R a b).nw=R.nw:=id rfl
def qaN {l:Nat} {t:TA3} {b:PwA l t} {hn:Tru (Nat.ble b.k 1000)}:(qlp b hn).nw=false:=id rfl
def TM {l:Nat} {r:List T->Gp->Q3->Prop} {t:TA3} {R:FnD r} {b:PwA l t}:(LL R b).nw=R.nw:=id rfl
def qdq {l:Nat} {r:List T->Gp->Q3->Prop} {t:TA3} {R:DrD r} {b:PwA l t}:(eDr R b).nw=R.nw:=id rfl
def qgU {l:Nat} {wi:TI3} {g:TG3} {tif:TT3} {te:TE3} {l2:Nat} {pi:PwI l wi} {pg:PuG g} {pc:PwC l2 tif} {pe:PwE l2 te} {m:List (Option Nat)} {hm:Tru (pg.tg.all λi=>m[i]?==some none)} {hl:Tru (m[l2]?==some (some l))}:(eLc l2 pi pg pc pe m hm hl).w=λρ n Q=>pi.w ρ n λds n1=>ds.length<=16777216/\lcW pg.f pc.w pe.w (D6 m ρ) ds n1 λfs n2=>fs.length<=16777216/\Q (.list fs) n2:=id rfl
def MV {l:Nat}:(UD (l:=l)).w=λρ n Q=>Q (.nx ρ) n:=id rfl
def KR {b:Rho->Nat->QO->Prop} {Q:QO} {ρ:Rho} {n:Nat}:sqw b Q (.nx ρ) n=b ρ n Q:=id rfl
def qdr {b:Rho->Nat->QO->Prop} {Q:QO} {d:PyData} {f:Bool} {n:Nat}:sqw b Q (.rt d f) n=Q (.rt d f) n:=id rfl
def qi0 {l:Nat} {c:TT3} {t u:TS3} {pc:PwC l c} {x:PwS l t} {y:PwS l u}:(wIf pc x y).w=λρ n Q=>pc.w ρ n λk n1=>if k then x.w ρ n1 Q else y.w ρ n1 Q:=id rfl
def qcH {l:Nat} {t:TE3} {x:PwE l t}:(CW x).w=λρ n Q=>x.w ρ n λd n1=>Q (.rt d x.nw) n1:=id rfl
def qcu {l:Nat} {t:TE3} {x:PwE l t} {i:Nat} {m:List Bool} {hm:Tru (x.fv.all (mkb m))} {hl:Tru (!mkb m l&&(i != l&&i != 0))}:(K3 x i m hm hl).w=λρ n Q=>x.w ρ n λd n1=>Q (.nx (L4 m x.nw i d ρ)) n1:=id rfl
def qel {l:Nat} {t:TA3} {x:PwA l t} {i j:Nat} {m:List Bool} {hm:Tru (x.fv.all (mkb m))} {hl:Tru (!mkb m l&&((i != l&&i != 0)&&(j != l&&j != 0)))}:(qol x i j m hm hl).w=λρ n Q=>x.w ρ n λds n1=>∃ o,NX i j m ds ρ=some o/\Q o n1:=id rfl
def qdu {l:Nat} {wi:TI3} {g:TG3} {tb:TS3} {pi:PwI l wi} {pg:PuG g} {pb:PwS l tb} {m:List Bool} {hm:Tru (pi.fv.all (mkb m))} {hl:Tru (!mkb m l&&pg.tg.all (λi=>i != l&&i != 0))}:(qll pi pg pb m hm hl).w=λρ n Q=>pi.w ρ n λds n1=>qcg pg.f pb.w ds (if pi.nm then ρ else dm m ρ) n1 Q:=id rfl
def NE {ds:List PyData} {n:Nat} {Q:QD}:YA.W ds n Q=(∃ m:Int,ds=[.int m]/\(1<=m/\m<1073741824)/\n<1000000000/\∀ d:Int,0<=d->d<m->Q (.int d) (n+1)):=id rfl
def KL:YA.nw=false:=id rfl
def T4 {n:Nat}:(qbz n).nw=false:=id rfl
def qiM {w:Wm} {fr:Bool}:(dSp w fr).W=w.W:=id rfl
def qcV {w:Wm} {fr:Bool}:(dSp w fr).nw=fr:=id rfl
def ML {Q:QD} {d:PyData} {b:Bool} {n:Nat}:qbH false Q (.rt d b) n=∃ m,n<=m/\Q d m:=propext ⟨λh=>h.2,λh=>⟨λz=>(Bool.false_ne_true z).elim,h⟩⟩
def qdH {ρ:Rho} {n:Nat}:okW (.nx ρ) n=True:=id rfl
def qkP {α:Type} {v:α} {P:α->Prop}:(∃ d,some v=some d/\P d)=P v:=propext ⟨λ⟨d,h1,h2⟩=>by cases h1;exact h2,λh=>⟨v,rfl,h⟩⟩
def qcN {v:Int} {P:Int->Prop}:(∃ m:Int,[PyData.int v]=[.int m]/\P m)=P v:=propext ⟨λ⟨d,h1,h2⟩=>by cases h1;exact h2,λh=>⟨v,rfl,h⟩⟩
def jL {l:Nat} {t u:TS3} {x:PwS l t} {y:PwS l u} {ρ:Rho} {n:Nat} {Q:QO} (h:∀ Y:Rho->Nat->QO->Prop,Y=y.w->x.w ρ n (sqw Y Q)):(U5 x y).w ρ n Q:=h _ rfl
structure Mn (bw:Rho->Nat->QO->Prop):Prop where
 h:∀ ρ n (Q Q':QO),bw ρ n Q->(∀ o m,Q o m->Q' o m)->bw ρ n Q'
def PwS.mn {l:Nat} {t:TS3} (b:PwS l t):Mn b.w:=⟨λ_ _ _ _ h k=>b.mono h k⟩
structure MnE (bw:Rho->Nat->QD->Prop):Prop where
 h:∀ ρ n (Q Q':QD),bw ρ n Q->(∀ o m,Q o m->Q' o m)->bw ρ n Q'
def PwE.mn {l:Nat} {t:TE3} (b:PwE l t):MnE b.w:=⟨λ_ _ _ _ h k=>b.mono h k⟩
structure MnC (bw:Rho->Nat->(Bool->Nat->Prop)->Prop):Prop where
 h:∀ ρ n (Q Q':Bool->Nat->Prop),bw ρ n Q->(∀ o m,Q o m->Q' o m)->bw ρ n Q'
def mnT:MnC (λρ n Q=>Q true n):=⟨λ_ _ _ _ h k=>k _ _ h⟩
section
variable {l:Nat} {g:TG3} {tb:TS3}
def XV {gf:PyData->Option (List (Nat×PyData))} {bw:Rho->Nat->QO->Prop} {α:Type} {f:α->PyData} (xs:List α) (mono:Mn bw) (I:Nat->Rho->Nat->Prop) {ρ:Rho} {n:Nat} {Q:QO} (h0:I 0 ρ n)
  (hs:∀ i x ρ n,xs[i]?=some x->I i ρ n->∃ bs,gf (f x)=some bs/\bw (Q4 ρ bs) n λo m=>match o with|.nx ρ'=>I (i+1) ρ' m|.ct ρ'=>I (i+1) ρ' m|.bk ρ'=>Q (.nx ρ') m|.rt d b=>Q (.rt d b) m)
  (k:∀ ρ n,I xs.length ρ n->Q (.nx ρ) n):qcg gf bw (xs.map f) ρ n Q:=by
 have key:∀ (r:List α) (i:Nat) (ρ:Rho) (n:Nat),xs.drop i=r->i<=xs.length->I i ρ n->qcg gf bw (r.map f) ρ n Q:=by
  intro r;induction r with
  |nil=>
   intro i ρ n e hi h;have:i=xs.length:=by
    have:=congrArg List.length e;simp at this;omega
   subst this;exact k ρ n h
  |cons x r ih=>
   intro i ρ n e hi h;have hl:i<xs.length:=by
    have:=congrArg List.length e;simp at this;omega
   have e':=List.drop_eq_getElem_cons hl;rw [e] at e';injection e' with e1 e2;obtain ⟨bs,h1,h2⟩:=hs i x ρ n (by rw [getElem?_eq_getElem hl,e1]) h;refine ⟨bs,h1,mono.h _ _ _ _ h2 λo m h=>?_⟩;cases o with
   |nx ρ'=>exact ih (i+1) ρ' m e2.symm hl h
   |ct ρ'=>exact ih (i+1) ρ' m e2.symm hl h
   |bk ρ'=>exact h
   |rt d b=>exact h
 exact key xs 0 ρ n (by simp) (Nat.zero_le _) h0
def R5 {gf:PyData->Option (List (Nat×PyData))} {cw:Rho->Nat->(Bool->Nat->Prop)->Prop} {ew:Rho->Nat->QD->Prop} {α β:Type} {f:α->PyData} {gd:β->PyData} {ρ:Rho} (R:β->Prop) (c:Nat) (N:Nat):∀ (xs:List α) (n:Nat) (Q:List PyData->Nat->Prop),
  (∀ x∈xs,∀ n Q,n+c<=N->(∀ b,R b->Q (gd b) (n+c))->∃ bs,gf (f x)=some bs/\cw (Q4 ρ bs) n λk n1=>if k then ew (Q4 ρ bs) n1 Q else False) ->
  MnE ew->MnC cw->n+c*xs.length<=N->(∀ bs:List β,bs.length=xs.length->(∀ b∈bs,R b)->Q (bs.map gd) (n+c*xs.length))->lcW gf cw ew ρ (xs.map f) n Q
 |[],n,Q,_,_,_,_,h=>h [] rfl (by simp)
 |x::xs,n,Q,hx,me,mc,hn,h=>by
  have hc:c*(xs.length+1)=c*xs.length+c:=by rw [Nat.mul_succ]
  simp only [length_cons] at hn h;obtain ⟨bs,h1,h2⟩:=hx x (by simp) n (λy n2=>lcW gf cw ew ρ (xs.map f) n2 λys n3=>Q (y::ys) n3) (by omega) λb hb=>by
   refine R5 R c N xs (n+c) _ (λz hz=>hx z (by simp [hz])) me mc (by omega) λcs hl hr=>?_;have:=h (b::cs) (by simp [hl]) (by intro z hz;rcases mem_cons.mp hz with rfl|hz;exact hb;exact hr z hz);rw [show n+c*(xs.length+1)=n+c+c*xs.length by omega] at this;exact this
  refine ⟨bs,h1,mc.h _ _ _ _ h2 λk m hk=>?_⟩;cases k with
  |true=>exact hk
  |false=>exact hk.elim
end
def NU {α β:Type} {x:α} {f:α->Option β}:(some x).bind f=f x:=id rfl
def qej {α β:Type} {x:α} {f:α->β}:(some x).map f=some (f x):=id rfl
def qjw {α:Type} {x:α} {r:List α}:(x::r).length=r.length+1:=id rfl
def qhJ {α:Type}:([]:List α).length=0:=id rfl
def qkU {α:Type} {x y:α} {r:List α}:(x::r).set 0 y=y::r:=id rfl
def qhP {α:Type} {x y:α} {r:List α} {i:Nat}:(x::r).set (i+1) y=x::r.set i y:=id rfl
def qiF {α:Type} {r:List α}:r++[]=r:=List.append_nil r
def qiA {α:Type} {x:α} {r s:List α}:(x::r)++s=x::(r++s):=id rfl
def qhx {α:Type} {s:List α}:[]++s=s:=id rfl
def qki {n:Nat}:0+n=n:=Nat.zero_add n
def qgt {α:Type} {a b:α} {i:Decidable True}:@ite α True i a b=a:=if_pos trivial
def qgw {α:Type} {a b:α} {i:Decidable False}:@ite α False i a b=b:=if_neg not_false
def qi7:(false=true)=False:=Bool.false_eq_true
def qgZ:(!true)=false:=id rfl
def qhF:(!false)=true:=id rfl
def qi3 {i:Decidable True}:@decide True i=true:=decide_true i
def qjr {i:Decidable False}:@decide False i=false:=decide_false i
def qhq {b:Bool}:(true&&b)=b:=Bool.true_and b
def qhT {b:Bool}:(false&&b)=false:=Bool.false_and b
def qhb {b:Bool}:(b&&false)=false:=Bool.and_false b
def ai{a b:Prop}(x:a)(y:b):a/\b:=⟨x,y⟩
def pwA:=(ai (ai (ai (ai (ai (ai (ai @Pu.qhN @Pu.qg2) (ai @Pu.qjS (ai @Pu.qjI @Pu.qn9))) (ai (ai @Pu.MX (ai @Pu.qdo @Pu.ND)) (ai @Pu.qg7 (ai @Pu.qj2 @Pu.qg8)))) (ai (ai (ai @Pu.qcW (ai @Pu.qor @Pu.qgy)) (ai @Pu.qcK (ai @Pu.qcY @Pu.qhp))) (ai (ai @Pu.qaN (ai @Pu.TM @Pu.qdq)) (ai @Pu.qgU (ai @Pu.MV @Pu.KR))))) (ai (ai (ai (ai @Pu.qdr (ai @Pu.qi0 @Pu.qcH)) (ai @Pu.qcu (ai @Pu.qel @Pu.qdu))) (ai (ai @Pu.NE (ai @Pu.KL @Pu.T4)) (ai @Pu.qiM (ai @Pu.qcV @Pu.ML)))) (ai (ai (ai @Pu.qdH (ai @Pu.qcN @Pu.qiG)) (ai @Pu.qnX (ai @Pu.qde @Pu.qkr))) (ai (ai @Pu.qcy (ai @Pu.qeh @Pu.qnV)) (ai @Pu.qdl (ai @Pu.qaq @Pu.qdM)))))) (ai (ai (ai (ai (ai @Pu.qct @Pu.qa4) (ai @Pu.qgp (ai @Pu.qdJ @Pu.qkS))) (ai (ai @Pu.qd2 (ai @Pu.qjl @Pu.qaj)) (ai @Pu.MF (ai @Pu.qdF @Pu.qie)))) (ai (ai (ai @Pu.qee (ai @Pu.qky @Pu.qh7)) (ai @Pu.qdj (ai @Pu.qhy @Pu.qdx))) (ai (ai @Pu.qdw (ai @Pu.qdC @Pu.qek)) (ai @Pu.qdN (ai @Pu.qal @Pu.qgX))))) (ai (ai (ai (ai @Pu.qiH (ai @Pu.qiy @Pu.qdc)) (ai @Pu.M3 (ai @Pu.qdm @Pu.qd4))) (ai (ai @Pu.NM (ai @Pu.qeb @Pu.qdh)) (ai @Pu.qcv (ai @Pu.qa0 @Pu.N9)))) (ai (ai (ai @Pu.TD (ai @Pu.M1 @Pu.qn1)) (ai @Pu.MN (ai @Pu.SA @Pu.qao))) (ai (ai @Pu.MW (ai @Pu.qc1 @Pu.qhQ)) (ai @Pu.qd8 (ai @Pu.NI @Pu.qcw))))))) (ai (ai (ai (ai (ai (ai @Pu.ME @Pu.qcZ) (ai @Pu.qa5 (ai @Pu.qd7 @Pu.qjD))) (ai (ai @Pu.qkg (ai @Pu.qdk @Pu.qid)) (ai @Pu.NY (ai @Pu.M2 @Pu.KP)))) (ai (ai (ai @Pu.KT (ai @Pu.TY @Pu.qdI)) (ai @Pu.M0 (ai @Pu.qaL @Pu.NA))) (ai (ai @Pu.TJ (ai @Pu.qeg @Pu.qoj)) (ai @Pu.qov (ai @Pu.qkJ @Pu.qip))))) (ai (ai (ai (ai @Pu.qiB (ai @Pu.qas @Pu.qaI)) (ai @Pu.qdW (ai @Pu.qks @Pu.qew))) (ai (ai @Pu.at0 (ai @Pu.at1 @Pu.at2)) (ai @Pu.at3 (ai @Pu.eqI @Pu.qoi)))) (ai (ai (ai @Pu.qd5 (ai @Pu.qdG @Pu.qdz)) (ai @Pu.NG (ai @Pu.qdR @Pu.qgP))) (ai (ai @Pu.qgx (ai @Pu.qd6 @Pu.qdP)) (ai @Pu.qdt (ai @Pu.qdK @Pu.CF)))))) (ai (ai (ai (ai (ai @Pu.qei (ai @Pu.qcX @Pu.qkl)) (ai @Pu.qjo (ai @Pu.qiS @Pu.qgV))) (ai (ai @Pu.qiN (ai @Pu.qjU @Pu.qhW)) (ai @Pu.qiV (ai @Pu.qd1 @Pu.qhe)))) (ai (ai (ai @Pu.qkN (ai @Pu.qob @Pu.qod)) (ai @Pu.qou (ai @Pu.qit @Pu.qko))) (ai (ai @Pu.qkY (ai @Pu.qkW @Pu.qhh)) (ai @Pu.qn0 (ai @Pu.qiv @Pu.qcx))))) (ai (ai (ai (ai @Pu.qcT (ai @Pu.qcB @Pu.qcD)) (ai @Pu.qkP (ai @Pu.NU @Pu.qej))) (ai (ai @Pu.qjw (ai @Pu.qhJ @Pu.qkU)) (ai @Pu.qhP (ai @Pu.qiF @Pu.qiA)))) (ai (ai (ai @Pu.qhx (ai @Pu.qki @Pu.qgt)) (ai @Pu.qgw (ai @Pu.qi7 @Pu.qgZ))) (ai (ai @Pu.qhF (ai @Pu.qi3 @Pu.qjr)) (ai @Pu.qhq (ai @Pu.qhT @Pu.qhb))))))))
end Pu
namespace Bk
open PySem L2 L3
end Bk
namespace Pu
open PySem L2 L3
open Bk (Lf Ext)
def the (S:PyData->Prop):Option PyData:=@dite _ (∃ v,S v) (Classical.propDecidable _) (λh=>some (Classical.choose h)) λ_=>none
end Pu
namespace Pu
open PySem L2 L3
open Bk (Lf Ext SD SDs EO XJ ES X5 T8 KG)
end Pu
namespace Pu
open PySem L2 L3
def W7 (st:Bool):List PyData->Option PyData
 |[.none]=>some (.str "None")
 |[.bool b]=>some (.str (if b=true then Str.ofString "True" else Str.ofString "False"))
 |[.int i]=>cif (i.natAbs.log2<1920) (some (.str (Str.ofString (toString i)))) none
 |[.str x]=>match st with
  |true=>some (.str x)
  |false=>cif ((reprText x).length<=sizeLine) (some (.str (reprText x))) none
 |[.list ds]=>cif (ShW (.list ds)) (some (.str (PyData.list ds).shown)) none
 |[.tuple ds]=>cif (ShW (.tuple ds)) (some (.str (PyData.tuple ds).shown)) none
 |_=>none
def JT {α:Type} {c:Prop} {x:α} {d:α} (h:cif c (some x) none=some d):c/\x=d:=by
 unfold cif at h;split at h
 ·rename_i z;exact ⟨z,Option.some.inj h⟩
 ·cases h
def qf0 (st:Bool):FnD (M5 st):=⟨W7 st,false,λ{D G xs ds v q} hx hd hf k=>by
 cases hx with
 |nil=>cases hf
 |cons a b=>
  cases b with
  |cons b1 b2=>cases a<;>cases hf
  |nil=>
   have dp:=(a.up ZN).dp;have fin:∀ (x:Str) {w:PyData},w=v->w=.str x->q (.str x) G:=λx w e1 e2=>k _ _ Ex.refl (by rw [← e1,e2];exact .str _) (λz=>by cases z);cases a with
   |non=>exact fin _ (Option.some.inj hf) rfl
   |bl b=>exact fin _ (Option.some.inj hf) rfl
   |int i=>exact ⟨(JT hf).1,fin _ (JT hf).2 rfl⟩
   |str x=>
    cases st with
    |true=>exact fin _ (Option.some.inj hf) rfl
    |false=>exact ⟨(JT hf).1,fin _ (JT hf).2 rfl⟩
   |tup hs=>exact ⟨_,dp,(JT hf).1,fin _ (JT hf).2 rfl⟩
   |lst g hs=>exact ⟨_,dp,(JT hf).1,fin _ (JT hf).2 rfl⟩⟩
def qe8 {st:Bool}:(qf0 st).f=W7 st:=id rfl
def qgT {st:Bool} {ds:List PyData} (h:ShW (.list ds)):W7 st [.list ds]=some (.str (PyData.list ds).shown):=ze h
def qiD {st:Bool} {ds:List PyData} (h:ShW (.tuple ds)):W7 st [.tuple ds]=some (.str (PyData.tuple ds).shown):=ze h
def log2_lt {n k:Nat} (h:n<2 ^ k) (hk:0<k):n.log2<k:=by
 rcases Nat.eq_zero_or_pos n with z|z
 ·subst z;simpa using hk
 ·exact (Nat.log2_lt (by omega)).mpr h
def qiw {st:Bool} {i:Int} (h:-1000000000<=i/\i<=1000000000):W7 st [.int i]=some (.str (Str.ofString (toString i))):=ze (Nat.lt_of_lt_of_le (log2_lt (k:=30) (by omega) (by decide)) (by decide))
def qhM {x:Str}:W7 true [.str x]=some (.str x):=id rfl
def qkD {st:Bool}:W7 st [.none]=some (.str "None"):=id rfl
def qic {st b:Bool}:W7 st [.bool b]=some (.str (if b=true then Str.ofString "True" else Str.ofString "False")):=id rfl
def qdQ:∀ ks:List Int,qbs (ks.map PyData.int)=0
 |[]=>rfl
 |k::ks=>by simp only [map_cons,qbs,dpt,qdQ ks];rfl
def qkR:∀ ks js:List Int,Z0 (ks.map PyData.int) (js.map PyData.int)=some (decide (ks=js))
 |[],[]=>rfl
 |[],_::_=>by simp [Z0]
 |_::_,[]=>by simp [Z0]
 |k::ks,j::js=>by
  simp only [map_cons,Z0,ji,qkR ks js];congr 1;by_cases h1:k=j<;>by_cases h2:ks=js<;>simp [h1,h2]
def qex (n:Bool) (ks js:List Int):eqD n (.list (ks.map PyData.int)) (.list (js.map PyData.int))=some (.bool (if n then !decide (ks=js) else decide (ks=js))):=by
 have h:S9 (.list (ks.map PyData.int)) (.list (js.map PyData.int))=none:=rfl;unfold eqD;rw [h];simp only;rw [ze (by simp [dpt,qdQ])];simp only [ji,qkR,Option.map_some]
def qfg {α:Type} (g:α->PyData) (xs:List α):∀ k,enD k (xs.map g)=(xs.zipIdx k).map λp=>PyData.tuple [.int (p.2:Int),g p.1]:=by
 induction xs with
 |nil=>intro k;rfl
 |cons x xs ih=>intro k;simp only [map_cons,enD,List.zipIdx_cons,ih (k+1)]
def nbD:PyData->Option Int
 |.int i=>some i
 |.bool k=>some (if k=true then 1 else 0)
 |_=>none
def qmE {G:Gp} {x:T} {d:PyData} (h:Dq G x d):nbT x=nbD d:=by cases h<;>rfl
def qcR {ds:List PyData} {r:Int} (h0:0<=r) (h1:r<(ds.length:Int)):∃ v∈ds,L2.atI ds r=some v:=by
 obtain ⟨j,rfl⟩:=Int.eq_ofNat_of_zero_le h0;have hj:j<ds.length:=by omega
 exact ⟨ds[j],List.getElem_mem hj,by rw [atN hj,getElem?_eq_getElem hj]⟩
def NO {xs:List PyData} {lo hi:Option Int} {d:PyData} (h:d∈V3 xs lo hi):d∈xs:=List.mem_of_mem_drop (List.mem_of_mem_take h)
def wNo:Wm:=⟨λ_ _ _=>False,λh _=>h⟩
def Fn3.dz {P:Program} {w:World} {K:Frg} {mg:Str->Option Value} {base:Heap} {k:Nat} {x:Str} {sp:Sp3} (F:Fn3 P w K mg base k x sp) (fr:Bool):Fn3 P w K mg base k x (DSp wNo.W fr):=F.imp λts G q ⟨_,_,_,_,_,_,_,_,_,_,_,h,_⟩=>h.elim
def nRD (d e:PyData):Option PyData:=match d,nbD e with|.int i,some j=>some (.int (i-j))|_,_=>none
def qoJ:OpD nR3:=⟨nRD,false,λ{D G x y d e v q} hx hy hd hf k=>by
 unfold nRD at hf;unfold nR3;rw [qmE hy];split at hf
 ·rename_i i j e1;cases hx;cases hf;rw [e1];exact k _ _ Ex.refl (.int _) (λz=>by cases z)
 ·cases hf⟩
def ssD (d:PyData) (l k:Option Int):Option PyData:=match d,l with
 |.list xs,some i=>cif (k=some 2/\0<=i/\i<=xs.length) (some (.list (ev (xs.drop i.toNat)))) none
 |_,_=>none
def Dqs.ev {G:Gp}:∀ {xs:List T} {ds:List PyData},Dqs G xs ds->Dqs G (L3.ev xs) (L3.ev ds)
 |_,_,.nil=>by simp only [L3.ev];exact .nil
 |_,_,.cons r .nil=>by simp only [L3.ev];exact .cons r .nil
 |_,_,.cons r (.cons _ t)=>by simp only [L3.ev];exact .cons r (Dqs.ev t)
def qha {te:TE3} {tl tk:TO3} (a:PuE te) (l:PuO tl) (h:PuO tk):PuE (qir te tl tk):=⟨λρ=>(a.f ρ).bind λd=>(l.f ρ).bind λlo=>(h.f ρ).bind λhi=>ssD d lo hi,a.fv++(l.fv++h.fv),false,λhv hd hf k=>by
 obtain ⟨d,e1,hf⟩:=obb hf;obtain ⟨lo,e2,hf⟩:=obb hf;obtain ⟨hi,e3,hf⟩:=obb hf;refine a.ok hv.l hd e1 λx' G1 E1 D1 _=>l.ok (hv.r.l.up E1) (hd.up E1) e2 λG2 E2=>h.ok (hv.r.r.up (E1.trans E2)) (hd.up (E1.trans E2)) e3 λG3 E3=>?_;have E:=(E1.trans E2).trans E3;have D3:=(D1.up (jb E2)).up (jb E3);unfold ssD at hf;cases D3 with
 |lst g hs=>
  cases lo with
  |none=>simp at hf
  |some i=>
  simp only [cif] at hf;split at hf
  ·rename_i c;cases hf;refine ⟨c.1,?_⟩;simp only [zy (qw g).2];refine ⟨c.2.1,by rw [hs.length];exact c.2.2,λp hp=>?_⟩;exact k _ _ (E.trans (jP hp)) (JD (hd.up E) hp (hs.drop _).ev) (λz=>by cases z)
  ·cases hf
 |_=>simp at hf⟩
def qcG {te:TE3} {tl th:TO3} {a:PuE te} {l:PuO tl} {h:PuO th} {ρ:Rho}:(qha a l h).f ρ=(a.f ρ).bind λd=>(l.f ρ).bind λlo=>(h.f ρ).bind λhi=>ssD d lo hi:=id rfl
def qfc {te:TE3} {tl th:TO3} {a:PuE te} {l:PuO tl} {h:PuO th}:(qha a l h).nw=false:=id rfl
def qmu {xs:List PyData} {i:Nat} (h:i<=xs.length):ssD (.list xs) (some (i:Int)) (some 2)=some (.list (ev (xs.drop i))):=by
 refine (ze ⟨rfl,by omega,by omega⟩).trans ?_;rw [Int.toNat_natCast]
open Bk (Lf Ext)
def qfm {t:TE3} (a:PuE t) (i:Nat) (m:List Bool) (hm:Tru (a.fv.all (mkb m))):PuS (LM i t):=⟨λ_ ρ=>(a.f ρ).bind λd=>qgC i d (dmS m d ρ),λ{D G0 A τ ρ G n o e} h hf k=>by
 obtain ⟨d,e1,hf⟩:=obb hf;obtain ⟨A1,h1,ev⟩:=h.evalS a m hm e1;unfold qgC at hf;split at hf
 ·obtain ⟨ds,e2,hf⟩:=obb hf;unfold cif at hf;split at hf
  ·rename_i hl;cases hf;obtain ⟨p,xs,b,c,g,f⟩:=h1.ow i _ (ZB e2);simp only [LM,c];refine ev _ λx G1 E1 D1=>?_;cases D1 with
   |lst g2 hs2=>
    simp only [E1 _ _ g,(qw g2).2];have et:τ.set i (some (.ref p))=τ:=by
     apply List.ext_getElem?;intro j;rw [getElem?_set];split
     ·rename_i ij;subst ij;split
      ·exact c.symm
      ·rename_i z;rw [List.getElem?_eq_none (by omega)]
     ·rfl
    rw [et];exact ⟨by rw [f.length,hs2.length];exact hl,k _ _ _ ((h1.up E1).wr b c ((f.up (jb E1)).append hs2))⟩
  ·cases hf
 ·cases hf⟩
def qa3 {t:TE3} {a:PuE t} {i:Nat} {m:List Bool} {hm:Tru (a.fv.all (mkb m))}:(qfm a i m hm).f=λ_ ρ=>(a.f ρ).bind λd=>qgC i d (dmS m d ρ):=id rfl
def qmV {m:List Bool} {ρ:Rho} {i:Nat}:vw (dm m ρ) i=vw ρ i:=by
 unfold vw;rw [SH];cases ρ[i]? with
 |none=>rfl
 |some s=>
  simp only [Option.map_some,Option.bind_some];split
  ·cases s<;>rfl
  ·rfl
def qj5 {l:Nat} {t1 t2:TE3} (a:PuE t1) (b:PuE t2) (i j:Nat) (m:List Bool) (ha:Tru a.nw) (hb:Tru b.nw) (h1:Tru (a.fv.all (mkb m))) (h2:Tru (b.fv.all (mkb m))) (hi:Tru (b.fv.all (· != i))) (hl:Tru (!mkb m l&&((i != l&&i != 0)&&(j != l&&j != 0)))):PwS l (MO i j (qc t1 (qc t2 ql))):=
 ⟨λρ n Q=>∃ ds es,a.f ρ=some (.list ds)/\b.f ρ=some (.list es)/\Q (.nx ((dm m ((dm m ρ).set i (.ow ds))).set j (.ow es))) n,λ⟨ds,es,x,y,z⟩ k=>⟨ds,es,x,y,k _ _ z⟩,λ{a0 z0 D G0 A τ ρ G n e Q} h ⟨ds,es,e1,e2,hq⟩ k=>by
 have hl':mkb m l=false/\(i≠l/\i≠0)/\j≠l/\j≠0:=by simpa using hl.h
 have hd:=h.dem hl'.1;unfold MO qc;refine a.ok (h.r.viewD h1) hd.r.dom e1 λx G1 E1 D1 N1=>?_;obtain ⟨A1,r1⟩:=hd.putN hl'.2.1.1 hl'.2.1.2 rfl (Bk.Y8 E1) (h.lf.ex E1) (N1 ha.h);have V:=r1.r.viewD h2;refine b.ok (D:=AD D (Ad m A1)) (λv hv d hd'=>?_) (r1.r.dem m).dom e2 λy G2 E2 D2 N2=>?_
 ·have vi:v≠i:=by simpa using List.all_eq_true.mp hi.h v hv
  have e3:vw ((dm m ρ).set i (.ow ds)) v=some d:=by
   have:vw ((dm m ρ).set i (.ow ds)) v=vw (dm m ρ) v:=by
    unfold vw;rw [getElem?_set,if_neg (λz=>vi z.symm)]
   rw [this,qmV];exact hd'
  obtain ⟨t,y1,y2⟩:=V v hv d e3;rw [getElem?_set,if_neg (λz=>vi z.symm)] at y1;exact ⟨t,y1,y2⟩
 ·obtain ⟨A2,r2⟩:=(r1.dem hl'.1).putN hl'.2.2.1 hl'.2.2.2 rfl (Bk.Y8 E2) (r1.lf.ex E2) (N2 hb.h);exact k _ _ hq _ _ _ r2⟩
def qe6 {l:Nat} {t1 t2:TE3} {a:PuE t1} {b:PuE t2} {i j:Nat} {m:List Bool} {ha:Tru a.nw} {hb:Tru b.nw} {h1:Tru (a.fv.all (mkb m))} {h2:Tru (b.fv.all (mkb m))} {hi:Tru (b.fv.all (· != i))} {hl:Tru (!mkb m l&&((i != l&&i != 0)&&(j != l&&j != 0)))}:(qj5 (l:=l) a b i j m ha hb h1 h2 hi hl).w=λρ n Q=>∃ ds es,a.f ρ=some (.list ds)/\b.f ρ=some (.list es)/\Q (.nx ((dm m ((dm m ρ).set i (.ow ds))).set j (.ow es))) n:=id rfl
end Pu
namespace Pu
open PySem L2 L3
section
variable {D:Addr->Prop} {G0 G G':Gp} {A A':Nat->Option Addr} {τ:St3} {ρ:Rho}
end
def LC (d:PyData) (es:List PyData):Option PyData:=match d,es with
 |.tuple ds,[.int k]=>(YJ ds).bind λns=>if k∈ns then some (.int (List.idxOf k ns:Nat)) else none
 |_,_=>none
def qfD {te:TE3} {t:TA3} (b:PuE te) (a:PuA t):PuE (qbb te t):=⟨λρ=>(b.f ρ).bind λd=>(a.f ρ).bind λes=>LC d es,b.fv++a.fv,false,λhv hd hf k=>by
 obtain ⟨d,e1,hf⟩:=obb hf;obtain ⟨es,e2,hf⟩:=obb hf;unfold LC at hf;split at hf
 ·obtain ⟨ns,e3,hf⟩:=obb hf;split at hf
  ·rename_i hk;cases hf;have:=ER e3;subst this;refine b.ok hv.l hd e1 λx G1 E1 D1 _=>?_;cases D1 with
   |tup hs=>
    have:=hs.ints;subst this;refine ⟨trivial,a.ok (hv.r.up E1) (hd.up E1) e2 λys G2 E2 D2=>?_⟩;cases D2 with
    |cons y1 y2=>
     cases y1;cases y2;simp only [ET];exact ⟨hk,k _ _ (E1.trans E2) (.int _) (λz=>by cases z)⟩
  ·cases hf
 ·cases hf⟩
def S8 {te:TE3} {t:TA3} {b:PuE te} {a:PuA t}:(qfD b a).f=λρ=>(b.f ρ).bind λd=>(a.f ρ).bind λes=>LC d es:=id rfl
def qen {ns:List Int} {k:Int} (h:k∈ns):LC (.tuple (ns.map PyData.int)) [.int k]=some (.int (List.idxOf k ns:Nat)):=by
 simp only [LC,DC,Option.bind_some,if_pos h]
def qep (d:PyData):Option PyData:=match d with
 |.int k=>if 0<=k/\k<=1000000 then some (.list ((List.range k.toNat).map λ(i:Nat)=>PyData.int (i:Int))) else none
 |_=>none
def R6 {G:Gp}:∀ xs:List Nat,Dqs G (xs.map λ(i:Nat)=>T.int (i:Int)) (xs.map λ(i:Nat)=>PyData.int (i:Int))
 |[]=>.nil
 |x::xs=>.cons (.int _) (R6 xs)
def qmt {te:TE3} (a:PuE te):PuE (W8 te):=⟨λρ=>(a.f ρ).bind qep,a.fv,true,λ{D τ ρ G q d} hv hd hf k=>by
 obtain ⟨x,e1,hf⟩:=obb hf;unfold qep at hf;split at hf
 ·split at hf
  ·rename_i n hb;cases hf;refine a.ok hv hd e1 λx G1 E1 D1 _=>?_;cases D1;refine ⟨hb,λp gp=>?_⟩;have hdp:¬ D p:=λz=>(hd.up E1) p z gp;refine k _ _ (E1.trans (jP gp)) (.lst (by rw [jy hdp];exact qL) (R6 _)) λ_=>.inr ⟨p,_,_,rfl,rfl,?_,qL,R6 _⟩;cases z:G p with
   |none=>rfl
   |some o=>rw [E1 _ _ z] at gp;cases gp
  ·cases hf
 ·cases hf⟩
def qcO {te:TE3} {a:PuE te}:(qmt a).f=λρ=>(a.f ρ).bind qep:=id rfl
def evI (lo:Int) (n:Nat):List Int:=(List.range n).map λ(i:Nat)=>lo+(i:Int)*2
def qlV (lo:Int) (n:Nat):evT lo n=(evI lo n).map T.int:=by simp [evT,evI,map_map,Function.comp_def]
def evD:List PyData->Option (List PyData)
 |[.int i,.int j,.int k]=>cif (k=2/\(-(2 ^ 62)<=i/\i<2 ^ 62/\-(2 ^ 62)<=j/\j<2 ^ 62)) (some ((evI i ((j-i+1)/2).toNat).map PyData.int)) none
 |_=>none
def iEv {t:TA3} (a:PuA t):PuI (qnk t):=⟨λρ=>(a.f ρ).bind evD,a.fv,true,λ{D τ ρ G r ds} hv hd hf k=>by
 obtain ⟨d,e1,hf⟩:=obb hf;refine a.ok hv hd e1 λx G1 E1 D1=>?_;unfold evD at hf;split at hf
 ·unfold cif at hf;split at hf
  ·rename_i c;cases hf;cases D1 with
   |cons a b=>cases b with
    |cons a2 b=>cases b with
     |cons a3 b=>
      cases b;cases a;cases a2;cases a3;simp only;rw [qlV];exact ⟨c.1,c.2,k _ _ _ E1 (Dqs.ofInts _) (λ_ _=>trivial) λ_=>⟨_,rfl⟩⟩
  ·cases hf
 ·cases hf⟩
def qmQ {t:TA3} {a:PuA t}:(iEv a).f=λρ=>(a.f ρ).bind evD:=id rfl
def qnQ {n:Int} (h:0<=n/\n<=1000):evD [.int 0,.int n,.int 2]=some ((evI 0 ((n-0+1)/2).toNat).map PyData.int):=ze (by omega)
def NQ:List PyData->Option PyData
 |[.tuple xs]=>(YJ xs).bind λns=>cif (ns.length<64) (some (.list ((srt ns).map PyData.int))) none
 |_=>none
def qhm:FnD C8:=⟨NQ,true,λ{D G xs ds v q} hx hd hf k=>by
 unfold NQ at hf;split at hf
 ·obtain ⟨ns,e,hf⟩:=obb hf;unfold cif at hf;split at hf
  ·rename_i c;cases hf;cases hx with
   |cons a b=>
    cases b;cases a;rename_i hs;have:=ER e;subst this;have:=hs.ints;subst this;simp only [C8,ET];refine ⟨c,λl ms hl hp hs=>?_⟩;have:ms=srt ns:=W1 (hp.trans (T0 ns).symm) hs (qcJ ns);subst this;exact k _ _ (jP hl) (JD hd hl (Dqs.ofInts _)) λ_=>WE hl (Dqs.ofInts _)
  ·cases hf
 ·cases hf⟩
def qfb:qhm.f=NQ:=id rfl
def qgG {xs:List Int} (h:xs.length<64):NQ [.tuple (xs.map PyData.int)]=some (.list ((srt xs).map PyData.int)):=by simp only [NQ,DC,Option.bind_some];exact ze h
def RQ {G:Gp}:∀ {xs:List T} {ds:List PyData} (k:Nat),Dqs G xs ds->Dqs G (xs.eraseIdx k) (ds.eraseIdx k)
 |_,_,_,.nil=>by simp;exact .nil
 |_,_,0,.cons a b=>b
 |_,_,k+1,.cons a b=>.cons a (RQ k b)
def M4 {l:Nat} {t:TE3} (x:PwE l t) (i j:Nat) (m:List Bool) (hm:Tru (x.fv.all (mkb m))) (hl:Tru (!mkb m l)):PwS l (NC (bm3 qfx (v3 i) (qc (bm3 qgn (v3 j) (qc t ql)) ql))):=
  ⟨λρ n Q=>i≠j/\∃ ds es,slot ρ i=some ds/\slot ρ j=some es/\ds.length<16777216/\x.w ρ n λd n1=>∃ (k:Nat) (e:PyData),d=.int (k:Int)/\es[k]?=some e/\Q (.nx ((ρ.set j (.ow (es.eraseIdx k))).set i (.ow (ds++[e])))) n1,
   λ⟨h0,ds,es,h1,h2,h3,h4⟩ k=>⟨h0,ds,es,h1,h2,h3,x.mono h4 λd n1 ⟨kk,e,a,b,c⟩=>⟨kk,e,a,b,k _ _ c⟩⟩,
   λ{a z0 D G0 A τ ρ G n e Q} h ⟨h0,ds,es,h1,h2,h3,hw⟩ k=>by
    have hl':mkb m l=false:=by simpa using hl.h
    obtain ⟨p,xs,b,c,g,f⟩:=h.r.ow i _ (ZB h1);obtain ⟨p',ys,b',c',g',f'⟩:=h.r.ow j _ (ZB h2);simp only [NC,bm3,v3,qc,c,c',zy g,zy g'];refine ⟨rfl,rfl,h.evalS x m hm hl' hw _ λy d G1 n1 A1 ⟨kk,e',hd,he,hq⟩ r E1 D1=>?_⟩;subst hd;cases D1;have r':RL l a z0 D G0 A1 τ ρ G1 n1:=r;obtain ⟨p1,xs1,b1,c1,g1,f1⟩:=r'.r.ow i _ (ZB h1);obtain ⟨p2,ys2,b2,c2,g2,f2⟩:=r'.r.ow j _ (ZB h2);rw [c] at c1;cases c1;rw [c'] at c2;cases c2;obtain ⟨t,ht,dt⟩:=f2.get he;simp only [ql,qgn,g2,Int.toNat_natCast,ht];refine ⟨by omega,?_⟩;have r2:=r'.wr (ZB h2) b2 c' (RQ kk f2);have X:Ex (rs (AD D A1) G1) (rs (AD D A1) (gu G1 p' (.lst (ys2.eraseIdx kk)))):=λb o hb=>by
      obtain ⟨nb,e⟩:=qw hb;rw [jy nb,jF (λz=>nb (.inr ⟨j,by rw [z];exact b2⟩))];exact e
    have sl2:slot (ρ.set j (.ow (es.eraseIdx kk))) i=some ds:=by
      unfold slot;rw [List.getElem?_set_ne (Ne.symm h0)];exact h1
    obtain ⟨p3,xs3,b3,c3,g3,f3⟩:=r2.r.ow i _ (ZB sl2);rw [c] at c3;cases c3;simp only [qfx,g3];exact ⟨by rw [f3.length,sizeLine_eq];exact h3,k _ _ hq _ _ _ (r2.wr (ZB sl2) b3 c (f3.append (.cons (dt.up X) .nil)))⟩⟩
def qaX {l:Nat} {t:TE3} {x:PwE l t} {i j:Nat} {m:List Bool} {hm:Tru (x.fv.all (mkb m))} {hl:Tru (!mkb m l)}:(M4 x i j m hm hl).w=λρ n Q=>i≠j/\∃ ds es,slot ρ i=some ds/\slot ρ j=some es/\ds.length<16777216/\x.w ρ n λd n1=>∃ (k:Nat) (e:PyData),d=.int (k:Int)/\es[k]?=some e/\Q (.nx ((ρ.set j (.ow (es.eraseIdx k))).set i (.ow (ds++[e])))) n1:=id rfl
end Pu
namespace Pv
open PySem L2 L3 Pu
def qN {lo:Int} {n i:Nat} {x:Int} (h:(YH lo n)[i]?=some x):i<n/\x=lo+i:=by
 unfold YH at h;rw [getElem?_map] at h;obtain ⟨k,e1,e2⟩:=Option.map_eq_some_iff.mp h;obtain ⟨hl,hk⟩:=List.getElem?_eq_some_iff.mp e1;simp at hl hk;subst hk;exact ⟨hl,e2.symm⟩
def qp (lo:Int) (n:Nat):(YH lo n).length=n:=by simp [YH]
def qb1 {n m:Int} (hn:0<=n) (hm:0<=m):Builtin.bitAnd n m=2*Builtin.bitAnd (n/2) (m/2)+n%2*(m%2):=by
 rw [PySem.W.kbt_halves n m];have h1:n%2=0\/n%2=1:=by omega
 have h2:m%2=0\/m%2=1:=by omega
 rcases h1 with h1|h1<;>rcases h2 with h2|h2<;>simp [h1,h2]
def qcd {x y:Int} (hx:0<=x) (hy:0<=y):0<=Builtin.bitXor x y/\Builtin.bitXor x y%2=(x%2+y%2)%2/\Builtin.bitXor x y/2=Builtin.bitXor (x/2) (y/2):=by
 have a:=qb1 hx hy;have b:=PyProof.Rows.bitXor_and x y;have c:=PyProof.Rows.bitXor_and (x/2) (y/2);have r:=PyProof.Rows.bitAnd_range (x/2) (show 0<=y/2 by omega);have r2:=PyProof.Rows.bitAnd_range (y/2) (show 0<=x/2 by omega);have h1:x%2=0\/x%2=1:=by omega
 have h2:y%2=0\/y%2=1:=by omega
 have p:x%2*(y%2)=0/\(x%2=0\/y%2=0)\/x%2*(y%2)=1/\x%2=1/\y%2=1:=by rcases h1 with h1|h1<;>rcases h2 with h2|h2<;>simp [h1,h2]
 have s:=PyProof.Rows.bitAnd_range x hy;have cm:Builtin.bitAnd x y=Builtin.bitAnd y x:=by
  have:=PyProof.Rows.bitXor_and y x;exact PyProof.Rows.bitAnd_comm x y
 have s2:=PyProof.Rows.bitAnd_range y hx;omega
end Pv
namespace Hd
open PySem L2 L3 PySem.W
def oF (x:Str) (st:Stmt) (pm cd:Value):Obj:=⟨.type "function",none,.func (PySem.W.fnOf x x (ZX st) (jg st) (qi st) .none .none .none pm none cd .none),#[]⟩
def oG (x:Str) (st:Stmt):Obj:=⟨.none,none,.func { name:=x,qualname:=x,params:=ZX st,body:=.stmts (jg st),scope:=qi st,globals:=0,closure:=[],defaults:=.none,kwdefaults:=.none },#[]⟩
def oC (vs:List Value):Obj:=⟨.type "code",none,.fields vs.toArray,#[]⟩
def oT (vs:List Value):Obj:=⟨.type "tuple",none,.seq vs.toArray 0,#[]⟩
def eD (P:Params):Value×Value->DictEntry
 | (.str x t,v)=>⟨PyData.keyHash P x,.str x t,v⟩
 | (u,v)=>⟨0,u,v⟩
def oD (P:Params) (n:Nat) (es:List (Value×Value)):Obj:=⟨.type "dict",none,.dict (es.map (eD P)).toArray n,#[]⟩
def oK (x:Str) (t l n m:Nat) (a b:Addr) (u v z:Value) (e y q:Nat):Obj:=oC [.str x t,.str x (t+1),.str "/claim/cut.py" (t+2),.int l 0,.int n 0,.int 0 0,.int 0 0,.int 3 0,.ref a,.bool true,.int m 0,.ref b,u,v,z,.ref e,.int y 0,.int l 0,.str "/claim/cut.py" q]
def nmV:List Str->Nat->List Value
 |[],_=>[]
 |x::r,t=>.str x t::nmV r (t+1)
def oN (xs:List Str) (t:Nat):Obj:=oT (nmV xs t)
abbrev nd (o:Obj) (l r:PySem.W.BT):PySem.W.BT:=.node o l r
abbrev lf (o:Obj):PySem.W.BT:=.node o .nil .nil
def jH {K:Frg} (x:Str) (st:Stmt) (f:Addr) (pm cd:Value) (l:K.lookup f=some (oF x st pm cd)) (c:PySem.W.codeIn K cd x=true) (k:PySem.W.keepIn K (.ref f)=true) :
  Fun K x x st f (PySem.W.fnOf x x (ZX st) (jg st) (qi st) .none .none .none pm none cd .none):=qjG l c k
def jI {K:Frg} {h:Heap} {mg:Str->Option Value} (X:K.In h) (G:h.Ns mainGlobals mg) (n:Str) (v:Value) (e:PySem.W.nsIn K mainGlobals n=some (some v)):mg n=some v:=PySem.W.mg_of X G e
def VI {K:Frg} {h:Heap} {mg:Str->Option Value} (X:K.In h) (G:h.Ns mainGlobals mg) (n:Str) (e:PySem.W.nsIn K mainGlobals n=some none):mg n=none:=PySem.W.mg_none_of X G e
def head {l:OpenLaw} {q:Program} {loose:List Str} {K:Params->Frag} {as:List Addr} {d:DefRec} {N:Nat} {k:Nat} {x:Str} (ha:∀ P,as=(K P).map (·.1))
  (ok:l.wellSaid=true)
  (left:LeftO l.prog q loose (λs=>xlAt q [] s&&recOk [] s) (λs=>as.map s.heap.get?) (λw=>(K w.params).map λp=>some p.2) N)
  (hdef:defOf q l.name=some (d,[])) (hp:l.prog.theDef l.name=some (d.params,d.body,d.scope)) (hk:kwWritten? d.params.kwonlyargs d.params.kw_defaults=some [])
  (hwr:(!l.row.writes||l.row.records.isEmpty)=true) (ok2:(chainsOk q&&opensWell l.prog&&(frees l.row.toRowW&&l.row.within.isEmpty))=true) (hb:l.prog.bare) (hw:l.row.toRowW.promised)
  (hn:l.most=some 63) (hdf:d.params.defaults=[]) (hr:Room k callerA) (hK:∀ w:World,UC (K w.params)=true)
  (F:∀ (w:World) (mg:Str->Option Value) (fa:Addr) (h:Heap),(K w.params).In h->h.Ns mainGlobals mg->mg d.name=some (.ref fa) ->
   ∃ fd:FuncData,(∀ (s:Shared) (u:Value),BindsTo s fd ⟨[u],[]⟩ [(x,u)])/\∀ base:Heap,(K w.params).In base->base.Ns mainGlobals mg->FnOk l.prog w (K w.params) mg base CX0 k fa fd [x] (lSp (K w.params) WG)):l.Holds:=by
 refine holds_law ok λsaid=>?_;exact holds_open (q:=q) (loose:=loose) (Xt:=λs=>xlAt q [] s&&recOk [] s) (XP:=XL q []) (Yf:=Hook.obs (kHook K as ha)) (Ya:=Hook.val (kHook K as ha)) (YP:=Hook.says (kHook K as ha)) (N:=N) left
  (Hook.of (kHook K as ha)) (Hook.keeps (kHook K as ha)) (λs e=>xl_of s (Bool.and_eq_true_iff.mp e).1) XL.keeps hdef hp hk (λs e=>recFacts_of (Bool.and_eq_true_iff.mp e).2) hwr said ok2 hb hw
  (L3.qmf (l:=l) (k:=k) (x:=x) hn hdf hr (λw h Y=>kIn_of Y) hK F)
end Hd
namespace L3
open PySem PySem.Spec PyProof.Rows L2
end L3
namespace Hd
open PySem PySem.Spec PyProof.Rows L2 L3 PySem.W
end Hd
namespace Pu
open PySem L2 L3
end Pu
namespace Ben
structure Inv2 (N:Nat) (a:Nat->Nat):Prop where
 lt:∀ {x},x<N->a x<N
 two:∀ {x},x<N->a (a x)=x
 ne:∀ {x},x<N->a x≠x
section
variable {N:Nat} {a b:Nat->Nat} (ha:Inv2 N a) (hb:Inv2 N b)
def Inv2.inj {N:Nat} {a:Nat->Nat} (h:Inv2 N a) {x y:Nat} (hx:x<N) (hy:y<N) (e:a x=a y):x=y:=by
 rw [← h.two hx,← h.two hy,e]
def qbG (N:Nat) (a b:Nat->Nat) (c:Nat->Option Nat):Prop:=∀ x,x<N->∀ v,c x=some v->v<2/\c (a x)=some (1-v)/\c (b x)=some (1-v)
def ks (a b:Nat->Nat) (k:Nat):Nat->Nat
 |0=>k
 |i+1=>b (a (ks a b k i))
structure St (N:Nat) (a b:Nat->Nat) (c0:Nat->Option Nat) (k:Nat) (i:Nat) (c:Nat->Option Nat):Prop where
 lt:∀ j,j<=i->ks a b k j<N
 new:∀ j,j<i->c0 (ks a b k j)=none
 dis:∀ j l,j<i->l<i->ks a b k j≠a (ks a b k l)
 inj:∀ j l,j<i->l<i->ks a b k j=ks a b k l->j=l
 on:∀ j,j<i->c (ks a b k j)=some 0/\c (a (ks a b k j))=some 1
 off:∀ x,(∀ j,j<i->x≠ks a b k j/\x≠a (ks a b k j))->c x=c0 x
def St.zero {c0:Nat->Option Nat} {k:Nat} (hk:k<N):St N a b c0 k 0 c0:=
 ⟨λj hj=>by obtain rfl:j=0:=(by omega);exact hk,λj hj=>absurd hj (Nat.not_lt_zero j),λj l hj=>absurd hj (Nat.not_lt_zero j),λj l hj=>absurd hj (Nat.not_lt_zero j),λj hj=>absurd hj (Nat.not_lt_zero j),λx _=>rfl⟩
def up (c:Nat->Option Nat) (x v:Nat):Nat->Option Nat:=λy=>if y=x then some v else c y
def SE {c:Nat->Option Nat} {x v:Nat}:up c x v x=some v:=if_pos rfl
def C6 {c:Nat->Option Nat} {x v y:Nat} (h:y≠x):up c x v y=c y:=if_neg h
include ha hb in
def St.step {c0 c:Nat->Option Nat} {k i:Nat} (s:St N a b c0 k i c) (h:c (ks a b k i)=none):St N a b c0 k (i+1) (up (up c (ks a b k i) 0) (a (ks a b k i)) 1):=by
 have li:=s.lt i (Nat.le_refl _);have fr:∀ j,j<i->ks a b k i≠ks a b k j/\ks a b k i≠a (ks a b k j):=λj hj=>by
  constructor
  ·intro e;rw [e,(s.on j hj).1] at h;cases h
  ·intro e;rw [e,(s.on j hj).2] at h;cases h
 refine ⟨λj hj=>?_,λj hj=>?_,λj l hj hl=>?_,λj l hj hl e=>?_,λj hj=>?_,λx hx=>?_⟩
 ·rcases Nat.lt_or_ge j (i+1) with z|z
  ·exact s.lt j (by omega)
  ·have:j=i+1:=by omega
   subst this;exact hb.lt (ha.lt li)
 ·rcases Nat.lt_or_ge j i with z|z
  ·exact s.new j z
  ·have:j=i:=by omega
   subst this;rw [← s.off _ fr];exact h
 ·rcases Nat.lt_or_ge j i with z|z
  ·rcases Nat.lt_or_ge l i with y|y
   ·exact s.dis j l z y
   ·have:l=i:=by omega
    subst this;intro e;have lj:=s.lt j (by omega);have e2:a (ks a b k j)=ks a b k l:=by rw [e,ha.two li]
    exact (fr j z).2 e2.symm
  ·have:j=i:=by omega
   subst this;rcases Nat.lt_or_ge l j with y|y
   ·exact (fr l y).2
   ·have:l=j:=by omega
    subst this;exact λe=>ha.ne li e.symm
 ·rcases Nat.lt_or_ge j i with z|z
  ·rcases Nat.lt_or_ge l i with y|y
   ·exact s.inj j l z y e
   ·have:l=i:=by omega
    subst this;exact absurd e.symm (fr j z).1
  ·have:j=i:=by omega
   subst this;rcases Nat.lt_or_ge l j with y|y
   ·exact absurd e (fr l y).1
   ·omega
 ·rcases Nat.lt_or_ge j i with z|z
  ·have n1:ks a b k j≠a (ks a b k i):=λe=>by
    have e2:a (ks a b k j)=ks a b k i:=by rw [e,ha.two li]
    exact (fr j z).2 e2.symm
   have n2:a (ks a b k j)≠a (ks a b k i):=λe=>(fr j z).1 (ha.inj (s.lt j (by omega)) li e).symm;exact ⟨by rw [C6 n1,C6 (fr j z).1.symm];exact (s.on j z).1,by rw [C6 n2,C6 (fr j z).2.symm];exact (s.on j z).2⟩
  ·have:j=i:=by omega
   subst this;exact ⟨by rw [C6 (λe=>ha.ne li e.symm)];exact SE,SE⟩
 ·rw [C6 (hx i (by omega)).2,C6 (hx i (by omega)).1];exact s.off x λj hj=>hx j (by omega)
include ha hb in
def St.done {c0 c:Nat->Option Nat} {k i:Nat} (g:qbG N a b c0) (s:St N a b c0 k i c) (h:c (ks a b k i)≠none):qbG N a b c/\c k≠none/\∀ x,c0 x≠none->c x≠none:=by
 have li:=s.lt i (Nat.le_refl _);have keep:∀ x,c0 x≠none->c x≠none:=λx hx=>by
  by_cases z:∃ j,j<i/\(x=ks a b k j\/x=a (ks a b k j))
  ·obtain ⟨j,hj,rfl|rfl⟩:=z
   ·rw [(s.on j hj).1];simp
   ·rw [(s.on j hj).2];simp
  ·rw [s.off x λj hj=>⟨λe=>z ⟨j,hj,.inl e⟩,λe=>z ⟨j,hj,.inr e⟩⟩];exact hx
 cases i with
 |zero=>
  have e:c=c0:=funext λx=>s.off x λj hj=>absurd hj (Nat.not_lt_zero j);subst e;exact ⟨g,h,keep⟩
 |succ i=>
  have lp:=s.lt i (by omega);have la:=ha.lt lp;have hk:ks a b k (i+1)=b (a (ks a b k i)):=rfl;have old:∀ x,x<N->c0 x≠none->c0 (a x)≠none/\c0 (b x)≠none:=λx hx hc=>by
   cases e:c0 x with
   |none=>exact absurd e hc
   |some v=>
    obtain ⟨_,h1,h2⟩:=g x hx v e;exact ⟨by rw [h1];simp,by rw [h2];simp⟩
  have back:ks a b k (i+1)=k:=by
   by_cases z:∃ j,j<i+1/\(ks a b k (i+1)=ks a b k j\/ks a b k (i+1)=a (ks a b k j))
   ·obtain ⟨j,hj,e|e⟩:=z
    ·cases j with
     |zero=>exact e
     |succ j=>
      have e2:b (a (ks a b k i))=b (a (ks a b k j)):=e;have lj:=s.lt j (by omega);have:=ha.inj lp lj (hb.inj la (ha.lt lj) e2);have:=s.inj i j (by omega) (by omega) this;omega
    ·exfalso;have lj:=s.lt j (by omega);have e2:a (ks a b k i)=b (a (ks a b k j)):=by rw [← e,hk,hb.two la]
     rcases Nat.lt_or_ge j i with y|y
     ·exact s.dis (j+1) i (by omega) (by omega) e2.symm
     ·have:j=i:=by omega
      subst this;exact hb.ne la e2.symm
   ·exfalso;have e0:c (ks a b k (i+1))=c0 (ks a b k (i+1)):=s.off _ λj hj=>⟨λe=>z ⟨j,hj,.inl e⟩,λe=>z ⟨j,hj,.inr e⟩⟩
    rw [e0] at h;have h1:=(old _ li h).2;rw [hk,hb.two la] at h1;have h2:=(old _ la h1).1;rw [ha.two lp] at h2;exact h2 (s.new i (by omega))
  refine ⟨λx hx v hv=>?_,by rw [← back];exact h,keep⟩;have nxt:∀ j,j<i+1->c (b (a (ks a b k j)))=some 0:=λj hj=>by
   show c (ks a b k (j+1))=some 0;rcases Nat.lt_or_ge (j+1) (i+1) with y|y
   ·exact (s.on (j+1) y).1
   ·have:j=i:=by omega
    subst this;rw [back];exact (s.on 0 (by omega)).1
  by_cases z:∃ j,j<i+1/\(x=ks a b k j\/x=a (ks a b k j))
  ·obtain ⟨j,hj,rfl|rfl⟩:=z
   ·rw [(s.on j hj).1] at hv;cases hv;refine ⟨by omega,(s.on j hj).2,?_⟩;have lj:=s.lt j (by omega);cases j with
    |zero=>
     have:b k=a (ks a b k i):=by
      have e:=congrArg b back;rw [hk,hb.two la] at e;exact e.symm
     show c (b k)=some 1;rw [this];exact (s.on i (by omega)).2
    |succ j=>
     have lj':=s.lt j (by omega);show c (b (b (a (ks a b k j))))=some 1;rw [hb.two (ha.lt lj')];exact (s.on j (by omega)).2
   ·rw [(s.on j hj).2] at hv;cases hv;have lj:=s.lt j (by omega);refine ⟨by omega,?_,nxt j hj⟩;rw [ha.two lj];exact (s.on j hj).1
  ·have e0:c x=c0 x:=s.off x λj hj=>⟨λe=>z ⟨j,hj,.inl e⟩,λe=>z ⟨j,hj,.inr e⟩⟩
   rw [e0] at hv;obtain ⟨h1,h2,h3⟩:=g x hx v hv;have same:∀ y,c0 y≠none->c y=c0 y:=λy hy=>by
    refine s.off y λj hj=>?_;have lj:=s.lt j (by omega);constructor
    ·rintro rfl;exact hy (s.new j hj)
    ·rintro rfl;have:=(old _ (ha.lt lj) hy).1;rw [ha.two lj] at this;exact this (s.new j hj)
   exact ⟨h1,by rw [same _ (by rw [h2];simp)];exact h2,by rw [same _ (by rw [h3];simp)];exact h3⟩
def cs (a b:Nat->Nat) (c0:Nat->Option Nat) (k:Nat):Nat->Nat->Option Nat
 |0=>c0
 |i+1=>up (up (cs a b c0 k i) (ks a b k i) 0) (a (ks a b k i)) 1
include ha hb in
def qe2 {c0:Nat->Option Nat} {k:Nat} (hk:k<N):∀ i,(∀ j,j<i->cs a b c0 k j (ks a b k j)=none)->St N a b c0 k i (cs a b c0 k i)
 |0,_=>St.zero hk
 |i+1,h=>(qe2 hk i λj hj=>h j (by omega)).step ha hb (h i (by omega))
def qav:∀ (N i:Nat) (f:Nat->Nat),(∀ j,j<i->f j<N)->(∀ j l,j<i->l<i->f j=f l->j=l)->i<=N
 |0,i,f,h1,h2=>by
  rcases Nat.eq_zero_or_pos i with z|z
  ·omega
  ·exact absurd (h1 0 z) (Nat.not_lt_zero _)
 |N+1,i,f,h1,h2=>by
  by_cases z:∃ j,j<i/\f j=N
  ·obtain ⟨j0,hj0,e0⟩:=z;have:=qav N (i-1) (λj=>f (if j<j0 then j else j+1)) (λj hj=>by
    have lt:(if j<j0 then j else j+1)<i:=by split<;>omega
    have l1:=h1 _ lt;have ne:f (if j<j0 then j else j+1)≠N:=λe=>by
     have:=h2 _ _ lt hj0 (e.trans e0.symm);split at this<;>omega
    skip
    omega) (λj l hj hl e=>by
    have l1:(if j<j0 then j else j+1)<i:=by split<;>omega
    have l2:(if l<j0 then l else l+1)<i:=by split<;>omega
    have:=h2 _ _ l1 l2 e;split at this<;>split at this<;>omega)
   omega
  ·have:=qav N i f (λj hj=>by
    have:=h1 j hj;have ne:f j≠N:=λe=>z ⟨j,hj,e⟩;omega) h2
   omega
def qlO {P:Nat->Prop}:∀ n,P n->∃ m,m<=n/\P m/\∀ j,j<m->¬ P j:=by
 intro n;induction n using Nat.strongRecOn with
 |ind n ih=>
  intro h;by_cases z:∃ j,j<n/\P j
  ·obtain ⟨j,hj,hp⟩:=z;obtain ⟨m,h1,h2,h3⟩:=ih j hj hp;exact ⟨m,by omega,h2,h3⟩
  ·exact ⟨n,Nat.le_refl _,h,λj hj hp=>z ⟨j,hj,hp⟩⟩
include ha hb in
def qi9 {c0:Nat->Option Nat} {k:Nat} (hk:k<N) (g:qbG N a b c0):∃ n,n<=N/\(∀ i,i<n->cs a b c0 k i (ks a b k i)=none)/\(∀ i,i<=n->ks a b k i<N)/\cs a b c0 k n (ks a b k n)≠none/\qbG N a b (cs a b c0 k n)/\cs a b c0 k n k≠none/\∀ x,c0 x≠none->cs a b c0 k n x≠none:=by
 have ex:∃ n,n<=N/\cs a b c0 k n (ks a b k n)≠none:=by
  apply Classical.byContradiction;intro z;have all:∀ n,n<=N->cs a b c0 k n (ks a b k n)=none:=λn hn=>by
   apply Classical.byContradiction;intro y;exact z ⟨n,hn,y⟩
  have s:=qe2 ha hb (c0:=c0) hk (N+1) λj hj=>all j (by omega);have:=qav N (N+1) (ks a b k) (λj hj=>s.lt j (by omega)) s.inj;omega
 obtain ⟨n0,h0,h1⟩:=ex;obtain ⟨n,h2,h3,h4⟩:=qlO (P:=λn=>cs a b c0 k n (ks a b k n)≠none) n0 h1;have nn:∀ i,i<n->cs a b c0 k i (ks a b k i)=none:=λi hi=>by
  apply Classical.byContradiction;intro y;exact h4 i hi y
 have s:=qe2 ha hb (c0:=c0) hk n nn;obtain ⟨d1,d2,d3⟩:=s.done ha hb g h3;exact ⟨n,by omega,nn,s.lt,h3,d1,d2,d3⟩
end
def x1 (k:Nat):Nat:=k ^^^ 1
def qgf (k:Nat):x1 k/2=k/2:=by
 unfold x1;rw [Nat.xor_div_two];simp
def qgj (k:Nat):x1 k%2=(k+1)%2:=by
 unfold x1;have h:=Nat.testBit_xor (x:=k) (y:=1) (i:=0);rw [Nat.testBit_zero,Nat.testBit_zero,Nat.testBit_zero] at h;rcases Nat.mod_two_eq_zero_or_one k with z|z<;>rcases Nat.mod_two_eq_zero_or_one (k ^^^ 1) with y|y<;>rw [z,y] at h<;>first|omega|(exfalso;revert h;decide)
def qif (t:Nat):x1 (2*t)=2*t+1:=by have:=qgf (2*t);have:=qgj (2*t);omega
def qn7 (t:Nat):x1 (2*t+1)=2*t:=by have:=qgf (2*t+1);have:=qgj (2*t+1);omega
def T2 (h:Nat):Inv2 (2*h) x1:=
 ⟨λ{x} hx=>by have:=qgf x;omega,λ{x} hx=>by have:=qgf x;have:=qgj x;have:=qgf (x1 x);have:=qgj (x1 x);omega,λ{x} hx=>by have:=qgj x;intro e;rw [e] at this;omega⟩
structure Pm (N:Nat) (o v:Nat->Nat):Prop where
 lt:∀ {x},x<N->o x<N
 ilt:∀ {y},y<N->v y<N
 vo:∀ {x},x<N->v (o x)=x
 ov:∀ {y},y<N->o (v y)=y
def bb (o v:Nat->Nat) (x:Nat):Nat:=v (x1 (o x))
def MG {h:Nat} {o v:Nat->Nat} (p:Pm (2*h) o v):Inv2 (2*h) (bb o v):=by
 have X:=T2 h;refine ⟨λ{x} hx=>p.ilt (X.lt (p.lt hx)),λ{x} hx=>?_,λ{x} hx e=>?_⟩
 ·unfold bb;rw [p.ov (X.lt (p.lt hx)),X.two (p.lt hx),p.vo hx]
 ·have:=congrArg o e;unfold bb at this;rw [p.ov (X.lt (p.lt hx))] at this;exact X.ne (p.lt hx) this
structure Pt (h:Nat) (o v c:Nat->Nat):Prop where
 two:∀ {x},x<2*h->c x<2
 a:∀ {x},x<2*h->c (x1 x)=1-c x
 b:∀ {x},x<2*h->c (bb o v x)=1-c x
section
variable {h:Nat} {o v c:Nat->Nat} (p:Pm (2*h) o v) (q:Pt h o v c)
def kap (c:Nat->Nat) (s t:Nat):Nat:=if c (2*t)=s then 2*t else 2*t+1
def oS (o c:Nat->Nat) (s t:Nat):Nat:=o (kap c s t)/2
def vK (v c:Nat->Nat) (s y:Nat):Nat:=if c (v (2*y))=s then v (2*y) else v (2*y+1)
def vS (v c:Nat->Nat) (s y:Nat):Nat:=vK v c s y/2
include q in
def qaS {s t:Nat} (hs:s<2) (ht:t<h):kap c s t<2*h/\kap c s t/2=t/\c (kap c s t)=s:=by
 have h2:=q.two (x:=2*t) (by omega);have ha:=q.a (x:=2*t) (by omega);rw [qif] at ha;unfold kap;split
 ·exact ⟨by omega,by omega,by assumption⟩
 ·exact ⟨by omega,by omega,by omega⟩
include q in
def qdn {k:Nat} (hk:k<2*h):kap c (c k) (k/2)=k:=by
 have ha:=q.a (x:=2*(k/2)) (by omega);have h2:=q.two (x:=2*(k/2)) (by omega);rw [qif] at ha;unfold kap;rcases Nat.mod_two_eq_zero_or_one k with z|z
 ·have e:2*(k/2)=k:=by omega
  rw [e];simp
 ·have e:2*(k/2)+1=k:=by omega
  rw [e] at ha ⊢;split
  ·omega
  ·rfl
include p q in
def qiu {s y:Nat} (hs:s<2) (hy:y<h):vK v c s y<2*h/\c (vK v c s y)=s/\o (vK v c s y)/2=y:=by
 have l1:=p.ilt (y:=2*y) (by omega);have l2:=p.ilt (y:=2*y+1) (by omega);have o1:=p.ov (y:=2*y) (by omega);have o2:=p.ov (y:=2*y+1) (by omega);have hb:=q.b l1;have h2:=q.two l1;unfold bb at hb;rw [o1,qif] at hb;unfold vK;split
 ·exact ⟨l1,by assumption,by omega⟩
 ·exact ⟨l2,by omega,by omega⟩
include p q in
def Pm.side {s:Nat} (hs:s<2):Pm h (oS o c s) (vS v c s):=by
 refine ⟨λ{t} ht=>?_,λ{y} hy=>?_,λ{t} ht=>?_,λ{y} hy=>?_⟩
 ·obtain ⟨k1,k2,k3⟩:=qaS q hs ht;have:=p.lt k1;unfold oS;omega
 ·obtain ⟨k1,_⟩:=qiu p q hs hy;unfold vS;omega
 ·obtain ⟨k1,k2,k3⟩:=qaS q hs ht;have l:=p.lt k1;have hb:=q.b k1;have h2:=q.two k1;unfold bb at hb;unfold vS vK oS;generalize kap c s t=k at *;rcases Nat.mod_two_eq_zero_or_one (o k) with z|z
  ·have e:2*(o k/2)=o k:=by omega
   rw [e,p.vo k1,if_pos k3];exact k2
  ·have e:2*(o k/2)+1=o k:=by omega
   have e2:x1 (o k)=2*(o k/2):=by
    have:=qn7 (o k/2);rw [e] at this;exact this
   rw [e2] at hb;rw [if_neg (by omega),e,p.vo k1];exact k2
 ·obtain ⟨k1,k2,k3⟩:=qiu p q hs hy;unfold oS vS;have:=qdn q k1;rw [k2] at this;rw [this];exact k3
end
inductive Nt where
 |leaf (b:Nat)
 |node (f:List Nat) (u l:Nt) (g:List Nat)
def bt (f:List Nat) (k:Nat):Nat:=f.getD k 0
def Nt.Ok:Nat->Nt->Prop
 |0,.leaf b=>b<2
 |m+1,.node f u l g=>f.length=2 ^ (m+1)/\g.length=2 ^ (m+1)/\(∀ s∈f,s<2)/\(∀ s∈g,s<2)/\Nt.Ok m u/\Nt.Ok m l
 |_,_=>False
def Nt.lane:Nt->Nat->Nat
 |.leaf b,k=>(k+b)%2
 |.node f u l g,k=>2*(if (k+bt f (k/2))%2=0 then u.lane (k/2) else l.lane (k/2))+((k+bt f (k/2))%2+bt g (if (k+bt f (k/2))%2=0 then u.lane (k/2) else l.lane (k/2)))%2
def qd0 {h t:Nat} {f:Nat->Nat} (ht:t<h):bt ((List.range h).map f) t=f t:=by
 unfold bt;simp [ht]
def RP {h:Nat} {o v c:Nat->Nat} (p:Pm (2*h) o v) (q:Pt h o v c) {u l:Nt} (hu:∀ t,t<h->u.lane t=oS o c 0 t) (hl:∀ t,t<h->l.lane t=oS o c 1 t) {k:Nat} (hk:k<2*h) :
  (Nt.node ((List.range h).map λt=>c (2*t)) u l ((List.range h).map λt=>c (v (2*t)))).lane k=o k:=by
 have t2:k/2<h:=by omega
 have ck:=q.two hk;have ha:=q.a (x:=2*(k/2)) (by omega);have h2:=q.two (x:=2*(k/2)) (by omega);rw [qif] at ha;have side:(k+c (2*(k/2)))%2=c k:=by
  rcases Nat.mod_two_eq_zero_or_one k with z|z
  ·have e:2*(k/2)=k:=by omega
   rw [e] at h2 ⊢;omega
  ·have e:2*(k/2)+1=k:=by omega
   rw [e] at ha;omega
 have at':(if c k=0 then u.lane (k/2) else l.lane (k/2))=o k/2:=by
  have kk:=qdn q hk;split
  ·rename_i z;rw [hu _ t2];unfold oS;rw [z] at kk;rw [kk]
  ·rename_i z;have z1:c k=1:=by omega
   rw [hl _ t2];unfold oS;rw [z1] at kk;rw [kk]
 have ol:=p.lt hk;have lst:(c k+c (v (2*(o k/2))))%2=o k%2:=by
  have hb:=q.b hk;unfold bb at hb;rcases Nat.mod_two_eq_zero_or_one (o k) with z|z
  ·have e:2*(o k/2)=o k:=by omega
   rw [e,p.vo hk];omega
  ·have e:2*(o k/2)+1=o k:=by omega
   have e2:x1 (o k)=2*(o k/2):=by
    have:=qn7 (o k/2);rw [e] at this;exact this
   rw [e2] at hb;omega
 simp only [Nt.lane];rw [qd0 t2,side,at',qd0 (show o k/2<h by omega),lst];omega
end Ben
namespace K60
open PySem L2 L3 Bk
def top (i : Nat) : Stmt := PySem.Challenge.pw_bankwalk_k60_whole_nets_spoilt_anywhere.main.body.getD i (.Pass ⟨0,0,0,0⟩)
variable {P:Program} {w:World} {K:Frg} {mg:Str->Option Value} {base:Heap} {f:Addr} {fd:FuncData} {k:Nat} {sp:Sp3}
abbrev jz:Stmt:=top 1
abbrev Q8:List Str:=["thing"]
abbrev YM:List Str:=["thing"]
def CT:FnScope Q8 YM (qi jz):=⟨rfl,rfl,rfl,by decide +kernel,rfl,by decide +kernel,by decide +kernel⟩
def RU (F:Fun K "is_number" "is_number" jz f fd) (bd:zJ K fd YM []) (hm:mg "is_number" = some (.ref f))   (m_isinstance:mg "isinstance" = none) (m_bool:mg "bool" = none) (m_int:mg "int" = none)
  (read:Rd sp 1 (Bk.ZQ) Q8):Fn3 P w K mg base (k+1) "is_number" sp:=
 qM (t3:=(Bk.ZQ)) F CT bd hm (λcdv A outer s H E hr=>(qm (qr (QI (zM (qb 0) rfl m_isinstance rfl m_int PyProof.Rows.boot_int) (YF (NJ (zM (qb 0) rfl m_isinstance rfl m_bool PyProof.Rows.boot_bool))))))) read
abbrev zb:Stmt:=top 2
abbrev zh:List Str:=["thing","end"]
abbrev jp:List Str:=["thing","end"]
def VO:FnScope zh jp (qi zb):=⟨rfl,rfl,rfl,by decide +kernel,rfl,by decide +kernel,by decide +kernel⟩
def zI (S_is_number:Sp3):TS3:=(zz (ZM (cb3 S_is_number (qc (v3 0) ql)) (ch3 (iB λi j=>decide (i<=j)) (iB λi j=>decide (i<j)) (c3 (.int 0)) (v3 0) (v3 1))))
def VZ {S_is_number:Sp3} (F:Fun K "is_number_below" "is_number_below" zb f fd) (bd:zJ K fd jp []) (hm:mg "is_number_below" = some (.ref f)) (qB:Fn3 P w K mg base k "is_number" S_is_number)  
  (read:Rd sp 2 (zI S_is_number) zh):Fn3 P w K mg base (k+1) "is_number_below" sp:=
 qM (t3:=(zI S_is_number)) F VO bd hm (λcdv A outer s H E hr=>(qm (qr (QI (qh qB hr rfl (qa (qb 0) qd)) (YF (qbW qlz DG qft DG qe (qb 0) (qb 1))))))) read
abbrev zG:Stmt:=top 7
abbrev jv:List Str:=["thing","many"]
abbrev QL:List Str:=["thing","many"]
def DE:FnScope jv QL (qi zG):=⟨rfl,rfl,rfl,by decide +kernel,rfl,by decide +kernel,by decide +kernel⟩
def jt (S_is_number_below:Sp3):TS3:=(zz (ZM (YW (λt=>qZ t "tuple") (v3 0)) (ZM (o3 (QK false) (cb3 V2 (qc (v3 0) ql)) (v3 1)) (cb3 MH (qc (lc3 (XD (v3 0)) (gn3 0) tt3 (cb3 S_is_number_below (qc (v3 0) (qc (c3 (.int 2)) ql))) [none]) ql)))))
def DB {S_is_number_below:Sp3} (F:Fun K "are_switches" "are_switches" zG f fd) (bd:zJ K fd QL []) (hm:mg "are_switches" = some (.ref f)) (qk:Fn3 P w K mg base k "is_number_below" S_is_number_below)  (m_all:mg "all" = none) (m_len:mg "len" = none) (m_isinstance:mg "isinstance" = none) (m_tuple:mg "tuple" = none)
  (read:Rd sp 2 (jt S_is_number_below) jv):Fn3 P w K mg base (k+1) "are_switches" sp:=
 qM (t3:=(jt S_is_number_below)) F DE bd hm (λcdv A outer s H E hr=>(qm (qr (QI (zM (qb 0) rfl m_isinstance rfl m_tuple PyProof.Rows.boot_tuple) (QI (YB (zB hr.units) qV (qt qK zp rfl m_len PySem.boot_len (qa (qb 0) qd)) (qb 1) (qC _)) (YF (qt (ju rfl) XY rfl m_all PyProof.Rows.boot_all (qa (ED ["switch"] [none] rfl (WK (qb 0)) (λ_ _ _=>(jgn 0)) (λ_ _ _=>j7) (λ_ _ _=>(qh qk hr rfl (qa (qb 0) (qa qe qd)))) (by kernel_rfl) (by kernel_rfl)) qd)))))))) read
abbrev JF:Stmt:=top 8
abbrev YX:List Str:=["thing","lanes","first","upper","lower","last","half"]
abbrev X2:List Str:=["thing","lanes"]
def QT:FnScope YX X2 (qi JF):=⟨rfl,rfl,rfl,by decide +kernel,rfl,by decide +kernel,by decide +kernel⟩
def EM (S_is_number_below:Sp3) (S_are_switches:Sp3) (S_is_net:Sp3):TS3:=(qY (QB (tb3 (o3 (QK false) (v3 1) (c3 (.int 2)))) (zz (cb3 S_is_number_below (qc (v3 0) (qc (c3 (.int 2)) ql)))) za) (qY (QB (or3 (D7 (tb3 (YW (λt=>qZ t "tuple") (v3 0)))) (tb3 (o3 (QK true) (cb3 V2 (qc (v3 0) ql)) (c3 (.int 4))))) (zz (c3 (.bl false))) za) (qY (zQ (v3 0) (EA 4 (zk (gn3 2) (zk (gn3 3) (zk (gn3 4) (zk (gn3 5) U9)))))) (qY (zQ (o3 (iC Q7 (·/·)) (v3 1) (c3 (.int 2))) (gn3 6)) (qY (QB (or3 (D7 (tb3 (cb3 S_are_switches (qc (v3 2) (qc (v3 6) ql))))) (D7 (tb3 (cb3 S_are_switches (qc (v3 5) (qc (v3 6) ql)))))) (zz (c3 (.bl false))) za) (zz (ZM (cb3 S_is_net (qc (v3 3) (qc (v3 6) ql))) (cb3 S_is_net (qc (v3 4) (qc (v3 6) ql))))))))))
def JI {S_is_number_below:Sp3} {S_are_switches:Sp3} {S_is_net:Sp3} (F:Fun K "is_net" "is_net" JF f fd) (bd:zJ K fd X2 []) (hm:mg "is_net" = some (.ref f)) (qk:Fn3 P w K mg base k "is_number_below" S_is_number_below) (qA:Fn3 P w K mg base k "are_switches" S_are_switches) (F_is_net:Fn3 P w K mg base k "is_net" S_is_net)  (m_len:mg "len" = none) (m_isinstance:mg "isinstance" = none) (m_tuple:mg "tuple" = none)
  (read:Rd sp 2 (EM S_is_number_below S_are_switches S_is_net) YX):Fn3 P w K mg base (k+1) "is_net" sp:=
 qM (t3:=(EM S_is_number_below S_are_switches S_is_net)) F QT bd hm (λcdv A outer s H E hr=>(qg (zN (qX (zB hr.units) qV (qb 1) qe (qC _)) (qm (qr (qh qk hr rfl (qa (qb 0) (qa qe qd))))) qW) (qg (zN (jpt (U6 (QE (zY (zM (qb 0) rfl m_isinstance rfl m_tuple PyProof.Rows.boot_tuple))) (YE (qX (E9 hr.units) YR (qt qK zp rfl m_len PySem.boot_len (qa (qb 0) qd)) qe (qC _))))) (qm (qr YL)) qW) (qg (DO (qb 0) (EW rfl (zi (zd (i:=2) (QT.nd)) (zi (zd (i:=3) (QT.nd)) (zi (zd (i:=4) (QT.nd)) (zi (zd (i:=5) (QT.nd)) E6)))))) (qg (qU 6 QT.nd (jO (qb 1) qe)) (qg (zN (jpt (U6 (QE (zY (qh qA hr rfl (qa (qb 2) (qa (qb 6) qd))))) (YE (QE (zY (qh qA hr rfl (qa (qb 5) (qa (qb 6) qd)))))))) (qm (qr YL)) qW) (qm (qr (QI (qh F_is_net hr rfl (qa (qb 3) (qa (qb 6) qd))) (YF (qh F_is_net hr rfl (qa (qb 4) (qa (qb 6) qd))))))))))))) read
abbrev jV:Stmt:=top 9
abbrev Q6:List Str:=["switches","things","told","t","switch","former","latter"]
abbrev V7:List Str:=["switches","things"]
def zS:FnScope Q6 V7 (qi jV):=⟨rfl,rfl,rfl,by decide +kernel,rfl,by decide +kernel,by decide +kernel⟩
def J4:TS3:=(qY (zQ (RN ql) (gn3 2)) (qY (S6 (TX (qc (v3 0) ql)) (EA 2 (zk (gn3 3) (zk (gn3 4) U9))) (qY (MO 5 6 (qc (o3 ix3 (v3 1) (o3 (iC EC (·*·)) (c3 (.int 2)) (v3 3))) (qc (o3 ix3 (v3 1) (o3 V1 (o3 (iC EC (·*·)) (c3 (.int 2)) (v3 3)) (c3 (.int 1)))) ql))) (QB (tb3 (o3 (QK false) (v3 4) (c3 (.int 1)))) (LM 2 (RN (qc (v3 6) (qc (v3 5) ql)))) (LM 2 (RN (qc (v3 5) (qc (v3 6) ql))))))) (zz (v3 2))))
def SC (F:Fun K "switched" "switched" jV f fd) (bd:zJ K fd V7 []) (hm:mg "switched" = some (.ref f))   (m_enumerate:mg "enumerate" = none)
  (read:Rd sp 2 (J4) Q6):Fn3 P w K mg base (k+1) "switched" sp:=
 qM (t3:=(J4)) F zS bd hm (λcdv A outer s H E hr=>(qg (qU 2 zS.nd (JC qd)) (qg (DA PassesOwn.never rfl (qff rfl m_enumerate (qa (qb 0) qd)) (EW rfl (zi (zd (i:=3) (zS.nd)) (zi (zd (i:=4) (zS.nd)) E6))) (qg (RB (i:=5) (j:=6) rfl zS.nd rfl rfl (by decide) rfl rfl (qa (zW (qb 1) (VR qe (qb 3))) (qa (zW (qb 1) (jr (VR qe (qb 3)) qe)) qd))) (qm (zN (qX (zB hr.units) qV (qb 4) qe (qC _)) (qm (CP 2 zS.nd (JC (qa (qb 6) (qa (qb 5) qd))))) (qm (CP 2 zS.nd (JC (qa (qb 5) (qa (qb 6) qd))))))))) (qm (qr (qb 2)))))) read
abbrev CQ:Stmt:=top 10
abbrev qbf:List Str:=["net","things","first","upper","lower","last","entering","above","below"]
abbrev qgc:List Str:=["net","things"]
def DF:FnScope qbf qgc (qi CQ):=⟨rfl,rfl,rfl,by decide +kernel,rfl,by decide +kernel,by decide +kernel⟩
def qcq (S_switched:Sp3) (S_led:Sp3):TS3:=(qY (QB (tb3 (o3 (QK false) (cb3 V2 (qc (v3 1) ql)) (c3 (.int 2)))) (zz (cb3 S_switched (qc (RN (qc (v3 0) ql)) (qc (v3 1) ql)))) za) (qY (zQ (v3 0) (EA 4 (zk (gn3 2) (zk (gn3 3) (zk (gn3 4) (zk (gn3 5) U9)))))) (qY (zQ (cb3 S_switched (qc (v3 2) (qc (v3 1) ql))) (gn3 6)) (qY (MO 7 8 (qc (cb3 S_led (qc (v3 3) (qc (qir (v3 6) (sp3 (c3 (.int 0))) (sp3 (c3 (.int 2)))) ql))) (qc (cb3 S_led (qc (v3 4) (qc (qir (v3 6) (sp3 (c3 (.int 1))) (sp3 (c3 (.int 2)))) ql))) ql))) (zz (cb3 S_switched (qc (v3 5) (qc (qk3 (X6 (qc (v3 7) (qc (v3 8) ql))) (gn3 0) tt3 (XD (v3 0)) (gn3 1) tt3 (v3 1) [none,none]) ql))))))))
def KK {S_switched:Sp3} {S_led:Sp3} (F:Fun K "led" "led" CQ f fd) (bd:zJ K fd qgc []) (hm:mg "led" = some (.ref f)) (q5:Fn3 P w K mg base k "switched" S_switched) (U1:Fn3 P w K mg base k "led" S_led)  (m_len:mg "len" = none) (m_zip:mg "zip" = none)
  (read:Rd sp 2 (qcq S_switched S_led) qbf):Fn3 P w K mg base (k+1) "led" sp:=
 qM (t3:=(qcq S_switched S_led)) F DF bd hm (λcdv A outer s H E hr=>(qg (zN (qX (zB hr.units) qV (qt qK zp rfl m_len PySem.boot_len (qa (qb 1) qd)) qe (qC _)) (qm (qr (qh q5 hr rfl (qa (JC (qa (qb 0) qd)) (qa (qb 1) qd))))) qW) (qg (DO (qb 0) (EW rfl (zi (zd (i:=2) (DF.nd)) (zi (zd (i:=3) (DF.nd)) (zi (zd (i:=4) (DF.nd)) (zi (zd (i:=5) (DF.nd)) E6)))))) (qg (qU 6 DF.nd (qh q5 hr rfl (qa (qb 2) (qa (qb 1) qd)))) (qg (RB (i:=7) (j:=8) rfl DF.nd rfl rfl (by decide) rfl rfl (qa (qh U1 hr rfl (qa (qb 3) (qa (qau (qb 6) (zc qe) (zc qe) (ops:=λ_ _=>_) (by intro _ _;with_unfolding_all rfl)) qd))) (qa (qh U1 hr rfl (qa (qb 4) (qa (qau (qb 6) (zc qe) (zc qe) (ops:=λ_ _=>_) (by intro _ _;with_unfolding_all rfl)) qd))) qd))) (qm (qr (qh q5 hr rfl (qa (qb 5) (qa (qjb ["both","thing"] [none,none] rfl (qfX rfl m_zip (qa (qb 7) (qa (qb 8) qd))) (λ_ _ _=>(jgn 0)) (λ_ _ _=>j7) (λ_ _ _=>(WK (qb 0))) (λ_ _ _=>(jgn 1)) (λ_ _ _=>j7) (λ_ _ _=>(qb 1)) (by kernel_rfl) (by kernel_rfl)) qd)))))))))) read
abbrev j1:Stmt:=top 11
abbrev QU:List Str:=["net","lanes","first","upper","lower","last"]
abbrev UA:List Str:=["net","lanes"]
def j4:FnScope QU UA (qi j1):=⟨rfl,rfl,rfl,by decide +kernel,rfl,by decide +kernel,by decide +kernel⟩
def J5 (S_mirrored:Sp3):TS3:=(qY (QB (tb3 (o3 (QK false) (v3 1) (c3 (.int 2)))) (zz (v3 0)) za) (qY (zQ (v3 0) (EA 4 (zk (gn3 2) (zk (gn3 3) (zk (gn3 4) (zk (gn3 5) U9)))))) (zz (WC (qc (v3 5) (qc (cb3 S_mirrored (qc (v3 3) (qc (o3 (iC Q7 (·/·)) (v3 1) (c3 (.int 2))) ql))) (qc (cb3 S_mirrored (qc (v3 4) (qc (o3 (iC Q7 (·/·)) (v3 1) (c3 (.int 2))) ql))) (qc (v3 2) ql))))))))
def ZI {S_mirrored:Sp3} (F:Fun K "mirrored" "mirrored" j1 f fd) (bd:zJ K fd UA []) (hm:mg "mirrored" = some (.ref f)) (F_mirrored:Fn3 P w K mg base k "mirrored" S_mirrored)  
  (read:Rd sp 2 (J5 S_mirrored) QU):Fn3 P w K mg base (k+1) "mirrored" sp:=
 qM (t3:=(J5 S_mirrored)) F j4 bd hm (λcdv A outer s H E hr=>(qg (zN (qX (zB hr.units) qV (qb 1) qe (qC _)) (qm (qr (qb 0))) qW) (qg (DO (qb 0) (EW rfl (zi (zd (i:=2) (j4.nd)) (zi (zd (i:=3) (j4.nd)) (zi (zd (i:=4) (j4.nd)) (zi (zd (i:=5) (j4.nd)) E6)))))) (qm (qr (jx (qa (qb 5) (qa (qh F_mirrored hr rfl (qa (qb 3) (qa (jO (qb 1) qe) qd))) (qa (qh F_mirrored hr rfl (qa (qb 4) (qa (jO (qb 1) qe) qd))) (qa (qb 2) qd)))))))))) read
abbrev j2:Stmt:=top 12
abbrev QY:List Str:=["net","things"]
abbrev UB:List Str:=["net","things"]
def SN:FnScope QY UB (qi j2):=⟨rfl,rfl,rfl,by decide +kernel,rfl,by decide +kernel,by decide +kernel⟩
def J0 (S_mirrored:Sp3) (S_led:Sp3):TS3:=(zz (cb3 S_led (qc (cb3 S_mirrored (qc (v3 0) (qc (cb3 V2 (qc (v3 1) ql)) ql))) (qc (v3 1) ql))))
def SG {S_mirrored:Sp3} {S_led:Sp3} (F:Fun K "led_back" "led_back" j2 f fd) (bd:zJ K fd UB []) (hm:mg "led_back" = some (.ref f)) (F_mirrored:Fn3 P w K mg base k "mirrored" S_mirrored) (U1:Fn3 P w K mg base k "led" S_led)  (m_len:mg "len" = none)
  (read:Rd sp 2 (J0 S_mirrored S_led) QY):Fn3 P w K mg base (k+1) "led_back" sp:=
 qM (t3:=(J0 S_mirrored S_led)) F SN bd hm (λcdv A outer s H E hr=>(qm (qr (qh U1 hr rfl (qa (qh F_mirrored hr rfl (qa (qb 0) (qa (qt qK zp rfl m_len PySem.boot_len (qa (qb 1) qd)) qd))) (qa (qb 1) qd)))))) read
abbrev jC:Stmt:=top 13
abbrev ZS:List Str:=["order","comers","halves","begin","k"]
abbrev YI:List Str:=["order"]
def zU:FnScope ZS YI (qi jC):=⟨rfl,rfl,rfl,by decide +kernel,rfl,by decide +kernel,by decide +kernel⟩
def ZR:TS3:=(qY (zQ (lc3 (ZO (qc (cb3 V2 (qc (v3 0) ql)) ql)) (gn3 0) tt3 (qbb (v3 1) (qc (v3 0) ql)) [none,some 0]) (gn3 1)) (qY (zQ (lc3 (XD (v3 0)) (gn3 0) tt3 (c3 .non) [none]) (gn3 2)) (qY (S6 (ZO (qc (cb3 V2 (qc (v3 0) ql)) ql)) (gn3 3) (qY (zQ (v3 3) (gn3 4)) (KS (tb3 (o3 (qf7 false) (o3 ix3 (v3 2) (v3 4)) (c3 .non))) (qY (zQ (c3 (.int 0)) (UF (v3 2) (v3 4))) (qY (zQ (c3 (.int 1)) (UF (v3 2) (o3 (iI Builtin.bitXor) (v3 4) (c3 (.int 1))))) (zQ (o3 ix3 (v3 1) (o3 (iI Builtin.bitXor) (o3 ix3 (v3 0) (o3 (iI Builtin.bitXor) (v3 4) (c3 (.int 1)))) (c3 (.int 1)))) (gn3 4))))))) (zz (v3 2)))))
def CS (F:Fun K "halves_of" "halves_of" jC f fd) (bd:zJ K fd YI []) (hm:mg "halves_of" = some (.ref f))   (m_len:mg "len" = none) (m_range:mg "range" = none)
  (read:Rd sp 1 (ZR) ZS):Fn3 P w K mg base (k+1) "halves_of" sp:=
 qM (t3:=(ZR)) F zU bd hm (λcdv A outer s H E hr=>(qg (KH 1 ["lane","order"] [none,some 0] rfl zU.nd (zF rfl m_range (qa (qt qK zp rfl m_len PySem.boot_len (qa (qb 0) qd)) qd) (h1:=by intro _ _ _ h;simpa [qc,ql] using h)) (λ_ _ _=>(jgn 0)) (λ_ _ _=>j7) (λ_ _ _=>(RJ (qb 1) (qa (qb 0) qd))) (by kernel_rfl) (by kernel_rfl) rfl rfl) (qg (KH 2 ["thing"] [none] rfl zU.nd (WK (qb 0)) (λ_ _ _=>(jgn 0)) (λ_ _ _=>j7) (λ_ _ _=>DM) (by kernel_rfl) (by kernel_rfl) rfl rfl) (qg (DA PassesOwn.never rfl (zF rfl m_range (qa (qt qK zp rfl m_len PySem.boot_len (qa (qb 0) qd)) qd) (h1:=by intro _ _ _ h;simpa [qc,ql] using h)) (zd (i:=3) (zU.nd)) (qg (qU 4 zU.nd (qb 3)) (qm (qbk PassesOwn.never (qX KI XE (zW (qb 2) (qb 4)) DM (qC _)) (qg (DO qe (TC (qb 2) (qb 4))) (qg (DO qe (TC (qb 2) (MS (qb 4) qe))) (qm (qU 4 zU.nd (zW (qb 1) (MS (zW (qb 0) (MS (qb 4) qe)) qe)))))))))) (qm (qr (qb 2))))))) read
abbrev Z8:Stmt:=top 14
abbrev EL:List Str:=["order","halves","first","last","upper","lower"]
abbrev XI:List Str:=["order"]
def Q2:FnScope EL XI (qi Z8):=⟨rfl,rfl,rfl,by decide +kernel,rfl,by decide +kernel,by decide +kernel⟩
def EI (S_halves_of:Sp3) (S_net_by:Sp3):TS3:=(qY (QB (tb3 (o3 (QK false) (cb3 V2 (qc (v3 0) ql)) (c3 (.int 2)))) (zz (o3 ix3 (v3 0) (c3 (.int 0)))) za) (qY (zQ (cb3 S_halves_of (qc (v3 0) ql)) (gn3 1)) (qY (zQ (cb3 JG (qc (qir (v3 1) (sp3 (c3 (.int 0))) (sp3 (c3 (.int 2)))) ql)) (gn3 2)) (qY (zQ (cb3 JG (qc (lc3 (qnk (qc (c3 (.int 0)) (qc (cb3 V2 (qc (v3 0) ql)) (qc (c3 (.int 2)) ql)))) (gn3 0) tt3 (o3 ix3 (v3 1) (qbb (v3 2) (qc (v3 0) ql))) [none,some 1,some 0]) ql)) (gn3 3)) (qY (zQ (cb3 JG (qc (lc3 (X6 (qc (v3 0) (qc (v3 1) ql))) (EA 2 (zk (gn3 0) (zk (gn3 1) U9))) (tb3 (o3 (QK false) (v3 1) (c3 (.int 0)))) (o3 (iC Q7 (·/·)) (v3 0) (c3 (.int 2))) [none,none]) ql)) (gn3 4)) (qY (zQ (cb3 JG (qc (lc3 (X6 (qc (v3 0) (qc (v3 1) ql))) (EA 2 (zk (gn3 0) (zk (gn3 1) U9))) (tb3 (o3 (QK false) (v3 1) (c3 (.int 1)))) (o3 (iC Q7 (·/·)) (v3 0) (c3 (.int 2))) [none,none]) ql)) (gn3 5)) (zz (WC (qc (v3 2) (qc (cb3 S_net_by (qc (v3 4) ql)) (qc (cb3 S_net_by (qc (v3 5) ql)) (qc (v3 3) ql))))))))))))
def VB {S_halves_of:Sp3} {S_net_by:Sp3} (F:Fun K "net_by" "net_by" Z8 f fd) (bd:zJ K fd XI []) (hm:mg "net_by" = some (.ref f)) (zC:Fn3 P w K mg base k "halves_of" S_halves_of) (F_net_by:Fn3 P w K mg base k "net_by" S_net_by)  (m_len:mg "len" = none) (m_tuple:mg "tuple" = none) (m_range:mg "range" = none) (m_zip:mg "zip" = none)
  (read:Rd sp 1 (EI S_halves_of S_net_by) EL):Fn3 P w K mg base (k+1) "net_by" sp:=
 qM (t3:=(EI S_halves_of S_net_by)) F Q2 bd hm (λcdv A outer s H E hr=>(qg (zN (qX (zB hr.units) qV (qt qK zp rfl m_len PySem.boot_len (qa (qb 0) qd)) qe (qC _)) (qm (qr (zW (qb 0) qe))) qW) (qg (qU 1 Q2.nd (qh zC hr rfl (qa (qb 0) qd))) (qg (qU 2 Q2.nd (zL zo jU rfl m_tuple PyProof.Rows.boot_tuple (qa (qau (qb 1) (zc qe) (zc qe) (ops:=λ_ _=>_) (by intro _ _;with_unfolding_all rfl)) qd))) (qg (qU 3 Q2.nd (zL zo jU rfl m_tuple PyProof.Rows.boot_tuple (qa (ED ["lane","halves","order"] [none,some 1,some 0] rfl (qnv rfl m_range (qa qe (qa (qt qK zp rfl m_len PySem.boot_len (qa (qb 0) qd)) (qa qe qd)))) (λ_ _ _=>(jgn 0)) (λ_ _ _=>j7) (λ_ _ _=>(zW (qb 1) (RJ (qb 2) (qa (qb 0) qd)))) (by kernel_rfl) (by kernel_rfl)) qd))) (qg (qU 4 Q2.nd (zL zo jU rfl m_tuple PyProof.Rows.boot_tuple (qa (ED ["lane","half"] [none,none] rfl (M6 rfl m_zip (qa (qb 0) (qa (qb 1) qd))) (λ_ _ _=>(EW rfl (zi (jgn 0) (zi (jgn 1) E6)))) (λ_ _ _=>qcP (qX (zB hr.units) qV (qb 1) qe (qC _))) (λ_ _ _=>(jO (qb 0) qe)) (by kernel_rfl) (by kernel_rfl)) qd))) (qg (qU 5 Q2.nd (zL zo jU rfl m_tuple PyProof.Rows.boot_tuple (qa (ED ["lane","half"] [none,none] rfl (M6 rfl m_zip (qa (qb 0) (qa (qb 1) qd))) (λ_ _ _=>(EW rfl (zi (jgn 0) (zi (jgn 1) E6)))) (λ_ _ _=>qcP (qX (zB hr.units) qV (qb 1) qe (qC _))) (λ_ _ _=>(jO (qb 0) qe)) (by kernel_rfl) (by kernel_rfl)) qd))) (qm (qr (jx (qa (qb 2) (qa (qh F_net_by hr rfl (qa (qb 4) qd)) (qa (qh F_net_by hr rfl (qa (qb 5) qd)) (qa (qb 3) qd)))))))))))))) read
abbrev jX:Stmt:=top 15
abbrev Q0:List Str:=["thing"]
abbrev UL:List Str:=["thing"]
def R4:FnScope Q0 UL (qi jX):=⟨rfl,rfl,rfl,by decide +kernel,rfl,by decide +kernel,by decide +kernel⟩
def J7 (S_is_number:Sp3):TS3:=(qY (QB (or3 (D7 (tb3 (YW (λt=>qZ t "tuple") (v3 0)))) (tb3 (o3 (in3 true) (cb3 V2 (qc (v3 0) ql)) (WC (qc (c3 (.int 2)) (qc (c3 (.int 4)) (qc (c3 (.int 8)) (qc (c3 (.int 16)) ql)))))))) (zz (c3 (.bl false))) za) (zz (ZM (cb3 MH (qc (lc3 (XD (v3 0)) (gn3 0) tt3 (cb3 S_is_number (qc (v3 0) ql)) [none]) ql)) (o3 (QK false) (cb3 C8 (qc (v3 0) ql)) (W8 (cb3 V2 (qc (v3 0) ql)))))))
def SR {S_is_number:Sp3} (F:Fun K "is_order" "is_order" jX f fd) (bd:zJ K fd UL []) (hm:mg "is_order" = some (.ref f)) (qB:Fn3 P w K mg base k "is_number" S_is_number)  (m_len:mg "len" = none) (m_isinstance:mg "isinstance" = none) (m_tuple:mg "tuple" = none) (m_sorted:mg "sorted" = none) (m_list:mg "list" = none) (m_range:mg "range" = none) (m_all:mg "all" = none)
  (read:Rd sp 1 (J7 S_is_number) Q0):Fn3 P w K mg base (k+1) "is_order" sp:=
 qM (t3:=(J7 S_is_number)) F R4 bd hm (λcdv A outer s H E hr=>(qg (zN (jpt (U6 (QE (zY (zM (qb 0) rfl m_isinstance rfl m_tuple PyProof.Rows.boot_tuple))) (YE (qX C4 qdA (qt qK zp rfl m_len PySem.boot_len (qa (qb 0) qd)) (jx (qa qe (qa qe (qa qe (qa qe qd))))) (by with_unfolding_all rfl))))) (qm (qr YL)) qW) (qm (qr (QI (qt (ju rfl) XY rfl m_all PyProof.Rows.boot_all (qa (ED ["lane"] [none] rfl (WK (qb 0)) (λ_ _ _=>(jgn 0)) (λ_ _ _=>j7) (λ_ _ _=>(qh qB hr rfl (qa (qb 0) qd))) (by kernel_rfl) (by kernel_rfl)) qd)) (YF (YB (zB hr.units) qV (qt RE L7 rfl m_sorted PyProof.Rows.boot_sorted (qa (qb 0) qd)) (CV rfl rfl m_list rfl m_range (qt qK zp rfl m_len PySem.boot_len (qa (qb 0) qd))) (qC _)))))))) read
abbrev QV:Stmt:=top 16
abbrev JK:List Str:=["order"]
abbrev DU:List Str:=["order"]
def LV:FnScope JK DU (qi QV):=⟨rfl,rfl,rfl,by decide +kernel,rfl,by decide +kernel,by decide +kernel⟩
def VY (S_is_order:Sp3) (S_net_by:Sp3):TS3:=(qY (QB (D7 (tb3 (cb3 S_is_order (qc (v3 0) ql)))) qlk za) (zz (cb3 S_net_by (qc (v3 0) ql))))
def LS {S_is_order:Sp3} {S_net_by:Sp3} (F:Fun K "net_for" "net_for" QV f fd) (bd:zJ K fd DU []) (hm:mg "net_for" = some (.ref f)) (zV:Fn3 P w K mg base k "is_order" S_is_order) (F_net_by:Fn3 P w K mg base k "net_by" S_net_by)  
  (read:Rd sp 1 (VY S_is_order S_net_by) JK):Fn3 P w K mg base (k+1) "net_for" sp:=
 qM (t3:=(VY S_is_order S_net_by)) F LV bd hm (λcdv A outer s H E hr=>(qg (zN (QE (zY (qh zV hr rfl (qa (qb 0) qd)))) qb8 qW) (qm (qr (qh F_net_by hr rfl (qa (qb 0) qd)))))) read
abbrev Q5:Stmt:=top 18
abbrev E8:List Str:=["_law_cell","_law_k","_law_m"]
abbrev DS:List Str:=["_law_cell","_law_k"]
def WP:FnScope E8 DS (qi Q5):=⟨rfl,rfl,rfl,by decide +kernel,rfl,by decide +kernel,by decide +kernel⟩
def K0 (F:Fun K "_law_mix" "_law_mix" Q5 f fd) (bd:zJ K fd DS []) (hm:mg "_law_mix" = some (.ref f))   
  (read:Rd sp 2 (Bk.VT) E8):Fn3 P w K mg base (k+1) "_law_mix" sp:=
 qM (t3:=(Bk.VT)) F WP bd hm (λcdv A outer s H E hr=>(qg (qU 2 WP.nd (VS (VR (jr (jr (VS (qb 0) qe) (VR (VR (qb 1) (qb 1)) qe)) qe) qe) qe)) (qm (qr (VS (VR (qb 2) (qb 2)) qe))))) read
abbrev jT:Stmt:=top 19
abbrev V8:List Str:=["_law_script","_law_k","_law_cell","_law_own"]
abbrev UO:List Str:=["_law_script","_law_k"]
def YN:FnScope V8 UO (qi jT):=⟨rfl,rfl,rfl,by decide +kernel,rfl,by decide +kernel,by decide +kernel⟩
def SY (F:Fun K "_law_left" "_law_left" jT f fd) (bd:zJ K fd UO []) (hm:mg "_law_left" = some (.ref f))   (m_len:mg "len" = none) (m_abs:mg "abs" = none)
  (read:Rd sp 2 (Bk.J1) V8):Fn3 P w K mg base (k+1) "_law_left" sp:=
 qM (t3:=(Bk.J1)) F YN bd hm (λcdv A outer s H E hr=>(qg (qU 2 YN.nd (qjV (qX qft DG (qb 1) (qt qK zp rfl m_len PySem.boot_len (qa (qb 0) qd)) (qC _)) (zW (qb 0) (qb 1)) qe)) (qg (qU 3 YN.nd (qjV (qX qj0 DG (qt KN NZ rfl m_abs PyProof.Rows.boot_abs (qa (qb 2) qd)) (qjn qe qe) (qC _)) (qt KN NZ rfl m_abs PyProof.Rows.boot_abs (qa (qb 2) qd)) qe)) (qm (qr (JC (qa (qb 3) (qa (jr (qb 2) (VR qe (qb 1))) (qa qe qd))))))))) read
abbrev j5:Stmt:=top 20
abbrev UN:List Str:=["_law_left_here","_law_many","_law_digit"]
abbrev UT:List Str:=["_law_left_here","_law_many"]
def DJ:FnScope UN UT (qi j5):=⟨rfl,rfl,rfl,by decide +kernel,rfl,by decide +kernel,by decide +kernel⟩
def R9 {S_law_mix:Sp3} (F:Fun K "_law_pick" "_law_pick" j5 f fd) (bd:zJ K fd UT []) (hm:mg "_law_pick" = some (.ref f)) (F_law_mix:Fn3 P w K mg base k "_law_mix" S_law_mix)  
  (read:Rd sp 2 (Bk.JW S_law_mix) UN):Fn3 P w K mg base (k+1) "_law_pick" sp:=
 qM (t3:=(Bk.JW S_law_mix)) F DJ bd hm (λcdv A outer s H E hr=>(qg (DO (jr (zW (qb 0) qe) qe) (TC (qb 0) qe)) (qg (zN (qX qnR DG (zW (qb 0) qe) qe (qC _)) (qg (qU 2 DJ.nd (VS (zW (qb 0) qe) (qb 1))) (qg (DO (jO (zW (qb 0) qe) (qb 1)) (TC (qb 0) qe)) (qm (qr (qb 2))))) qW) (qm (qr (VS (jO (qh F_law_mix hr rfl (qa (qh F_law_mix hr rfl (qa (zW (qb 0) qe) (qa (zW (qb 0) qe) qd))) (qa (jr (zW (qb 0) qe) qe) qd))) qe) (qb 1))))))) read
abbrev j6:Stmt:=top 21
abbrev WQ:List Str:=["_law_found","_law_due"]
abbrev V4:List Str:=["_law_found","_law_due"]
def SZ:FnScope WQ V4 (qi j6):=⟨rfl,rfl,rfl,by decide +kernel,rfl,by decide +kernel,by decide +kernel⟩
def ZG {S_law_same:Sp3} (F:Fun K "_law_same" "_law_same" j6 f fd) (bd:zJ K fd V4 []) (hm:mg "_law_same" = some (.ref f)) (F_law_same:Fn3 P w K mg base k "_law_same" S_law_same)  (m_isinstance:mg "isinstance" = none) (m_list:mg "list" = none) (m_tuple:mg "tuple" = none) (m_zip:mg "zip" = none) (m_all:mg "all" = none) (m_len:mg "len" = none) (m_str:mg "str" = none) (m_bool:mg "bool" = none) (m_int:mg "int" = none)
  (read:Rd sp 2 (Bk.UH S_law_same) WQ):Fn3 P w K mg base (k+1) "_law_same" sp:=
 qM (t3:=(Bk.UH S_law_same)) F SZ bd hm (λcdv A outer s H E hr=>(qg (zN (zY (NS (qb 1) rfl m_isinstance rfl m_list PyProof.Rows.boot_list rfl m_tuple PyProof.Rows.boot_tuple)) (qg (zN (jpt (U6 (qX (E9 hr.units) YR (zM (qb 0) rfl m_isinstance rfl m_list PyProof.Rows.boot_list) (zM (qb 1) rfl m_isinstance rfl m_list PyProof.Rows.boot_list) (qC _)) (YE (qX (E9 hr.units) YR (zM (qb 0) rfl m_isinstance rfl m_tuple PyProof.Rows.boot_tuple) (zM (qb 1) rfl m_isinstance rfl m_tuple PyProof.Rows.boot_tuple) (qC _))))) (qm (qr YL)) qW) (qm (qr (QI (YB (zB hr.units) qV (qt qK zp rfl m_len PySem.boot_len (qa (qb 0) qd)) (qt qK zp rfl m_len PySem.boot_len (qa (qb 1) qd)) (qC _)) (YF (qt (ju rfl) XY rfl m_all PyProof.Rows.boot_all (qa (ED ["_law_one","_law_other"] [none,none] rfl (M6 rfl m_zip (qa (qb 0) (qa (qb 1) qd))) (λ_ _ _=>(EW rfl (zi (jgn 0) (zi (jgn 1) E6)))) (λ_ _ _=>j7) (λ_ _ _=>(qh F_law_same hr rfl (qa (qb 0) (qa (qb 1) qd)))) (by kernel_rfl) (by kernel_rfl)) qd))))))) qW) (qg (zN (jpt (U6 (qX KI XE (qb 1) DM (qC _)) (YE (zY (NS (qb 1) rfl m_isinstance rfl m_str PyProof.Rows.boot_str rfl m_bool PyProof.Rows.boot_bool))))) (qm (qr (QI (YB (zB hr.units) qV (qb 0) (qb 1) (qC _)) (QI (YB (zB hr.units) qV (zM (qb 0) rfl m_isinstance rfl m_bool PyProof.Rows.boot_bool) (zM (qb 1) rfl m_isinstance rfl m_bool PyProof.Rows.boot_bool) (qC _)) (YF (YB (zB hr.units) qV (YB KI XE (qb 0) DM (qC _)) (YB KI XE (qb 1) DM (qC _)) (qC _))))))) qW) (qm (qr (QI (zM (qb 0) rfl m_isinstance rfl m_int PyProof.Rows.boot_int) (QI (NJ (zM (qb 0) rfl m_isinstance rfl m_bool PyProof.Rows.boot_bool)) (YF (YB (zB hr.units) qV (qb 0) (qb 1) (qC _)))))))))) read
abbrev QS:Stmt:=top 22
abbrev VC:List Str:=["_law_left_here","_law_lanes","_law_first","_law_upper","_law_lower"]
abbrev E7:List Str:=["_law_left_here","_law_lanes"]
def J6:FnScope VC E7 (qi QS):=⟨rfl,rfl,rfl,by decide +kernel,rfl,by decide +kernel,by decide +kernel⟩
def Y0 (S_law_pick:Sp3) (S_law_net:Sp3):TS3:=(qY (QB (tb3 (o3 (QK false) (v3 1) (c3 (.int 2)))) (zz (cb3 S_law_pick (qc (v3 0) (qc (c3 (.int 2)) ql)))) za) (qY (zQ (cb3 JG (qc (lc3 (ZO (qc (o3 (iC Q7 (·/·)) (v3 1) (c3 (.int 2))) ql)) (gn3 0) tt3 (cb3 S_law_pick (qc (v3 1) (qc (c3 (.int 2)) ql))) [none,some 0]) ql)) (gn3 2)) (qY (zQ (cb3 S_law_net (qc (v3 0) (qc (o3 (iC Q7 (·/·)) (v3 1) (c3 (.int 2))) ql))) (gn3 3)) (qY (zQ (cb3 S_law_net (qc (v3 0) (qc (o3 (iC Q7 (·/·)) (v3 1) (c3 (.int 2))) ql))) (gn3 4)) (zz (WC (qc (v3 2) (qc (v3 3) (qc (v3 4) (qc (cb3 JG (qc (lc3 (ZO (qc (o3 (iC Q7 (·/·)) (v3 1) (c3 (.int 2))) ql)) (gn3 0) tt3 (cb3 S_law_pick (qc (v3 1) (qc (c3 (.int 2)) ql))) [none,some 0]) ql)) ql))))))))))
def JV {S_law_pick:Sp3} {S_law_net:Sp3} (F:Fun K "_law_net" "_law_net" QS f fd) (bd:zJ K fd E7 []) (hm:mg "_law_net" = some (.ref f)) (F_law_pick:Fn3 P w K mg base k "_law_pick" S_law_pick) (F_law_net:Fn3 P w K mg base k "_law_net" S_law_net)  (m_range:mg "range" = none) (m_tuple:mg "tuple" = none)
  (read:Rd sp 2 (Y0 S_law_pick S_law_net) VC):Fn3 P w K mg base (k+1) "_law_net" sp:=
 qM (t3:=(Y0 S_law_pick S_law_net)) F J6 bd hm (λcdv A outer s H E hr=>(qg (zN (qX (zB hr.units) qV (qb 1) qe (qC _)) (qm (qr (qh F_law_pick hr rfl (qa (qb 0) (qa qe qd))))) qW) (qg (qU 2 J6.nd (zL zo jU rfl m_tuple PyProof.Rows.boot_tuple (qa (ED ["_law_t","_law_left_here"] [none,some 0] rfl (zF rfl m_range (qa (jO (qb 1) qe) qd) (h1:=by intro _ _ _ h;simpa [qc,ql] using h)) (λ_ _ _=>(jgn 0)) (λ_ _ _=>j7) (λ_ _ _=>(qh F_law_pick hr rfl (qa (qb 1) (qa qe qd)))) (by kernel_rfl) (by kernel_rfl)) qd))) (qg (qU 3 J6.nd (qh F_law_net hr rfl (qa (qb 0) (qa (jO (qb 1) qe) qd)))) (qg (qU 4 J6.nd (qh F_law_net hr rfl (qa (qb 0) (qa (jO (qb 1) qe) qd)))) (qm (qr (jx (qa (qb 2) (qa (qb 3) (qa (qb 4) (qa (zL zo jU rfl m_tuple PyProof.Rows.boot_tuple (qa (ED ["_law_t","_law_left_here"] [none,some 0] rfl (zF rfl m_range (qa (jO (qb 1) qe) qd) (h1:=by intro _ _ _ h;simpa [qc,ql] using h)) (λ_ _ _=>(jgn 0)) (λ_ _ _=>j7) (λ_ _ _=>(qh F_law_pick hr rfl (qa (qb 1) (qa qe qd)))) (by kernel_rfl) (by kernel_rfl)) qd)) qd)))))))))))) read
abbrev jW:Stmt:=top 23
abbrev QX:List Str:=["_law_net_here","_law_k","_law_side","_law_at"]
abbrev V5:List Str:=["_law_net_here","_law_k"]
def YV:FnScope QX V5 (qi jW):=⟨rfl,rfl,rfl,by decide +kernel,rfl,by decide +kernel,by decide +kernel⟩
def JU (S_law_lane:Sp3):TS3:=(qY (QB (tb3 (YW (λt=>qZ t "int") (v3 0))) (zz (o3 (iC (λ_ j=>0<j) (·%·)) (o3 V1 (v3 1) (v3 0)) (c3 (.int 2)))) za) (qY (zQ (o3 (iC (λ_ j=>0<j) (·%·)) (o3 V1 (v3 1) (o3 ix3 (o3 ix3 (v3 0) (c3 (.int 0))) (o3 (iC Q7 (·/·)) (v3 1) (c3 (.int 2))))) (c3 (.int 2))) (gn3 2)) (qY (zQ (cb3 S_law_lane (qc (o3 ix3 (v3 0) (o3 V1 (c3 (.int 1)) (v3 2))) (qc (o3 (iC Q7 (·/·)) (v3 1) (c3 (.int 2))) ql))) (gn3 3)) (zz (o3 V1 (o3 (iC EC (·*·)) (c3 (.int 2)) (v3 3)) (o3 (iC (λ_ j=>0<j) (·%·)) (o3 V1 (v3 2) (o3 ix3 (o3 ix3 (v3 0) (c3 (.int 3))) (v3 3))) (c3 (.int 2))))))))
def ZU {S_law_lane:Sp3} (F:Fun K "_law_lane" "_law_lane" jW f fd) (bd:zJ K fd V5 []) (hm:mg "_law_lane" = some (.ref f)) (F_law_lane:Fn3 P w K mg base k "_law_lane" S_law_lane)  (m_isinstance:mg "isinstance" = none) (m_int:mg "int" = none)
  (read:Rd sp 2 (JU S_law_lane) QX):Fn3 P w K mg base (k+1) "_law_lane" sp:=
 qM (t3:=(JU S_law_lane)) F YV bd hm (λcdv A outer s H E hr=>(qg (zN (zY (zM (qb 0) rfl m_isinstance rfl m_int PyProof.Rows.boot_int)) (qm (qr (VS (jr (qb 1) (qb 0)) qe))) qW) (qg (qU 2 YV.nd (VS (jr (qb 1) (zW (zW (qb 0) qe) (jO (qb 1) qe))) qe)) (qg (qU 3 YV.nd (qh F_law_lane hr rfl (qa (zW (qb 0) (jr qe (qb 2))) (qa (jO (qb 1) qe) qd)))) (qm (qr (jr (VR qe (qb 3)) (VS (jr (qb 2) (zW (zW (qb 0) qe) (qb 3))) qe)))))))) read
abbrev je:Stmt:=top 24
abbrev j9:List Str:=["_law_thing","_law_lanes","_law_some"]
abbrev JP:List Str:=["_law_thing","_law_lanes"]
def VP:FnScope j9 JP (qi je):=⟨rfl,rfl,rfl,by decide +kernel,rfl,by decide +kernel,by decide +kernel⟩
def QG (S_law_is_net:Sp3):TS3:=(qY (QB (tb3 (o3 (QK false) (v3 1) (c3 (.int 2)))) (zz (ZM (YW (λt=>qZ t "int") (v3 0)) (ZM (LO (YW (λt=>qZ t "bool") (v3 0))) (o3 (in3 false) (v3 0) (WC (qc (c3 (.int 0)) (qc (c3 (.int 1)) ql))))))) za) (qY (QB (or3 (D7 (tb3 (YW (λt=>qZ t "tuple") (v3 0)))) (tb3 (o3 (QK true) (cb3 V2 (qc (v3 0) ql)) (c3 (.int 4))))) (zz (c3 (.bl false))) za) (qY (S6 (XD (WC (qc (o3 ix3 (v3 0) (c3 (.int 0))) (qc (o3 ix3 (v3 0) (c3 (.int 3))) ql)))) (gn3 2) (qY (QB (or3 (D7 (tb3 (YW (λt=>qZ t "tuple") (v3 2)))) (tb3 (o3 (QK true) (cb3 V2 (qc (v3 2) ql)) (o3 (iC Q7 (·/·)) (v3 1) (c3 (.int 2)))))) (zz (c3 (.bl false))) za) (QB (D7 (tb3 (cb3 MH (qc (lc3 (XD (v3 2)) (gn3 0) tt3 (cb3 S_law_is_net (qc (v3 0) (qc (c3 (.int 2)) ql))) [none]) ql)))) (zz (c3 (.bl false))) za))) (zz (ZM (cb3 S_law_is_net (qc (o3 ix3 (v3 0) (c3 (.int 1))) (qc (o3 (iC Q7 (·/·)) (v3 1) (c3 (.int 2))) ql))) (cb3 S_law_is_net (qc (o3 ix3 (v3 0) (c3 (.int 2))) (qc (o3 (iC Q7 (·/·)) (v3 1) (c3 (.int 2))) ql))))))))
def ja {S_law_is_net:Sp3} (F:Fun K "_law_is_net" "_law_is_net" je f fd) (bd:zJ K fd JP []) (hm:mg "_law_is_net" = some (.ref f)) (F_law_is_net:Fn3 P w K mg base k "_law_is_net" S_law_is_net)  (m_isinstance:mg "isinstance" = none) (m_bool:mg "bool" = none) (m_int:mg "int" = none) (m_len:mg "len" = none) (m_tuple:mg "tuple" = none) (m_all:mg "all" = none)
  (read:Rd sp 2 (QG S_law_is_net) j9):Fn3 P w K mg base (k+1) "_law_is_net" sp:=
 qM (t3:=(QG S_law_is_net)) F VP bd hm (λcdv A outer s H E hr=>(qg (zN (qX (zB hr.units) qV (qb 1) qe (qC _)) (qm (qr (QI (zM (qb 0) rfl m_isinstance rfl m_int PyProof.Rows.boot_int) (QI (NJ (zM (qb 0) rfl m_isinstance rfl m_bool PyProof.Rows.boot_bool)) (YF (YB qaw qdA (qb 0) (jx (qa qe (qa qe qd))) (by with_unfolding_all rfl))))))) qW) (qg (zN (jpt (U6 (QE (zY (zM (qb 0) rfl m_isinstance rfl m_tuple PyProof.Rows.boot_tuple))) (YE (qX (E9 hr.units) YR (qt qK zp rfl m_len PySem.boot_len (qa (qb 0) qd)) qe (qC _))))) (qm (qr YL)) qW) (qg (DA PassesOwn.never rfl (WK (jx (qa (zW (qb 0) qe) (qa (zW (qb 0) qe) qd)))) (zd (i:=2) (VP.nd)) (qg (zN (jpt (U6 (QE (zY (zM (qb 2) rfl m_isinstance rfl m_tuple PyProof.Rows.boot_tuple))) (YE (qX (E9 hr.units) YR (qt qK zp rfl m_len PySem.boot_len (qa (qb 2) qd)) (jO (qb 1) qe) (qC _))))) (qm (qr YL)) qW) (qm (zN (QE (zY (qt (ju rfl) XY rfl m_all PyProof.Rows.boot_all (qa (ED ["_law_one"] [none] rfl (WK (qb 2)) (λ_ _ _=>(jgn 0)) (λ_ _ _=>j7) (λ_ _ _=>(qh F_law_is_net hr rfl (qa (qb 0) (qa qe qd)))) (by kernel_rfl) (by kernel_rfl)) qd)))) (qm (qr YL)) qW)))) (qm (qr (QI (qh F_law_is_net hr rfl (qa (zW (qb 0) qe) (qa (jO (qb 1) qe) qd))) (YF (qh F_law_is_net hr rfl (qa (zW (qb 0) qe) (qa (jO (qb 1) qe) qd))))))))))) read
abbrev jB:Stmt:=top 25
abbrev jZ:List Str:=["_law_left_here","_law_lanes","_law_rest","_law_found","_law_k"]
abbrev YO:List Str:=["_law_left_here","_law_lanes"]
def JA:FnScope jZ YO (qi jB):=⟨rfl,rfl,rfl,by decide +kernel,rfl,by decide +kernel,by decide +kernel⟩
def ZH (S_law_pick:Sp3):TS3:=(qY (MO 2 3 (qc (W8 (v3 1)) (qc (RN ql) ql))) (qY (S6 (ZO (qc (v3 1) ql)) (gn3 4) (NC (bm3 qfx (v3 3) (qc (bm3 qgn (v3 2) (qc (cb3 S_law_pick (qc (v3 0) (qc (cb3 V2 (qc (v3 2) ql)) ql))) ql)) ql)))) (zz (cb3 JG (qc (v3 3) ql)))))
def CN {S_law_pick:Sp3} (F:Fun K "_law_order" "_law_order" jB f fd) (bd:zJ K fd YO []) (hm:mg "_law_order" = some (.ref f)) (F_law_pick:Fn3 P w K mg base k "_law_pick" S_law_pick)  (m_list:mg "list" = none) (m_range:mg "range" = none) (m_len:mg "len" = none) (m_tuple:mg "tuple" = none)
  (read:Rd sp 2 (ZH S_law_pick) jZ):Fn3 P w K mg base (k+1) "_law_order" sp:=
 qM (t3:=(ZH S_law_pick)) F JA bd hm (λcdv A outer s H E hr=>(qg (RB (i:=2) (j:=3) rfl JA.nd rfl rfl (by decide) rfl rfl (qa (CV rfl rfl m_list rfl m_range (qb 1)) (qa (JC qd) qd))) (qg (DA PassesOwn.never rfl (zF rfl m_range (qa (qb 1) qd) (h1:=by intro _ _ _ h;simpa [qc,ql] using h)) (zd (i:=4) (JA.nd)) (qm (qe3 (MM (qb 3) (qa (qjY (qb 2) (qa (qh F_law_pick hr rfl (qa (qb 0) (qa (qt qK zp rfl m_len PySem.boot_len (qa (qb 2) qd)) qd))) qd)) qd))))) (qm (qr (zL zo jU rfl m_tuple PyProof.Rows.boot_tuple (qa (qb 3) qd))))))) read
abbrev zg:Stmt:=top 26
abbrev zu:List Str:=["_law_left_here","_law_thing","_law_some","_law_way"]
abbrev jJ:List Str:=["_law_left_here","_law_thing"]
def jo:FnScope zu jJ (qi zg):=⟨rfl,rfl,rfl,by decide +kernel,rfl,by decide +kernel,by decide +kernel⟩
def zP (S_law_pick:Sp3):TS3:=(qY (zQ (RN (qc (c3 (.int 1)) (qc (c3 (.int 0)) (qc (c3 (.int 2)) (qc (u3 qcj (c3 (.int 1))) (qc (c3 (.bl true)) (qc (c3 (.bl false)) (qc (c3 .non) (qc (c3 (.str "0")) (qc (WC ql) (qc (WC (qc (c3 (.int 0)) ql)) (qc (RN (qc (c3 (.int 0)) ql)) (qc (WC (qc (c3 (.int 0)) (qc (c3 (.int 1)) ql))) ql))))))))))))) (gn3 2)) (qY (zQ (cb3 S_law_pick (qc (v3 0) (qc (c3 (.int 24)) ql))) (gn3 3)) (qY (QB (qk6 (tb3 (o3 (iB λi j=>decide (j<=i)) (v3 3) (c3 (.int 12)))) (tb3 (YW (λt=>qZ t "int") (v3 1)))) (zz (o3 nR3 (c3 (.int 1)) (v3 1))) za) (zz (o3 ix3 (v3 2) (o3 (iC (λ_ j=>0<j) (·%·)) (v3 3) (c3 (.int 12))))))))
def UI {S_law_pick:Sp3} (F:Fun K "_law_other_leaf" "_law_other_leaf" zg f fd) (bd:zJ K fd jJ []) (hm:mg "_law_other_leaf" = some (.ref f)) (F_law_pick:Fn3 P w K mg base k "_law_pick" S_law_pick)  (m_isinstance:mg "isinstance" = none) (m_int:mg "int" = none)
  (read:Rd sp 2 (zP S_law_pick) zu):Fn3 P w K mg base (k+1) "_law_other_leaf" sp:=
 qM (t3:=(zP S_law_pick)) F jo bd hm (λcdv A outer s H E hr=>(qg (qU 2 jo.nd (JC (qa qe (qa qe (qa qe (qa (qc2 qe) (qa YL (qa YL (qa DM (qa qdY (qa (jx qd) (qa (jx (qa qe qd)) (qa (JC (qa qe qd)) (qa (jx (qa qe (qa qe qd))) qd)))))))))))))) (qg (qU 3 jo.nd (qh F_law_pick hr rfl (qa (qb 0) (qa qe qd)))) (qg (zN (jpt (qix (qX qj0 DG (qb 3) qe (qC _)) (qe4 (zY (zM (qb 1) rfl m_isinstance rfl m_int PyProof.Rows.boot_int))))) (qm (qr (qb5 qe (qb 1)))) qW) (qm (qr (zW (qb 2) (VS (qb 3) qe)))))))) read
abbrev zr:Stmt:=top 27
abbrev zD:List Str:=["_law_left_here","_law_row","_law_way","_law_at","_law_odd"]
abbrev j3:List Str:=["_law_left_here","_law_row"]
def jN:FnScope zD j3 (qi zr):=⟨rfl,rfl,rfl,by decide +kernel,rfl,by decide +kernel,by decide +kernel⟩
def jj (S_law_pick:Sp3):TS3:=(qY (MO 2 3 (qc (cb3 S_law_pick (qc (v3 0) (qc (c3 (.int 7)) ql))) (qc (cb3 S_law_pick (qc (v3 0) (qc (o3 QW (cb3 V2 (qc (v3 1) ql)) (c3 (.int 1))) ql))) ql))) (qY (zQ (o3 ix3 (RN (qc (c3 (.int 0)) (qc (c3 (.int 1)) (qc (WC (qc (c3 (.int 0)) ql)) (qc (WC (qc (c3 (.int 0)) (qc (c3 (.int 0)) ql))) (qc (c3 .non) (qc (WC (qc (WC (qc (c3 (.int 0)) ql)) (qc (c3 (.int 0)) (qc (c3 (.int 0)) (qc (WC (qc (c3 (.int 0)) ql)) ql))))) (qc (c3 (.str "1")) ql)))))))) (cb3 S_law_pick (qc (v3 0) (qc (c3 (.int 7)) ql)))) (gn3 4)) (qY (QB (tb3 (o3 (QK false) (v3 2) (c3 (.int 0)))) (zz (o3 QW (VU (v3 1) np3 (sp3 (v3 3))) (VU (v3 1) (sp3 (o3 QW (v3 3) (c3 (.int 1)))) np3))) za) (qY (QB (tb3 (o3 (QK false) (v3 2) (c3 (.int 1)))) (zz (o3 QW (o3 QW (VU (v3 1) np3 (sp3 (v3 3))) (VU (v3 1) (sp3 (v3 3)) (sp3 (o3 QW (v3 3) (c3 (.int 1)))))) (VU (v3 1) (sp3 (v3 3)) np3))) za) (qY (QB (tb3 (o3 (iB λi j=>decide (i<j)) (v3 2) (c3 (.int 4)))) (zz (o3 QW (o3 QW (VU (v3 1) np3 (sp3 (v3 3))) (qlA (VU (v3 1) (sp3 (v3 3)) (sp3 (o3 QW (v3 3) (c3 (.int 2))))) (sp3 (u3 qcj (c3 (.int 1)))))) (VU (v3 1) (sp3 (o3 QW (v3 3) (c3 (.int 2)))) np3))) za) (qY (QB (tb3 (o3 (QK false) (v3 2) (c3 (.int 4)))) (zz (cb3 qaD (qc (v3 1) ql))) za) (zz (o3 QW (o3 QW (VU (v3 1) np3 (sp3 (v3 3))) (WC (qc (v3 4) ql))) (VU (v3 1) (sp3 (o3 (iI (·-·)) (o3 QW (v3 3) (v3 2)) (c3 (.int 5)))) np3)))))))))
def U7 {S_law_pick:Sp3} (F:Fun K "_law_other_row" "_law_other_row" zr f fd) (bd:zJ K fd j3 []) (hm:mg "_law_other_row" = some (.ref f)) (F_law_pick:Fn3 P w K mg base k "_law_pick" S_law_pick)  (m_len:mg "len" = none) (m_list:mg "list" = none)
  (read:Rd sp 2 (jj S_law_pick) zD):Fn3 P w K mg base (k+1) "_law_other_row" sp:=
 qM (t3:=(jj S_law_pick)) F jN bd hm (λcdv A outer s H E hr=>(qg (RB (i:=2) (j:=3) rfl jN.nd rfl rfl (by decide) rfl rfl (qa (qh F_law_pick hr rfl (qa (qb 0) (qa qe qd))) (qa (qh F_law_pick hr rfl (qa (qb 0) (qa (zf (qt qK zp rfl m_len PySem.boot_len (qa (qb 1) qd)) qe) qd))) qd))) (qg (qU 4 jN.nd (zW (JC (qa qe (qa qe (qa (jx (qa qe qd)) (qa (jx (qa qe (qa qe qd))) (qa DM (qa (jx (qa (jx (qa qe qd)) (qa qe (qa qe (qa (jx (qa qe qd)) qd))))) (qa qdY qd)))))))) (qh F_law_pick hr rfl (qa (qb 0) (qa qe qd))))) (qg (zN (qX (zB hr.units) qV (qb 2) qe (qC _)) (qm (qr (zf (zt (qb 1) QJ (zc (qb 3))) (zt (qb 1) (zc (zf (qb 3) qe)) QJ)))) qW) (qg (zN (qX (zB hr.units) qV (qb 2) qe (qC _)) (qm (qr (zf (zf (zt (qb 1) QJ (zc (qb 3))) (zt (qb 1) (zc (qb 3)) (zc (zf (qb 3) qe)))) (zt (qb 1) (zc (qb 3)) QJ)))) qW) (qg (zN (qX qft DG (qb 2) qe (qC _)) (qm (qr (zf (zf (zt (qb 1) QJ (zc (qb 3))) (qhC (zt (qb 1) (zc (qb 3)) (zc (zf (qb 3) qe))) (zc (qc2 qe)) (ops:=λ_ _=>_) (by intro _ _;with_unfolding_all rfl))) (zt (qb 1) (zc (zf (qb 3) qe)) QJ)))) qW) (qg (zN (qX (zB hr.units) qV (qb 2) qe (qC _)) (qm (qr (zL RM qbI rfl m_list PyProof.Rows.boot_list (qa (qb 1) qd)))) qW) (qm (qr (zf (zf (zt (qb 1) QJ (zc (qb 3))) (jx (qa (qb 4) qd))) (zt (qb 1) (zc (qcL (zf (qb 3) (qb 2)) qe)) QJ))))))))))) read
abbrev zZ:Stmt:=top 28
abbrev jA:List Str:=["_law_left_here","_law_thing","_law_deep","_law_at"]
abbrev JQ:List Str:=["_law_left_here","_law_thing","_law_deep"]
def VM:FnScope jA JQ (qi zZ):=⟨rfl,rfl,rfl,by decide +kernel,rfl,by decide +kernel,by decide +kernel⟩
def QF (S_law_other_leaf:Sp3) (S_law_pick:Sp3) (S_law_other_row:Sp3) (S_law_spoilt:Sp3):TS3:=(qY (QB (D7 (tb3 (YW (λt=>qZ t "tuple") (v3 1)))) (zz (cb3 S_law_other_leaf (qc (v3 0) (qc (v3 1) ql)))) za) (qY (QB (or3 (tb3 (o3 (QK false) (v3 1) (WC ql))) (or3 (tb3 (o3 (QK false) (v3 2) (c3 (.int 0)))) (tb3 (o3 (QK false) (cb3 S_law_pick (qc (v3 0) (qc (c3 (.int 7)) ql))) (c3 (.int 0)))))) (zz (cb3 S_law_other_row (qc (v3 0) (qc (v3 1) ql)))) za) (qY (zQ (cb3 S_law_pick (qc (v3 0) (qc (cb3 V2 (qc (v3 1) ql)) ql))) (gn3 3)) (zz (o3 QW (o3 QW (VU (v3 1) np3 (sp3 (v3 3))) (WC (qc (cb3 S_law_spoilt (qc (v3 0) (qc (o3 ix3 (v3 1) (v3 3)) (qc (o3 (iI (·-·)) (v3 2) (c3 (.int 1))) ql)))) ql))) (VU (v3 1) (sp3 (o3 QW (v3 3) (c3 (.int 1)))) np3))))))
def qO {S_law_other_leaf:Sp3} {S_law_pick:Sp3} {S_law_other_row:Sp3} {S_law_spoilt:Sp3} (F:Fun K "_law_spoilt" "_law_spoilt" zZ f fd) (bd:zJ K fd JQ []) (hm:mg "_law_spoilt" = some (.ref f)) (F_law_other_leaf:Fn3 P w K mg base k "_law_other_leaf" S_law_other_leaf) (F_law_pick:Fn3 P w K mg base k "_law_pick" S_law_pick) (F_law_other_row:Fn3 P w K mg base k "_law_other_row" S_law_other_row) (F_law_spoilt:Fn3 P w K mg base k "_law_spoilt" S_law_spoilt)  (m_isinstance:mg "isinstance" = none) (m_tuple:mg "tuple" = none) (m_len:mg "len" = none)
  (read:Rd sp 3 (QF S_law_other_leaf S_law_pick S_law_other_row S_law_spoilt) jA):Fn3 P w K mg base (k+1) "_law_spoilt" sp:=
 qM (t3:=(QF S_law_other_leaf S_law_pick S_law_other_row S_law_spoilt)) F VM bd hm (λcdv A outer s H E hr=>(qg (zN (QE (zY (zM (qb 1) rfl m_isinstance rfl m_tuple PyProof.Rows.boot_tuple))) (qm (qr (qh F_law_other_leaf hr rfl (qa (qb 0) (qa (qb 1) qd))))) qW) (qg (zN (jpt (U6 (qX (zB hr.units) qV (qb 1) (jx qd) (qC _)) (U6 (qX (zB hr.units) qV (qb 2) qe (qC _)) (YE (qX (zB hr.units) qV (qh F_law_pick hr rfl (qa (qb 0) (qa qe qd))) qe (qC _)))))) (qm (qr (qh F_law_other_row hr rfl (qa (qb 0) (qa (qb 1) qd))))) qW) (qg (qU 3 VM.nd (qh F_law_pick hr rfl (qa (qb 0) (qa (qt qK zp rfl m_len PySem.boot_len (qa (qb 1) qd)) qd)))) (qm (qr (zf (zf (zt (qb 1) QJ (zc (qb 3))) (jx (qa (qh F_law_spoilt hr rfl (qa (qb 0) (qa (zW (qb 1) (qb 3)) (qa (qcL (qb 2) qe) qd)))) qd))) (zt (qb 1) (zc (zf (qb 3) qe)) QJ)))))))) read
abbrev jw:Stmt:=top 29
abbrev ZE:List Str:=["_law_thing","_law_lanes","_law_kept","_law_found","_law_things","_law_at"]
abbrev YS:List Str:=["_law_thing","_law_lanes"]
def QA:FnScope ZE YS (qi jw):=⟨rfl,rfl,rfl,by decide +kernel,rfl,by decide +kernel,by decide +kernel⟩
def ZV (S_is_net:Sp3) (S_law_is_net:Sp3) (S_law_lane:Sp3) (S_led:Sp3) (S_law_same:Sp3) (S_led_back:Sp3):TS3:=(qY (MO 2 3 (qc (cb3 (M5 true) (qc (v3 0) ql)) (qc (cb3 S_is_net (qc (v3 0) (qc (v3 1) ql))) ql))) (qY (QB (or3 (D7 (tb3 (YW (λt=>qZ t "bool") (v3 3)))) (or3 (tb3 (o3 (QK true) (v3 3) (cb3 S_law_is_net (qc (v3 0) (qc (v3 1) ql))))) (tb3 (o3 (QK true) (cb3 (M5 true) (qc (v3 0) ql)) (v3 2))))) (zz (c3 (.bl false))) za) (qY (QB (tb3 (v3 3)) (qY (zQ (lc3 (ZO (qc (v3 1) ql)) (gn3 0) tt3 (o3 (iC EC (·*·)) (c3 (.int 3)) (v3 0)) [none]) (gn3 4)) (qY (zQ (lc3 (ZO (qc (v3 1) ql)) (gn3 0) tt3 (cb3 S_law_lane (qc (v3 1) (qc (v3 0) ql))) [none,some 0]) (gn3 5)) (qY (QB (D7 (tb3 (cb3 S_law_same (qc (cb3 S_led (qc (v3 0) (qc (v3 4) ql))) (qc (lc3 (ZO (qc (v3 1) ql)) (gn3 0) tt3 (o3 ix3 (v3 1) (bm3 qgd (v3 2) (qc (v3 0) ql))) [none,some 4,some 5]) ql))))) (zz (c3 (.bl false))) za) (zz (cb3 S_law_same (qc (cb3 S_led_back (qc (v3 0) (qc (cb3 S_led (qc (v3 0) (qc (v3 4) ql))) ql))) (qc (v3 4) ql))))))) za) (zz (c3 (.bl true))))))
def CH {S_is_net:Sp3} {S_law_is_net:Sp3} {S_law_lane:Sp3} {S_led:Sp3} {S_law_same:Sp3} {S_led_back:Sp3} (F:Fun K "_law_right" "_law_right" jw f fd) (bd:zJ K fd YS []) (hm:mg "_law_right" = some (.ref f)) (F_is_net:Fn3 P w K mg base k "is_net" S_is_net) (F_law_is_net:Fn3 P w K mg base k "_law_is_net" S_law_is_net) (F_law_lane:Fn3 P w K mg base k "_law_lane" S_law_lane) (U1:Fn3 P w K mg base k "led" S_led) (F_law_same:Fn3 P w K mg base k "_law_same" S_law_same) (zH:Fn3 P w K mg base k "led_back" S_led_back)  (m_str:mg "str" = none) (m_isinstance:mg "isinstance" = none) (m_bool:mg "bool" = none) (m_range:mg "range" = none)
  (read:Rd sp 2 (ZV S_is_net S_law_is_net S_law_lane S_led S_law_same S_led_back) ZE):Fn3 P w K mg base (k+1) "_law_right" sp:=
 qM (t3:=(ZV S_is_net S_law_is_net S_law_lane S_led S_law_same S_led_back)) F QA bd hm (λcdv A outer s H E hr=>(qg (RB (i:=2) (j:=3) rfl QA.nd rfl rfl (by decide) rfl rfl (qa (zL (DL hr.gd hr.units) TR rfl m_str PyProof.Rows.boot_str (qa (qb 0) qd)) (qa (qh F_is_net hr rfl (qa (qb 0) (qa (qb 1) qd))) qd))) (qg (zN (jpt (U6 (QE (zY (zM (qb 3) rfl m_isinstance rfl m_bool PyProof.Rows.boot_bool))) (U6 (qX (E9 hr.units) YR (qb 3) (qh F_law_is_net hr rfl (qa (qb 0) (qa (qb 1) qd))) (qC _)) (YE (qX (E9 hr.units) YR (zL (DL hr.gd hr.units) TR rfl m_str PyProof.Rows.boot_str (qa (qb 0) qd)) (qb 2) (qC _)))))) (qm (qr YL)) qW) (qg (zN (zY (qb 3)) (qg (qU 4 QA.nd (ED ["_law_k"] [none] rfl (zF rfl m_range (qa (qb 1) qd) (h1:=by intro _ _ _ h;simpa [qc,ql] using h)) (λ_ _ _=>(jgn 0)) (λ_ _ _=>j7) (λ_ _ _=>(VR qe (qb 0))) (by kernel_rfl) (by kernel_rfl))) (qg (qU 5 QA.nd (ED ["_law_k","_law_thing"] [none,some 0] rfl (zF rfl m_range (qa (qb 1) qd) (h1:=by intro _ _ _ h;simpa [qc,ql] using h)) (λ_ _ _=>(jgn 0)) (λ_ _ _=>j7) (λ_ _ _=>(qh F_law_lane hr rfl (qa (qb 1) (qa (qb 0) qd)))) (by kernel_rfl) (by kernel_rfl))) (qg (zN (QE (zY (qh F_law_same hr rfl (qa (qh U1 hr rfl (qa (qb 0) (qa (qb 4) qd))) (qa (ED ["_law_lane_here","_law_things","_law_at"] [none,some 4,some 5] rfl (zF rfl m_range (qa (qb 1) qd) (h1:=by intro _ _ _ h;simpa [qc,ql] using h)) (λ_ _ _=>(jgn 0)) (λ_ _ _=>j7) (λ_ _ _=>(zW (qb 1) (qbX (qb 2) (qa (qb 0) qd)))) (by kernel_rfl) (by kernel_rfl)) qd))))) (qm (qr YL)) qW) (qm (qr (qh F_law_same hr rfl (qa (qh zH hr rfl (qa (qb 0) (qa (qh U1 hr rfl (qa (qb 0) (qa (qb 4) qd))) qd))) (qa (qb 4) qd)))))))) qW) (qm (qr YL)))))) read
abbrev JS:Stmt:=top 30
abbrev qam:List Str:=["_law_script","_law_k","_law_left_here","_law_lanes","_law_net_here","_law_turn","_law_odd","_law_again"]
abbrev qjd:List Str:=["_law_script"]
def YC:FnScope qam qjd (qi JS):=⟨rfl,rfl,rfl,by decide +kernel,rfl,by decide +kernel,by decide +kernel⟩
def qf3 (S_law_left:Sp3) (S_law_pick:Sp3) (S_law_order:Sp3) (S_net_for:Sp3) (S_law_net:Sp3) (S_law_right:Sp3) (S_law_spoilt:Sp3):TS3:=(qY (S6 (ZO (qc (o3 V1 (c3 (.int 1)) (cb3 qhi (qc (c3 (.int 6)) (qc (cb3 V2 (qc (v3 0) ql)) ql)))) ql)) (gn3 1) (qY (zQ (cb3 S_law_left (qc (v3 0) (qc (v3 1) ql))) (gn3 2)) (qY (zQ (o3 ix3 (RN (qc (c3 (.int 2)) (qc (c3 (.int 4)) (qc (c3 (.int 8)) (qc (c3 (.int 16)) ql))))) (cb3 S_law_pick (qc (v3 2) (qc (c3 (.int 4)) ql)))) (gn3 3)) (qY (zQ (cb3 S_net_for (qc (cb3 S_law_order (qc (v3 2) (qc (v3 3) ql))) ql)) (gn3 4)) (qY (QB (tb3 (o3 (QK false) (cb3 S_law_pick (qc (v3 2) (qc (c3 (.int 2)) ql))) (c3 (.int 0)))) (zQ (cb3 S_law_net (qc (v3 2) (qc (v3 3) ql))) (gn3 4)) za) (qY (QB (D7 (tb3 (cb3 S_law_right (qc (v3 4) (qc (v3 3) ql))))) (zz (c3 (.bl false))) za) (S6 (ZO (qc (c3 (.int 10)) ql)) (gn3 5) (qY (zQ (v3 4) (gn3 6)) (qY (S6 (ZO (qc (o3 V1 (c3 (.int 1)) (cb3 S_law_pick (qc (v3 2) (qc (c3 (.int 3)) ql)))) ql)) (gn3 7) (zQ (cb3 S_law_spoilt (qc (v3 2) (qc (v3 6) (qc (c3 (.int 8)) ql)))) (gn3 6))) (QB (or3 (D7 (tb3 (cb3 S_law_right (qc (v3 6) (qc (v3 3) ql))))) (D7 (tb3 (cb3 S_law_right (qc (v3 6) (qc (o3 ix3 (RN (qc (c3 (.int 2)) (qc (c3 (.int 4)) (qc (c3 (.int 8)) (qc (c3 (.int 16)) ql))))) (cb3 S_law_pick (qc (v3 2) (qc (c3 (.int 4)) ql)))) ql)))))) (zz (c3 (.bl false))) za)))))))))) (zz (c3 (.bl true))))
def qi6 {S_law_left:Sp3} {S_law_pick:Sp3} {S_law_order:Sp3} {S_net_for:Sp3} {S_law_net:Sp3} {S_law_right:Sp3} {S_law_spoilt:Sp3} (F:Fun K "law" "law" JS f fd) (F_law_left:Fn3 P w K mg base k "_law_left" S_law_left) (F_law_pick:Fn3 P w K mg base k "_law_pick" S_law_pick) (F_law_order:Fn3 P w K mg base k "_law_order" S_law_order) (jD:Fn3 P w K mg base k "net_for" S_net_for) (F_law_net:Fn3 P w K mg base k "_law_net" S_law_net) (qF:Fn3 P w K mg base k "_law_right" S_law_right) (F_law_spoilt:Fn3 P w K mg base k "_law_spoilt" S_law_spoilt)  (m_len:mg "len" = none) (m_min:mg "min" = none) (m_range:mg "range" = none)
  (read:Rd sp 1 (qf3 S_law_left S_law_pick S_law_order S_net_for S_law_net S_law_right S_law_spoilt) qam):FnOk P w K mg base CX0 (k+1) f fd qjd (lSp K sp):=
 qbZ (t3:=(qf3 S_law_left S_law_pick S_law_order S_net_for S_law_net S_law_right S_law_spoilt)) F YC (λcdv A outer s H E hr=>(qg (DA PassesOwn.never rfl (zF rfl m_range (qa (jr qe (qt (NH rfl) qeN rfl m_min PyProof.Rows.boot_min (qa qe (qa (qt qK zp rfl m_len PySem.boot_len (qa (qb 0) qd)) qd)))) qd) (h1:=by intro _ _ _ h;simpa [qc,ql] using h)) (zd (i:=1) (YC.nd)) (qg (qU 2 YC.nd (qh F_law_left hr rfl (qa (qb 0) (qa (qb 1) qd)))) (qg (qU 3 YC.nd (zW (JC (qa qe (qa qe (qa qe (qa qe qd))))) (qh F_law_pick hr rfl (qa (qb 2) (qa qe qd))))) (qg (qU 4 YC.nd (qh jD hr rfl (qa (qh F_law_order hr rfl (qa (qb 2) (qa (qb 3) qd))) qd))) (qg (zN (qX (zB hr.units) qV (qh F_law_pick hr rfl (qa (qb 2) (qa qe qd))) qe (qC _)) (qm (qU 4 YC.nd (qh F_law_net hr rfl (qa (qb 2) (qa (qb 3) qd))))) qW) (qg (zN (QE (zY (qh qF hr rfl (qa (qb 4) (qa (qb 3) qd))))) (qm (qr YL)) qW) (qm (DA PassesOwn.never rfl (zF rfl m_range (qa qe qd) (h1:=by intro _ _ _ h;simpa [qc,ql] using h)) (zd (i:=5) (YC.nd)) (qg (qU 6 YC.nd (qb 4)) (qg (DA PassesOwn.never rfl (zF rfl m_range (qa (jr qe (qh F_law_pick hr rfl (qa (qb 2) (qa qe qd)))) qd) (h1:=by intro _ _ _ h;simpa [qc,ql] using h)) (zd (i:=7) (YC.nd)) (qm (qU 6 YC.nd (qh F_law_spoilt hr rfl (qa (qb 2) (qa (qb 6) (qa qe qd))))))) (qm (zN (jpt (U6 (QE (zY (qh qF hr rfl (qa (qb 6) (qa (qb 3) qd))))) (YE (QE (zY (qh qF hr rfl (qa (qb 6) (qa (zW (JC (qa qe (qa qe (qa qe (qa qe qd))))) (qh F_law_pick hr rfl (qa (qb 2) (qa qe qd)))) qd)))))))) (qm (qr YL)) qW)))))))))))) (qm (qr YL)))) read
end K60
namespace K60
open PySem L2 L3 Pu
def zm:PuS (Bk.ZQ):=(V0 (D0 (S5 (λt=>qZ t "int") (bV 0)) (qet (S5 (λt=>qZ t "bool") (bV 0)))))
def qB:List PyData->Option PyData:=Pu.run zm.f 1 1 1000000000 false
def C5:Rd (PSp qB false) 1 (Bk.ZQ) Q8:=zT zm Q8 1 1000000000 false
def UX {x0:PyData}:qB [x0]=UY false (zm.f 1000000000 [.sh x0]):=id rfl
def qu:PuS (K60.zI (PSp qB false)):=(V0 (D0 (qv (zn qB false) (qf (bV 0) qs)) (bCh (opB λi j=>decide (i<=j)) (opB λi j=>decide (i<j)) (qz 0) (bV 0) (bV 1))))
def qk:List PyData->Option PyData:=Pu.run qu.f 2 2 1000000000 false
def VE:Rd (PSp qk false) 2 (K60.zI (PSp qB false)) zh:=zT qu zh 2 1000000000 false
def VW {x0 x1:PyData}:qk [x0,x1]=UY false (qu.f 1000000000 [.sh x0,.sh x1]):=id rfl
def qG:PuS (K60.jt (PSp qk false)):=(V0 (D0 (S5 (λt=>qZ t "tuple") (bV 0)) (D0 (bO (EN false) (qv RW (qf (bV 0) qs)) (bV 1)) (qv qk5 (qf (bLc (qc4 (bV 0)) (gN 0) bTt (qv (zn qk false) (qf (bV 0) (qf (qz 2) qs))) [none] ⟨rfl⟩) qs)))))
def qA:List PyData->Option PyData:=Pu.run qG.f 2 2 1000000000 false
def DN:Rd (PSp qA false) 2 (K60.jt (PSp qk false)) jv:=zT qG jv 2 1000000000 false
def DP {x0 x1:PyData}:qA [x0,x1]=UY false (qG.f 1000000000 [.sh x0,.sh x1]):=id rfl
def QC (Ff:List PyData->Option PyData):PuS (K60.EM (PSp qk false) (PSp qA false) (PSp Ff false)):=(QQ (sIf (bTb (bO (EN false) (bV 1) (qz 2))) (V0 (qv (zn qk false) (qf (bV 0) (qf (qz 2) qs)))) Z9) (QQ (sIf (bOr (R8 (bTb (S5 (λt=>qZ t "tuple") (bV 0)))) (bTb (bO (EN true) (qv RW (qf (bV 0) qs)) (qz 4)))) (V0 (bBl false)) Z9) (QQ (qco (bV 0) (qbp 4 (QN (gN 2) (QN (gN 3) (QN (gN 4) (QN (gN 5) qbM))))) [true] ⟨rfl⟩) (QQ (CA (bO (opC Q7 (·/·)) (bV 1) (qz 2)) 6 [false,true] ⟨rfl⟩) (QQ (sIf (bOr (R8 (bTb (qv (zn qA false) (qf (bV 2) (qf (bV 6) qs))))) (R8 (bTb (qv (zn qA false) (qf (bV 5) (qf (bV 6) qs)))))) (V0 (bBl false)) Z9) (V0 (D0 (qv (zn Ff false) (qf (bV 3) (qf (bV 6) qs))) (qv (zn Ff false) (qf (bV 4) (qf (bV 6) qs))))))))))
def jc:Nat->List PyData->Option PyData
 |0=>λ_=>none
 |j+1=>Pu.run (QC (jc j)).f 2 7 1000000000 false
def JR (j:Nat):Rd (PSp (jc (j+1)) false) 2 (K60.EM (PSp qk false) (PSp qA false) (PSp (jc j) false)) YX:=zT (QC (jc j)) YX 2 1000000000 false
def CB {j:Nat} {x0 x1:PyData}:jc (j+1) [x0,x1]=UY false ((QC (jc j)).f 1000000000 [.sh x0,.sh x1,.un,.un,.un,.un,.un]):=id rfl
def JZ:PuS (K60.J4):=(QQ (CA (LW qs ⟨rfl⟩) 2 [] ⟨rfl⟩) (QQ (qlj (qf5 (qf (bV 0) qs)) (qbp 2 (QN (gN 3) (QN (gN 4) qbM))) (QQ (qlo (qf (bO EF (bV 1) (bO (opC EC (·*·)) (qz 2) (bV 3))) (qf (bO EF (bV 1) (bO WV (bO (opC EC (·*·)) (qz 2) (bV 3)) (qz 1))) qs)) 5 6 [false,true,false,true] ⟨rfl⟩) (sIf (bTb (bO (EN false) (bV 4) (qz 1))) (qfm (LW (qf (bV 6) (qf (bV 5) qs)) ⟨rfl⟩) 2 [false,false,false,false,false,true,true] ⟨rfl⟩) (qfm (LW (qf (bV 5) (qf (bV 6) qs)) ⟨rfl⟩) 2 [false,false,false,false,false,true,true] ⟨rfl⟩))) [true] ⟨rfl⟩) (qbu 2)))
def q5:List PyData->Option PyData:=Pu.run JZ.f 2 7 1000000000 true
def SM:Rd (PSp q5 true) 2 (K60.J4) Q6:=zT JZ Q6 2 1000000000 true
def S7 {x0 x1:PyData}:q5 [x0,x1]=UY true (JZ.f 1000000000 [.sh x0,.sh x1,.un,.un,.un,.un,.un]):=id rfl
def MR (Ff:List PyData->Option PyData):PuS (K60.qcq (PSp q5 true) (PSp Ff true)):=(QQ (sIf (bTb (bO (EN false) (qv RW (qf (bV 1) qs)) (qz 2))) (V0 (qv (zn q5 true) (qf (LW (qf (bV 0) qs) ⟨rfl⟩) (qf (bV 1) qs)))) Z9) (QQ (qco (bV 0) (qbp 4 (QN (gN 2) (QN (gN 3) (QN (gN 4) (QN (gN 5) qbM))))) [true] ⟨rfl⟩) (QQ (CA (qv (zn q5 true) (qf (bV 2) (qf (bV 1) qs))) 6 [false,true,true] ⟨rfl⟩) (QQ (qlo (qf (qv (zn Ff true) (qf (bV 3) (qf (qha (bV 6) (bSp (qz 0)) (bSp (qz 2))) qs))) (qf (qv (zn Ff true) (qf (bV 4) (qf (qha (bV 6) (bSp (qz 1)) (bSp (qz 2))) qs))) qs)) 7 8 [false,false,false,true,true,false,true] ⟨rfl⟩) (V0 (qv (zn q5 true) (qf (bV 5) (qf (qnU (qlc (qf (bV 7) (qf (bV 8) qs))) (gN 0) bTt (qc4 (bV 0)) (gN 1) bTt (bV 1) [none,none] ⟨rfl⟩ ⟨rfl⟩ ⟨rfl⟩) qs))))))))
def VJ:Nat->List PyData->Option PyData
 |0=>λ_=>none
 |j+1=>Pu.run (MR (VJ j)).f 2 9 1000000000 true
def TW (j:Nat):Rd (PSp (VJ (j+1)) true) 2 (K60.qcq (PSp q5 true) (PSp (VJ j) true)) qbf:=zT (MR (VJ j)) qbf 2 1000000000 true
def qdU {j:Nat} {x0 x1:PyData}:VJ (j+1) [x0,x1]=UY true ((MR (VJ j)).f 1000000000 [.sh x0,.sh x1,.un,.un,.un,.un,.un,.un,.un]):=id rfl
def QZ (Ff:List PyData->Option PyData):PuS (K60.J5 (PSp Ff false)):=(QQ (sIf (bTb (bO (EN false) (bV 1) (qz 2))) (qbu 0) Z9) (QQ (qco (bV 0) (qbp 4 (QN (gN 2) (QN (gN 3) (QN (gN 4) (QN (gN 5) qbM))))) [true] ⟨rfl⟩) (V0 (CZ (qf (bV 5) (qf (qv (zn Ff false) (qf (bV 3) (qf (bO (opC Q7 (·/·)) (bV 1) (qz 2)) qs))) (qf (qv (zn Ff false) (qf (bV 4) (qf (bO (opC Q7 (·/·)) (bV 1) (qz 2)) qs))) (qf (bV 2) qs)))) ⟨rfl⟩))))
def zw:Nat->List PyData->Option PyData
 |0=>λ_=>none
 |j+1=>Pu.run (QZ (zw j)).f 2 6 1000000000 false
def ZP (j:Nat):Rd (PSp (zw (j+1)) false) 2 (K60.J5 (PSp (zw j) false)) QU:=zT (QZ (zw j)) QU 2 1000000000 false
def DQ {j:Nat} {x0 x1:PyData}:zw (j+1) [x0,x1]=UY false ((QZ (zw j)).f 1000000000 [.sh x0,.sh x1,.un,.un,.un,.un]):=id rfl
def J2:PuS (K60.J0 (PSp (zw 4) false) (PSp (VJ 4) true)):=(V0 (qv (zn (VJ 4) true) (qf (qv (zn (zw 4) false) (qf (bV 0) (qf (qv RW (qf (bV 1) qs)) qs))) (qf (bV 1) qs))))
def zH:List PyData->Option PyData:=Pu.run J2.f 2 2 1000000000 true
def SO:Rd (PSp zH true) 2 (K60.J0 (PSp (zw 4) false) (PSp (VJ 4) true)) QY:=zT J2 QY 2 1000000000 true
def SK {x0 x1:PyData}:zH [x0,x1]=UY true (J2.f 1000000000 [.sh x0,.sh x1]):=id rfl
def ZK:PuS (K60.ZR):=(QQ (CA (bLc (M9 (qf (qv RW (qf (bV 0) qs)) qs)) (gN 0) bTt (qfD (bV 1) (qf (bV 0) qs)) [none,some 0] ⟨rfl⟩) 1 [true] ⟨rfl⟩) (QQ (CA (bLc (qc4 (bV 0)) (gN 0) bTt qhU [none] ⟨rfl⟩) 2 [true] ⟨rfl⟩) (QQ (qlj (M9 (qf (qv RW (qf (bV 0) qs)) qs)) (gN 3) (QQ (CA (bV 3) 4 [false,false,false,true] ⟨rfl⟩) (sWh (bTb (bO (qjB false) (bO EF (bV 2) (bV 4)) qhU)) (QQ (qnp (qz 0) 2 (bV 4) [] ⟨rfl⟩) (QQ (qnp (qz 1) 2 (bO (opI Builtin.bitXor) (bV 4) (qz 1)) [] ⟨rfl⟩) (CA (bO EF (bV 1) (bO (opI Builtin.bitXor) (bO EF (bV 0) (bO (opI Builtin.bitXor) (bV 4) (qz 1))) (qz 1))) 4 [true,true,false,false,true] ⟨rfl⟩))))) [true] ⟨rfl⟩) (qbu 2))))
def zC:List PyData->Option PyData:=Pu.run ZK.f 1 5 1000000000 true
def RC:Rd (PSp zC true) 1 (K60.ZR) ZS:=zT ZK ZS 1 1000000000 true
def RG {x0:PyData}:zC [x0]=UY true (ZK.f 1000000000 [.sh x0,.un,.un,.un,.un]):=id rfl
def J8 (Ff:List PyData->Option PyData):PuS (K60.EI (PSp zC true) (PSp Ff false)):=(QQ (sIf (bTb (bO (EN false) (qv RW (qf (bV 0) qs)) (qz 2))) (V0 (bO EF (bV 0) (qz 0))) Z9) (QQ (CA (qv (zn zC true) (qf (bV 0) qs)) 1 [true] ⟨rfl⟩) (QQ (CA (qv qbr (qf (qha (bV 1) (bSp (qz 0)) (bSp (qz 2))) qs)) 2 [false,true] ⟨rfl⟩) (QQ (CA (qv qbr (qf (bLc (iEv (qf (qz 0) (qf (qv RW (qf (bV 0) qs)) (qf (qz 2) qs)))) (gN 0) bTt (bO EF (bV 1) (qfD (bV 2) (qf (bV 0) qs))) [none,some 1,some 0] ⟨rfl⟩) qs)) 3 [true,true] ⟨rfl⟩) (QQ (CA (qv qbr (qf (bLc (qlc (qf (bV 0) (qf (bV 1) qs))) (qbp 2 (QN (gN 0) (QN (gN 1) qbM))) (bTb (bO (EN false) (bV 1) (qz 0))) (bO (opC Q7 (·/·)) (bV 0) (qz 2)) [none,none] ⟨rfl⟩) qs)) 4 [true,true] ⟨rfl⟩) (QQ (CA (qv qbr (qf (bLc (qlc (qf (bV 0) (qf (bV 1) qs))) (qbp 2 (QN (gN 0) (QN (gN 1) qbM))) (bTb (bO (EN false) (bV 1) (qz 1))) (bO (opC Q7 (·/·)) (bV 0) (qz 2)) [none,none] ⟨rfl⟩) qs)) 5 [true,true] ⟨rfl⟩) (V0 (CZ (qf (bV 2) (qf (qv (zn Ff false) (qf (bV 4) qs)) (qf (qv (zn Ff false) (qf (bV 5) qs)) (qf (bV 3) qs)))) ⟨rfl⟩))))))))
def jh:Nat->List PyData->Option PyData
 |0=>λ_=>none
 |j+1=>Pu.run (J8 (jh j)).f 1 6 1000000000 false
def VX (j:Nat):Rd (PSp (jh (j+1)) false) 1 (K60.EI (PSp zC true) (PSp (jh j) false)) EL:=zT (J8 (jh j)) EL 1 1000000000 false
def RK {j:Nat} {x0:PyData}:jh (j+1) [x0]=UY false ((J8 (jh j)).f 1000000000 [.sh x0,.un,.un,.un,.un,.un]):=id rfl
def J3:PuS (K60.J7 (PSp qB false)):=(QQ (sIf (bOr (R8 (bTb (S5 (λt=>qZ t "tuple") (bV 0)))) (bTb (bO (qnP true) (qv RW (qf (bV 0) qs)) (CZ (qf (qz 2) (qf (qz 4) (qf (qz 8) (qf (qz 16) qs)))) ⟨rfl⟩)))) (V0 (bBl false)) Z9) (V0 (D0 (qv qk5 (qf (bLc (qc4 (bV 0)) (gN 0) bTt (qv (zn qB false) (qf (bV 0) qs)) [none] ⟨rfl⟩) qs)) (bO (EN false) (qv qhm (qf (bV 0) qs)) (qmt (qv RW (qf (bV 0) qs)))))))
def zV:List PyData->Option PyData:=Pu.run J3.f 1 1 1000000000 false
def SV:Rd (PSp zV false) 1 (K60.J7 (PSp qB false)) Q0:=zT J3 Q0 1 1000000000 false
def RY {x0:PyData}:zV [x0]=UY false (J3.f 1000000000 [.sh x0]):=id rfl
def VV:PuS (K60.VY (PSp zV false) (PSp (jh 4) false)):=(QQ (sIf (R8 (bTb (qv (zn zV false) (qf (bV 0) qs)))) qo3 Z9) (V0 (qv (zn (jh 4) false) (qf (bV 0) qs))))
def jD:List PyData->Option PyData:=Pu.run VV.f 1 1 1000000000 false
def LH:Rd (PSp jD false) 1 (K60.VY (PSp zV false) (PSp (jh 4) false)) JK:=zT VV JK 1 1000000000 false
def LQ {x0:PyData}:jD [x0]=UY false (VV.f 1000000000 [.sh x0]):=id rfl
def JB:=((eDr YA (aOf (qf (qz 2) qs))):PwE 1 _)
def Z6:=((eDr YA (aOf (qf (qz 2) qs))):PwE 1 _)
def Z7 (Wf:Wm):PwS 0 (K60.Y0 Bk.qD (DSp Wf.W false)):=(U5 (wIf (cOf (bTb (bO (EN false) (bV 1) (qz 2)))) (CW (eDr YA (aOf (qf (qz 2) qs)))) UD) (U5 (K3 (LL qbr (YZ (eLc 1 (iOf (M9 (qf (bO (opC Q7 (·/·)) (bV 1) (qz 2)) qs))) (gN 0) (cOf bTt) JB [none,some 0] ⟨rfl⟩ ⟨rfl⟩) (aOf qs))) 2 [false,true] ⟨rfl⟩ ⟨rfl⟩) (U5 (K3 (eDr (dSp Wf false) (aOf (qf (bO (opC Q7 (·/·)) (bV 1) (qz 2)) qs))) 3 [false,true] ⟨rfl⟩ ⟨rfl⟩) (U5 (K3 (eDr (dSp Wf false) (aOf (qf (bO (opC Q7 (·/·)) (bV 1) (qz 2)) qs))) 4 [false,true] ⟨rfl⟩ ⟨rfl⟩) (CW (qlp (YZ (eOf (bV 2)) (YZ (eOf (bV 3)) (YZ (eOf (bV 4)) (YZ (LL qbr (YZ (eLc 1 (iOf (M9 (qf (bO (opC Q7 (·/·)) (bV 1) (qz 2)) qs))) (gN 0) (cOf bTt) Z6 [none,some 0] ⟨rfl⟩ ⟨rfl⟩) (aOf qs))) (aOf qs))))) ⟨rfl⟩))))))
def zE:Nat->Wm
 |0=>wNo
 |j+1=>qgl (Z7 (zE j)) 2 5 false
def JX (j:Nat):Rd (DSp (zE (j+1)).W false) 2 (K60.Y0 Bk.qD (DSp (zE j).W false)) VC:=DZ (Z7 (zE j)) VC 2 false
def WL {j:Nat} {x0:PyData} {n:Nat} {Q:QD}:(zE (j+1)).W [x0] n Q=(2=2/\(Z7 (zE j)).w [.un,.sh x0,.un,.un,.un] n (qbH false Q)):=id rfl
def Q1 (Ff:List PyData->Option PyData):PuS (K60.JU (PSp Ff false)):=(QQ (sIf (bTb (S5 (λt=>qZ t "int") (bV 0))) (V0 (bO (opC (λ_ j=>0<j) (·%·)) (bO WV (bV 1) (bV 0)) (qz 2))) Z9) (QQ (CA (bO (opC (λ_ j=>0<j) (·%·)) (bO WV (bV 1) (bO EF (bO EF (bV 0) (qz 0)) (bO (opC Q7 (·/·)) (bV 1) (qz 2)))) (qz 2)) 2 [true,true] ⟨rfl⟩) (QQ (CA (qv (zn Ff false) (qf (bO EF (bV 0) (bO WV (qz 1) (bV 2))) (qf (bO (opC Q7 (·/·)) (bV 1) (qz 2)) qs))) 3 [true,true,true] ⟨rfl⟩) (V0 (bO WV (bO (opC EC (·*·)) (qz 2) (bV 3)) (bO (opC (λ_ j=>0<j) (·%·)) (bO WV (bV 2) (bO EF (bO EF (bV 0) (qz 3)) (bV 3))) (qz 2)))))))
def qR:Nat->List PyData->Option PyData
 |0=>λ_=>none
 |j+1=>Pu.run (Q1 (qR j)).f 2 4 1000000000 false
def ZJ (j:Nat):Rd (PSp (qR (j+1)) false) 2 (K60.JU (PSp (qR j) false)) QX:=zT (Q1 (qR j)) QX 2 1000000000 false
def DR {j:Nat} {x0 x1:PyData}:qR (j+1) [x0,x1]=UY false ((Q1 (qR j)).f 1000000000 [.sh x0,.sh x1,.un,.un]):=id rfl
def qx (Ff:List PyData->Option PyData):PuS (K60.QG (PSp Ff false)):=(QQ (sIf (bTb (bO (EN false) (bV 1) (qz 2))) (V0 (D0 (S5 (λt=>qZ t "int") (bV 0)) (D0 (qet (S5 (λt=>qZ t "bool") (bV 0))) (bO (qnP false) (bV 0) (CZ (qf (qz 0) (qf (qz 1) qs)) ⟨rfl⟩))))) Z9) (QQ (sIf (bOr (R8 (bTb (S5 (λt=>qZ t "tuple") (bV 0)))) (bTb (bO (EN true) (qv RW (qf (bV 0) qs)) (qz 4)))) (V0 (bBl false)) Z9) (QQ (qlj (qc4 (CZ (qf (bO EF (bV 0) (qz 0)) (qf (bO EF (bV 0) (qz 3)) qs)) ⟨rfl⟩)) (gN 2) (QQ (sIf (bOr (R8 (bTb (S5 (λt=>qZ t "tuple") (bV 2)))) (bTb (bO (EN true) (qv RW (qf (bV 2) qs)) (bO (opC Q7 (·/·)) (bV 1) (qz 2))))) (V0 (bBl false)) Z9) (sIf (R8 (bTb (qv qk5 (qf (bLc (qc4 (bV 2)) (gN 0) bTt (qv (zn Ff false) (qf (bV 0) (qf (qz 2) qs))) [none] ⟨rfl⟩) qs)))) (V0 (bBl false)) Z9)) [true] ⟨rfl⟩) (V0 (D0 (qv (zn Ff false) (qf (bO EF (bV 0) (qz 1)) (qf (bO (opC Q7 (·/·)) (bV 1) (qz 2)) qs))) (qv (zn Ff false) (qf (bO EF (bV 0) (qz 2)) (qf (bO (opC Q7 (·/·)) (bV 1) (qz 2)) qs))))))))
def qy:Nat->List PyData->Option PyData
 |0=>λ_=>none
 |j+1=>Pu.run (qx (qy j)).f 2 3 1000000000 false
def jd (j:Nat):Rd (PSp (qy (j+1)) false) 2 (K60.QG (PSp (qy j) false)) j9:=zT (qx (qy j)) j9 2 1000000000 false
def VN {j:Nat} {x0 x1:PyData}:qy (j+1) [x0,x1]=UY false ((qx (qy j)).f 1000000000 [.sh x0,.sh x1,.un]):=id rfl
def QP:=((M4 (eDr YA (aOf (qf (qv RW (qf (bV 2) qs)) qs))) 3 2 [false,false,true] ⟨rfl⟩ ⟨rfl⟩):PwS 0 _)
def ZY:PwS 0 (K60.ZH Bk.qD):=(U5 (qj5 (qmt (bV 1)) (LW qs ⟨rfl⟩) 2 3 [false,true] ⟨rfl⟩ ⟨rfl⟩ ⟨rfl⟩ ⟨rfl⟩ ⟨rfl⟩ ⟨rfl⟩) (U5 (qll (iOf (M9 (qf (bV 1) qs))) (gN 4) QP [false,true] ⟨rfl⟩ ⟨rfl⟩) (CW (eOf (qv qbr (qf (bV 3) qs))))))
def jq:Wm:=qgl ZY 2 5 false
def CK:Rd (DSp jq.W false) 2 (K60.ZH Bk.qD) jZ:=DZ ZY jZ 2 false
def CJ {x0:PyData} {n:Nat} {Q:QD}:jq.W [x0] n Q=(2=2/\ZY.w [.un,.sh x0,.un,.un,.un] n (qbH false Q)):=id rfl
def zO:PwS 0 (K60.zP Bk.qD):=(U5 (K3 (eOf (LW (qf (qz 1) (qf (qz 0) (qf (qz 2) (qf (qot (qz 1)) (qf (bBl true) (qf (bBl false) (qf qhU (qf (qne "0") (qf (CZ qs ⟨rfl⟩) (qf (CZ (qf (qz 0) qs) ⟨rfl⟩) (qf (LW (qf (qz 0) qs) ⟨rfl⟩) (qf (CZ (qf (qz 0) (qf (qz 1) qs)) ⟨rfl⟩) qs)))))))))))) ⟨rfl⟩)) 2 [] ⟨rfl⟩ ⟨rfl⟩) (U5 (K3 (eDr YA (aOf (qf (qz 24) qs))) 3 [] ⟨rfl⟩ ⟨rfl⟩) (U5 (wIf (cOf (qoh (bTb (bO (opB λi j=>decide (j<=i)) (bV 3) (qz 12))) (bTb (S5 (λt=>qZ t "int") (bV 1))))) (CW (eOf (bO qoJ (qz 1) (bV 1)))) UD) (CW (eOf (bO EF (bV 2) (bO (opC (λ_ j=>0<j) (·%·)) (bV 3) (qz 12))))))))
def qI:Wm:=qgl zO 2 4 false
def UR:Rd (DSp qI.W false) 2 (K60.zP Bk.qD) zu:=DZ zO zu 2 false
def UJ {x0:PyData} {n:Nat} {Q:QD}:qI.W [x0] n Q=(2=2/\zO.w [.un,.sh x0,.un,.un] n (qbH false Q)):=id rfl
def zX:PwS 0 (K60.jj Bk.qD):=(U5 (qol (YZ (eDr YA (aOf (qf (qz 7) qs))) (YZ (eDr YA (aOf (qf (bO jm (qv RW (qf (bV 1) qs)) (qz 1)) qs))) (aOf qs))) 2 3 [false,true] ⟨rfl⟩ ⟨rfl⟩) (U5 (K3 (eO EF (eOf (LW (qf (qz 0) (qf (qz 1) (qf (CZ (qf (qz 0) qs) ⟨rfl⟩) (qf (CZ (qf (qz 0) (qf (qz 0) qs)) ⟨rfl⟩) (qf qhU (qf (CZ (qf (CZ (qf (qz 0) qs) ⟨rfl⟩) (qf (qz 0) (qf (qz 0) (qf (CZ (qf (qz 0) qs) ⟨rfl⟩) qs)))) ⟨rfl⟩) (qf (qne "1") qs))))))) ⟨rfl⟩)) (eDr YA (aOf (qf (qz 7) qs)))) 4 [] ⟨rfl⟩ ⟨rfl⟩) (U5 (wIf (cOf (bTb (bO (EN false) (bV 2) (qz 0)))) (CW (eOf (bO jm (LK (bV 1) bNp (bSp (bV 3))) (LK (bV 1) (bSp (bO jm (bV 3) (qz 1))) bNp)))) UD) (U5 (wIf (cOf (bTb (bO (EN false) (bV 2) (qz 1)))) (CW (eOf (bO jm (bO jm (LK (bV 1) bNp (bSp (bV 3))) (LK (bV 1) (bSp (bV 3)) (bSp (bO jm (bV 3) (qz 1))))) (LK (bV 1) (bSp (bV 3)) bNp)))) UD) (U5 (wIf (cOf (bTb (bO (opB λi j=>decide (i<j)) (bV 2) (qz 4)))) (CW (eOf (bO jm (bO jm (LK (bV 1) bNp (bSp (bV 3))) (qn3 (LK (bV 1) (bSp (bV 3)) (bSp (bO jm (bV 3) (qz 2)))))) (LK (bV 1) (bSp (bO jm (bV 3) (qz 2))) bNp)))) UD) (U5 (wIf (cOf (bTb (bO (EN false) (bV 2) (qz 4)))) (CW (eOf (qv qmr (qf (bV 1) qs)))) UD) (CW (eOf (bO jm (bO jm (LK (bV 1) bNp (bSp (bV 3))) (CZ (qf (bV 4) qs) ⟨rfl⟩)) (LK (bV 1) (bSp (bO (opI (·-·)) (bO jm (bV 3) (bV 2)) (qz 5))) bNp))))))))))
def qT:Wm:=qgl zX 2 5 false
def U4:Rd (DSp qT.W false) 2 (K60.jj Bk.qD) zD:=DZ zX zD 2 false
def EB {x0:PyData} {n:Nat} {Q:QD}:qT.W [x0] n Q=(2=2/\zX.w [.un,.sh x0,.un,.un,.un] n (qbH false Q)):=id rfl
def QH (Wf:Wm):PwS 0 (K60.QF (DSp qI.W false) Bk.qD (DSp qT.W false) (DSp Wf.W false)):=(U5 (wIf (cOf (R8 (bTb (S5 (λt=>qZ t "tuple") (bV 1))))) (CW (eDr (dSp qI false) (aOf (qf (bV 1) qs)))) UD) (U5 (wIf (cOr (cOf (bTb (bO (EN false) (bV 1) (CZ qs ⟨rfl⟩)))) (cOr (cOf (bTb (bO (EN false) (bV 2) (qz 0)))) (cTb (eO (EN false) (eDr YA (aOf (qf (qz 7) qs))) (eOf (qz 0)))))) (CW (eDr (dSp qT false) (aOf (qf (bV 1) qs)))) UD) (U5 (K3 (eDr YA (aOf (qf (qv RW (qf (bV 1) qs)) qs))) 3 [false,true] ⟨rfl⟩ ⟨rfl⟩) (CW (eO jm (eO jm (eOf (LK (bV 1) bNp (bSp (bV 3)))) (qlp (YZ (eDr (dSp Wf false) (aOf (qf (bO EF (bV 1) (bV 3)) (qf (bO (opI (·-·)) (bV 2) (qz 1)) qs)))) (aOf qs)) ⟨rfl⟩)) (eOf (LK (bV 1) (bSp (bO jm (bV 3) (qz 1))) bNp)))))))
def qQ:Nat->Wm
 |0=>wNo
 |j+1=>qgl (QH (qQ j)) 3 4 false
def qP (j:Nat):Rd (DSp (qQ (j+1)).W false) 3 (K60.QF (DSp qI.W false) Bk.qD (DSp qT.W false) (DSp (qQ j).W false)) jA:=DZ (QH (qQ j)) jA 3 false
def XZ {j:Nat} {x0 x1:PyData} {n:Nat} {Q:QD}:(qQ (j+1)).W [x0,x1] n Q=(3=3/\(QH (qQ j)).w [.un,.sh x0,.sh x1,.un] n (qbH false Q)):=id rfl
def ZF:PuS (K60.ZV (PSp (jc 5) false) (PSp (qy 5) false) (PSp (qR 4) false) (PSp (VJ 4) true) (Bk.jn 4) (PSp zH true)):=(QQ (qlo (qf (qv (qf0 true) (qf (bV 0) qs)) (qf (qv (zn (jc 5) false) (qf (bV 0) (qf (bV 1) qs))) qs)) 2 3 [true,true] ⟨rfl⟩) (QQ (sIf (bOr (R8 (bTb (S5 (λt=>qZ t "bool") (bV 3)))) (bOr (bTb (bO (EN true) (bV 3) (qv (zn (qy 5) false) (qf (bV 0) (qf (bV 1) qs))))) (bTb (bO (EN true) (qv (qf0 true) (qf (bV 0) qs)) (bV 2))))) (V0 (bBl false)) Z9) (QQ (sIf (bTb (bV 3)) (QQ (CA (bLc (M9 (qf (bV 1) qs)) (gN 0) bTt (bO (opC EC (·*·)) (qz 3) (bV 0)) [none] ⟨rfl⟩) 4 [false,true] ⟨rfl⟩) (QQ (CA (bLc (M9 (qf (bV 1) qs)) (gN 0) bTt (qv (zn (qR 4) false) (qf (bV 1) (qf (bV 0) qs))) [none,some 0] ⟨rfl⟩) 5 [true,true] ⟨rfl⟩) (QQ (sIf (R8 (bTb (qv (qbz 3) (qf (qv (zn (VJ 4) true) (qf (bV 0) (qf (bV 4) qs))) (qf (bLc (M9 (qf (bV 1) qs)) (gN 0) bTt (bO EF (bV 1) (qoa (bV 2) (qf (bV 0) qs))) [none,some 4,some 5] ⟨rfl⟩) qs))))) (V0 (bBl false)) Z9) (V0 (qv (qbz 3) (qf (qv (zn zH true) (qf (bV 0) (qf (qv (zn (VJ 4) true) (qf (bV 0) (qf (bV 4) qs))) qs))) (qf (bV 4) qs))))))) Z9) (V0 (bBl true)))))
def qF:List PyData->Option PyData:=Pu.run ZF.f 2 6 1000000000 false
def RF:Rd (PSp qF false) 2 (K60.ZV (PSp (jc 5) false) (PSp (qy 5) false) (PSp (qR 4) false) (PSp (VJ 4) true) (Bk.jn 4) (PSp zH true)) ZE:=zT ZF ZE 2 1000000000 false
def CG {x0 x1:PyData}:qF [x0,x1]=UY false (ZF.f 1000000000 [.sh x0,.sh x1,.un,.un,.un,.un]):=id rfl
def qnF (S_law_pick:Sp3) (S_law_order:Sp3) (S_net_for:Sp3) (S_law_net:Sp3) (S_law_right:Sp3) (S_law_spoilt:Sp3):TS3:=(qY (zQ (o3 ix3 (RN (qc (c3 (.int 2)) (qc (c3 (.int 4)) (qc (c3 (.int 8)) (qc (c3 (.int 16)) ql))))) (cb3 S_law_pick (qc (v3 2) (qc (c3 (.int 4)) ql)))) (gn3 3)) (qY (zQ (cb3 S_net_for (qc (cb3 S_law_order (qc (v3 2) (qc (v3 3) ql))) ql)) (gn3 4)) (qY (QB (tb3 (o3 (QK false) (cb3 S_law_pick (qc (v3 2) (qc (c3 (.int 2)) ql))) (c3 (.int 0)))) (zQ (cb3 S_law_net (qc (v3 2) (qc (v3 3) ql))) (gn3 4)) za) (qY (QB (D7 (tb3 (cb3 S_law_right (qc (v3 4) (qc (v3 3) ql))))) (zz (c3 (.bl false))) za) (S6 (ZO (qc (c3 (.int 10)) ql)) (gn3 5) (qY (zQ (v3 4) (gn3 6)) (qY (S6 (ZO (qc (o3 V1 (c3 (.int 1)) (cb3 S_law_pick (qc (v3 2) (qc (c3 (.int 3)) ql)))) ql)) (gn3 7) (zQ (cb3 S_law_spoilt (qc (v3 2) (qc (v3 6) (qc (c3 (.int 8)) ql)))) (gn3 6))) (QB (or3 (D7 (tb3 (cb3 S_law_right (qc (v3 6) (qc (v3 3) ql))))) (D7 (tb3 (cb3 S_law_right (qc (v3 6) (qc (o3 ix3 (RN (qc (c3 (.int 2)) (qc (c3 (.int 4)) (qc (c3 (.int 8)) (qc (c3 (.int 16)) ql))))) (cb3 S_law_pick (qc (v3 2) (qc (c3 (.int 4)) ql)))) ql)))))) (zz (c3 (.bl false))) za))))))))
def XG:=((K3 (eDr (dSp (qQ 9) false) (aOf (qf (bV 6) (qf (qz 8) qs)))) 6 [false,false,false,false,false,false,true] ⟨rfl⟩ ⟨rfl⟩):PwS 2 _)
def XC:=((U5 (K3 (eOf (bV 4)) 6 [false,false,false,false,true] ⟨rfl⟩ ⟨rfl⟩) (U5 (qll (iR (YZ (eO WV (eOf (qz 1)) (eDr YA (aOf (qf (qz 3) qs)))) (aOf qs))) (gN 7) XG [] ⟨rfl⟩ ⟨rfl⟩) (wIf (cOr (cOf (R8 (bTb (qv (zn qF false) (qf (bV 6) (qf (bV 3) qs)))))) (qoe (cTb (LL (zn qF false) (YZ (eOf (bV 6)) (YZ (eO EF (eOf (LW (qf (qz 2) (qf (qz 4) (qf (qz 8) (qf (qz 16) qs)))) ⟨rfl⟩)) (eDr YA (aOf (qf (qz 4) qs)))) (aOf qs))))))) (CW (eOf (bBl false))) UD))):PwS 2 _)
def qcn:PwS 2 (qnF Bk.qD (DSp jq.W false) (PSp jD false) (DSp (zE 4).W false) (PSp qF false) (DSp (qQ 9).W false)):=(U5 (K3 (eO EF (eOf (LW (qf (qz 2) (qf (qz 4) (qf (qz 8) (qf (qz 16) qs)))) ⟨rfl⟩)) (eDr YA (aOf (qf (qz 4) qs)))) 3 [] ⟨rfl⟩ ⟨rfl⟩) (U5 (K3 (LL (zn jD false) (YZ (eDr (dSp jq false) (aOf (qf (bV 3) qs))) (aOf qs))) 4 [false,false,false,true] ⟨rfl⟩ ⟨rfl⟩) (U5 (wIf (cTb (eO (EN false) (eDr YA (aOf (qf (qz 2) qs))) (eOf (qz 0)))) (K3 (eDr (dSp (zE 4) false) (aOf (qf (bV 3) qs))) 4 [false,false,false,true] ⟨rfl⟩ ⟨rfl⟩) UD) (U5 (wIf (cOf (R8 (bTb (qv (zn qF false) (qf (bV 4) (qf (bV 3) qs)))))) (CW (eOf (bBl false))) UD) (qll (iOf (M9 (qf (qz 10) qs))) (gN 5) XC [] ⟨rfl⟩ ⟨rfl⟩)))))
def qkM (h:∀ k:Nat,k<=60->qcn.w [.un,.sh (.int k),.un,.un,.un,.un,.un,.un] 0 okW):Rd WG 1 (K60.qf3 Bk.ZD Bk.qD (DSp jq.W false) (PSp jD false) (DSp (zE 4).W false) (PSp qF false) (DSp (qQ 9).W false)) qam:=qck qcn qam 6 5 ⟨by decide,by decide⟩ rfl h
open Pv (qN qp)
open Ben (x1 bb Pm Pt qbG cs ks up Inv2 T2 MG qi9)
def bx (k:Nat):Builtin.bitXor (k:Int) 1=((x1 k:Nat):Int):=by
 obtain ⟨h1,h2,h3⟩:=Pv.qcd (x:=(k:Int)) (y:=1) (by omega) (by omega);have h4:Builtin.bitXor ((k:Int)/2) ((1:Int)/2)=(k:Int)/2:=PyProof.Rows.bitXor_zero _;have:=Ben.qgf k;have:=Ben.qgj k;rw [h4] at h3;omega
def oL (N:Nat) (o:Nat->Nat):List PyData:=(List.range N).map λx=>PyData.int ((o x:Nat):Int)
def enc:Option Nat->PyData
 |none=>.none
 |some v=>.int (v:Int)
def hL (N:Nat) (c:Nat->Option Nat):List PyData:=(List.range N).map λx=>enc (c x)
def qaH {N k:Nat} {f:Nat->PyData} (h:k<N):L2.atI ((List.range N).map f) (k:Int)=some (f k):=by
 rw [qbm (by omega) (by simp;omega),Int.toNat_natCast,getElem?_map,List.getElem?_range h];rfl
def qmJ {N k:Nat} {o:Nat->Nat} (h:k<N):L2.atI (oL N o) (k:Int)=some (.int ((o k:Nat):Int)):=qaH h
def qoo {N k:Nat} {c:Nat->Option Nat} (h:k<N):L2.atI (hL N c) (k:Int)=some (enc (c k)):=qaH h
def qjH {N k v:Nat} {c:Nat->Option Nat} (h:k<N):(hL N c).set k (.int (v:Int))=hL N (up c k v):=by
 refine List.ext_getElem? λi=>?_;unfold hL;rw [getElem?_set,getElem?_map,getElem?_map];by_cases e:k=i
 ·subst e;rw [if_pos rfl,List.getElem?_range h];simp [h,Ben.SE,enc]
 ·rw [if_neg e];by_cases l:i<N
  ·rw [List.getElem?_range l];simp [Ben.C6 (c:=c) (v:=v) (λz=>e z.symm)]
  ·rw [List.getElem?_eq_none (by simp;omega)];simp
def qiY {N k:Nat} {c:Nat->Option Nat} (h:k<N):(hL N c).set k (.int 0)=hL N (up c k 0):=qjH (v:=0) h
def qhI {N k:Nat} {c:Nat->Option Nat} (h:k<N):(hL N c).set k (.int 1)=hL N (up c k 1):=qjH (v:=1) h
def qe0 {N:Nat} {c:Nat->Option Nat}:(hL N c).length=N:=by simp [hL]
def XH {N:Nat} {o:Nat->Nat}:(oL N o).length=N:=by simp [oL]
def qaV {i k:Nat} {d:PyData} {ρ:Rho} {ds:List PyData} (h:slot ρ i=some ds) (hk:k<ds.length):qlb i (.int (k:Int)) d ρ=some (.nx (ρ.set i (.ow (ds.set k d)))):=by
 show (slot ρ i).bind _=_;rw [h];have:ixN ds.length (k:Int)=some k:=by
  unfold ixN;rw [if_pos (by omega),if_pos (by omega)];simp
 simp only [Option.bind_some,this]
def qnE {N y:Nat} {o v:Nat->Nat} (p:Pm N o v) (hy:y<N):(y:Int)∈(List.range N).map (λx=>((o x:Nat):Int))/\List.idxOf (y:Int) ((List.range N).map λx=>((o x:Nat):Int))=v y:=by
 have hm:(y:Int)∈(List.range N).map (λx=>((o x:Nat):Int)):=mem_map.mpr ⟨v y,mem_range.mpr (p.ilt hy),by rw [p.ov hy]⟩;refine ⟨hm,?_⟩;have hj:=List.idxOf_lt_length_iff.mpr hm;have e:=List.getElem_idxOf hj;rw [length_map,length_range] at hj;rw [List.getElem_map,List.getElem_range] at e;have e2:o (List.idxOf (y:Int) ((List.range N).map λx=>((o x:Nat):Int)))=y:=by omega
 have e3:=p.vo hj;rw [e2] at e3;exact e3.symm
def qmN {N:Nat} {o:Nat->Nat}:oL N o=((List.range N).map λx=>((o x:Nat):Int)).map PyData.int:=by unfold oL;rw [map_map];rfl
def qdD {N y:Nat} {o v:Nat->Nat} (p:Pm N o v) (hy:y<N):LC (.tuple (oL N o)) [.int (y:Int)]=some (.int ((v y:Nat):Int)):=by
 obtain ⟨h1,h2⟩:=qnE p hy;rw [qmN,qen h1,h2]
def T1 {c:Option Nat}:qlg false (enc c) .none=some (.bool (decide (c=none))):=by
 cases c<;>rfl
def qeI {cf:Rho->Option Bool} {bf:Rho->Option Ot} {ρ:Rho} {Q:Option Ot->Prop} {N:Nat} (n:Nat) (hn:n<N) (I:Nat->Rho->Prop) (h0:I 0 ρ) (hc:∀ i ρ,i<n->I i ρ->cf ρ=some true) (hs:∀ i ρ,i<n->I i ρ->Nx (bf ρ) (I (i+1))) (he:∀ ρ,I n ρ->cf ρ=some false) (k:∀ ρ',I n ρ'->Q (some (.nx ρ'))):Q (whP cf bf N ρ):=by
 have e:whP cf bf N ρ=(whP cf bf N ρ).bind some:=by simp
 rw [e];exact qi5 (F:=some) n hn I h0 hc hs he k
def qmC {h:Nat} {o v:Nat->Nat} (p:Pm (2*h) o v) (hb:h<=1000):∃ c:Nat->Option Nat,zC [.tuple (oL (2*h) o)]=some (.list (hL (2*h) c))/\qbG (2*h) x1 (bb o v) c/\∀ x,x<2*h->c x≠none:=by
 rw [RG]
 try simp only [Pu.pwA,ZK,S8,XH]
 rw [JN (ds:=(YH 0 (2*h)).map PyData.int) (fs:=oL (2*h) v)]
 rotate_left
 ·try simp (disch:=omega) only [Pu.pwA,XH,qba,Int.toNat_natCast]
 ·unfold YH oL;rw [map_map];refine Q9 λy hy=>?_;have:=qdD p (mem_range.mp hy);unfold oL at this
  try simp only [Pu.pwA,VL,S8,Int.zero_add,this,Function.comp_def]
 ·rw [XH];omega
 try simp only [Pu.pwA]
 rw [JN (ds:=oL (2*h) o) (fs:=hL (2*h) λ_=>none)]
 rotate_left
 ·try simp only [Pu.pwA]
 ·unfold oL hL;refine Q9 λy hy=>?_
  try simp only [Pu.pwA,VL,enc]
 ·rw [qe0];omega
 try simp (disch:=omega) only [Pu.pwA,XH,qba,Int.toNat_natCast]
 have ia:=T2 h;have ib:=MG p;refine qab (Q:=λo'=>∃ c:Nat->Option Nat,UY true o'=some (.list (hL (2*h) c))/\qbG (2*h) x1 (bb o v) c/\∀ x,x<2*h->c x≠none) (YH 0 (2*h)) (λi ρ=>∃ (c:Nat->Option Nat) (s3 s4:Sl),ρ=[.sh (.tuple (oL (2*h) o)),.ow (oL (2*h) v),.ow (hL (2*h) c),s3,s4]/\qbG (2*h) x1 (bb o v) c/\∀ x,x<i->c x≠none) ⟨_,_,_,rfl,(λx hx v hv=>by cases hv),λx hx=>absurd hx (Nat.not_lt_zero x)⟩ ?_ ?_
 ·rintro i x ρ hx ⟨c0,s3,s4,rfl,g,al⟩;obtain ⟨hi,rfl⟩:=qN hx;obtain ⟨n,n1,n2,n3,n4,n5,n6,n7⟩:=qi9 ia ib (c0:=c0) hi g
  try simp only [Pu.pwA,Int.zero_add]
  refine qeI (Q:=λo'=>Nx o' _) n (by omega) (λj ρ=>ρ=[.sh (.tuple (oL (2*h) o)),.ow (oL (2*h) v),.ow (hL (2*h) (cs x1 (bb o v) c0 i j)),.sh (.int (i:Int)),.sh (.int ((ks x1 (bb o v) i j:Nat):Int))]) rfl ?_ ?_ ?_ ?_
  ·rintro j ρ hj rfl;have lk:=n3 j (by omega)
   try simp only [Pu.pwA,qoo lk,T1,n2 j hj,decide_true]
  ·rintro j ρ hj rfl;have lk:=n3 j (by omega);have lx:=ia.lt lk;have lo:=p.lt lx;have ly:=ia.lt lo
   try simp only [Pu.pwA,qa5,dmS,LY,if_true]
   rw [qaV (ds:=hL (2*h) (cs x1 (bb o v) c0 i j)) rfl (by rw [qe0];exact lk)]
   try simp only [Pu.pwA,bx,dmS,LY,if_true]
   rw [qiY lk];rw [qaV (ds:=hL (2*h) (up (cs x1 (bb o v) c0 i j) (ks x1 (bb o v) i j) 0)) rfl (by rw [qe0];exact lx),qhI lx]
   try simp only [Pu.pwA,bx,qmJ lx,qmJ ly]
   try rfl
  ·rintro ρ rfl;have lk:=n3 n (by omega)
   try simp only [Pu.pwA,qoo lk,T1,n4,decide_false]
  ·rintro ρ' rfl;exact ⟨_,_,_,rfl,n5,λx hx=>by
    rcases Nat.lt_or_ge x i with z|z
    ·exact n7 x (al x z)
    ·have:x=i:=by omega
     subst this;exact n6⟩
 ·rintro ρ ⟨c,s3,s4,rfl,g,al⟩
  try simp only [Pu.pwA]
  rw [qp] at al;exact ⟨c,rfl,g,al⟩
end K60
namespace K60
open PySem L2 L3 Pu
open Pv (qN qp)
open Ben (x1 bb Pm Pt qbG oS vS kap qaS RP Nt bt)
def sD (s:Nat):PyData:=.int (s:Int)
def nD:Nt->PyData
 |.leaf b=>sD b
 |.node f u l g=>.tuple [.tuple (f.map sD),nD u,nD l,.tuple (g.map sD)]
def flt {h:Nat} {o v c:Nat->Nat} (q:Pt h o v c) {s:Nat} (hs:s<2):∀ n,n<=h->(List.range (2*n)).filter (λx=>decide (c x=s))=(List.range n).map (kap c s)
 |0,_=>rfl
 |n+1,hn=>by
  have h2:=q.two (x:=2*n) (by omega);have ha:=q.a (x:=2*n) (by omega);rw [Ben.qif] at ha;rw [show 2*(n+1)=2*n+1+1 by omega,List.range_succ,List.range_succ,List.filter_append,List.filter_append,flt q hs n (by omega),List.range_succ (n:=n),List.map_append,List.append_assoc];congr 1;unfold kap;by_cases e:c (2*n)=s
  ·have e2:¬ c (2*n+1)=s:=by omega
   simp [e,e2]
  ·have e2:c (2*n+1)=s:=by omega
   simp [e,e2]
def qcU {f:Nat->PyData}:∀ n k,ev ((List.range' k (2*n)).map f)=(List.range' 0 n).map λt=>f (k+2*t)
 |0,k=>rfl
 |n+1,k=>by
  rw [show 2*(n+1)=2*n+1+1 by omega,List.range'_succ,List.range'_succ,map_cons,map_cons,ev,qcU n (k+1+1),List.range'_succ,map_cons];congr 1;rw [show (0:Nat)+1=0+1 from rfl,List.range'_eq_map_range,List.range'_eq_map_range,map_map,map_map];refine List.map_congr_left λt _=>?_;simp only [Function.comp_def];congr 1;omega
def S0 {f g:Nat->PyData}:∀ xs:List Nat,qd3 (xs.map f) (xs.map g)=xs.map λx=>PyData.tuple [f x,g x]
 |[]=>rfl
 |x::xs=>by
  have:=S0 (f:=f) (g:=g) xs;unfold qd3 at this ⊢;rw [map_cons,map_cons,List.zip_cons_cons,map_cons,this];rfl
def qfq:∀ (m j:Nat) (o v:Nat->Nat),Pm (2 ^ (m+1)) o v->m<j->m<=3->∃ n:Nt,jh j [.tuple (oL (2 ^ (m+1)) o)]=some (nD n)/\n.Ok m/\∀ k,k<2 ^ (m+1)->n.lane k=o k
 |0,j+1,o,v,p,_,_=>by
  have p:Pm 2 o v:=p;have l0:=p.lt (x:=0) (by omega);have l1:=p.lt (x:=1) (by omega);have v0:=p.vo (x:=0) (by omega);have v1:=p.vo (x:=1) (by omega);have ne:o 0≠o 1:=λe=>by rw [e,v1] at v0;cases v0
  have a0:=qmJ (N:=2) (k:=0) (o:=o) (by omega);refine ⟨.leaf (o 0),?_,l0,λk hk=>?_⟩
  ·rw [RK];show UY false ((J8 (jh j)).f 1000000000 [.sh (.tuple (oL 2 o)),.un,.un,.un,.un,.un])=_;have e2:decide (((oL 2 o).length:Int)=2)=true:=by rw [XH];rfl
   have a0':L2.atI (oL 2 o) 0=some (.int ((o 0:Nat):Int)):=a0
   try simp only [Pu.pwA,J8,e2,a0',nD,sD]
  ·have hk:k<2:=hk;simp only [Nt.lane];have:k=0\/k=1:=by omega
   rcases this with rfl|rfl<;>omega
 |m+1,j+1,o,v,p,hj,hm=>by
  obtain ⟨h,hh⟩:∃ h,h=2 ^ (m+1):=⟨_,rfl⟩
  have e1:2 ^ (m+1+1)=2*h:=by rw [hh,Nat.pow_succ];omega
  have hb:h<=8:=by
   have:2 ^ (m+1)<=2 ^ 3:=Nat.pow_le_pow_right (by decide) (by omega);omega
  have h2:2<=h:=by
   have:2 ^ 1<=2 ^ (m+1):=Nat.pow_le_pow_right (by decide) (by omega);omega
  rw [e1] at p ⊢;obtain ⟨c0,f1,g,al⟩:=qmC p (by omega);obtain ⟨c,hc⟩:∃ c:Nat->Nat,∀ x,x<2*h->c0 x=some (c x):=⟨λx=>(c0 x).getD 0,λx hx=>by
   have:=al x hx;cases e:c0 x with
   |none=>exact absurd e this
   |some w=>show some w=some ((c0 x).getD 0);rw [e];rfl⟩
  have q:Pt h o v c:=by
   refine ⟨λ{x} hx=>(g x hx _ (hc x hx)).1,λ{x} hx=>?_,λ{x} hx=>?_⟩
   ·have h1:=(g x hx _ (hc x hx)).2.1;rw [hc _ ((Ben.T2 h).lt hx)] at h1;exact Option.some.inj h1
   ·have h1:=(g x hx _ (hc x hx)).2.2;rw [hc _ ((Ben.MG p).lt hx)] at h1;exact Option.some.inj h1
  have hL':hL (2*h) c0=(List.range (2*h)).map λx=>sD (c x):=List.map_congr_left λx hx=>by rw [hc x (mem_range.mp hx)];rfl
  have p0:=p.side q (s:=0) (by omega);have p1:=p.side q (s:=1) (by omega);obtain ⟨u,u1,u2,u3⟩:=qfq m j (oS o c 0) (vS v c 0) (hh▸p0) (by omega) (by omega);obtain ⟨l,l1,l2,l3⟩:=qfq m j (oS o c 1) (vS v c 1) (hh▸p1) (by omega) (by omega);rw [← hh] at u1 u3 l1 l3;refine ⟨.node ((List.range h).map λt=>c (2*t)) u l ((List.range h).map λt=>c (v (2*t))),?_,⟨by simp [hh],by simp [hh],?_,?_,u2,l2⟩,λk hk=>RP p q u3 l3 hk⟩
  ·rw [RK];have nl:¬ (((oL (2*h) o).length:Int)=2):=by rw [XH];omega
   rw [hL'] at f1;have ss:ssD (.list ((List.range (2*h)).map λx=>sD (c x))) (some ((0:Nat):Int)) (some 2)=some (.list ((List.range h).map λt=>sD (c (2*t)))):=by
    rw [qmu (by omega),List.drop_zero,List.range_eq_range',qcU];rw [List.range_eq_range'];simp only [Nat.zero_add]
   have ss':ssD (.list ((List.range (2*h)).map λx=>sD (c x))) (some 0) (some 2)=some (.list ((List.range h).map λt=>sD (c (2*t)))):=ss
   try simp only [Pu.pwA,J8,nl,f1,qcG,ss',decide_false]
   have en:((((2*h:Nat):Int)-0+1)/2).toNat=h:=by omega
   rw [JN (ds:=(evI 0 h).map PyData.int) (fs:=(List.range h).map λt=>sD (c (v (2*t))))]
   rotate_left
   ·try simp only [Pu.pwA,qmQ,XH]
    rw [qnQ (by omega),en]
   ·unfold evI;rw [map_map];refine Q9 λt ht=>?_;have tl:=mem_range.mp ht;have ix:=qdD p (y:=2*t) (by omega);have e0:(0:Int)+(t:Int)*2=((2*t:Nat):Int):=by omega
    have a1:=qaH (N:=2*h) (k:=v (2*t)) (f:=λx=>sD (c x)) (p.ilt (by omega))
    try simp only [Pu.pwA,VL,S8,e0,ix,a1,Function.comp_def]
   ·simp;omega
   try simp only [Pu.pwA]
   rw [JN (ds:=(List.range (2*h)).map λx=>PyData.tuple [.int ((o x:Nat):Int),sD (c x)]) (fs:=oL h (oS o c 0))]
   rotate_left
   ·try simp only [Pu.pwA,oL]
    rw [S0]
   ·rw [WD (c:=λx=>decide (c x=0)) (k:=λx=>PyData.int ((o x/2:Nat):Int)),flt q (by omega) h (Nat.le_refl _),map_map]
    ·rfl
    ·intro x hx;have cx:=q.two (mem_range.mp hx);have dv:cI Q7 (·/·) (.int ((o x:Nat):Int)) (.int 2)=some (.int ((o x/2:Nat):Int)):=by rw [WF (by omega)];rfl
     have:c x=0\/c x=1:=by omega
     rcases this with e|e
     ·have d1:decide (((0:Nat):Int)=0)=true:=rfl
      try simp only [Pu.pwA,VL,sD,e,d1,dv,decide_true]
     ·have d1:decide (((1:Nat):Int)=0)=false:=rfl;have d2:decide ((1:Nat)=0)=false:=rfl
      try simp only [Pu.pwA,VL,sD,e,d1,d2,dv,decide_true]
   ·rw [XH];omega
   try simp only [Pu.pwA]
   rw [JN (ds:=(List.range (2*h)).map λx=>PyData.tuple [.int ((o x:Nat):Int),sD (c x)]) (fs:=oL h (oS o c 1))]
   rotate_left
   ·try simp only [Pu.pwA,oL]
    rw [S0]
   ·rw [WD (c:=λx=>decide (c x=1)) (k:=λx=>PyData.int ((o x/2:Nat):Int)),flt q (by omega) h (Nat.le_refl _),map_map]
    ·rfl
    ·intro x hx;have cx:=q.two (mem_range.mp hx);have dv:cI Q7 (·/·) (.int ((o x:Nat):Int)) (.int 2)=some (.int ((o x/2:Nat):Int)):=by rw [WF (by omega)];rfl
     have:c x=0\/c x=1:=by omega
     rcases this with e|e
     ·have d1:decide (((0:Nat):Int)=1)=false:=rfl;have d2:decide ((0:Nat)=1)=false:=rfl
      try simp only [Pu.pwA,VL,sD,e,d1,d2,dv,decide_true]
     ·have d1:decide (((1:Nat):Int)=1)=true:=rfl
      try simp only [Pu.pwA,VL,sD,e,d1,dv,decide_true]
   ·rw [XH];omega
   try simp only [Pu.pwA,u1,l1]
   simp only [nD,map_map,Function.comp_def]
  ·intro s hs;obtain ⟨t,ht,rfl⟩:=mem_map.mp hs;have:=mem_range.mp ht;exact q.two (by omega)
  ·intro s hs;obtain ⟨t,ht,rfl⟩:=mem_map.mp hs;have:=mem_range.mp ht;exact q.two (p.ilt (by omega))
end K60
namespace K60
open PySem L2 L3 Pu
open Pv (qN qp)
open Ben (Pm Nt bt)
def lane_lt:∀ {m:Nat} {n:Nt},n.Ok m->∀ {k:Nat},k<2 ^ (m+1)->n.lane k<2 ^ (m+1)
 |0,.leaf b,h,k,hk=>by simp only [Nt.lane];exact Nat.mod_lt _ (by decide)
 |m+1,.node f u l g,⟨h1,h2,h3,h4,h5,h6⟩,k,hk=>by
  have e:2 ^ (m+1+1)=2*2 ^ (m+1):=by rw [Nat.pow_succ];omega
  have hk2:k/2<2 ^ (m+1):=by omega
  have a:=lane_lt h5 hk2;have b:=lane_lt h6 hk2;simp only [Nt.lane];split<;>omega
 |0,.node ..,h,_,_=>h.elim
 |m+1,.leaf _,h,_,_=>h.elim
def MQ:∀ {m j:Nat} {n:Nt},n.Ok m->m<j->∀ {k:Nat},k<2 ^ (m+1)->qR j [nD n,.int (k:Int)]=some (.int ((n.lane k:Nat):Int))
 |0,j+1,.leaf b,h,_,k,hk=>by
  rw [DR];have a:qZ "int" "int" = true:=rfl;have md:cI (λ_ j=>0<j) (·%·) (.int ((k:Int)+(b:Int))) (.int 2)=some (.int (((k+b)%2:Nat):Int)):=by
   rw [TN (by omega)];congr 2
  try simp only [Pu.pwA,Q1,nD,sD,Nt.lane,a,md]
 |m+1,j+1,.node f u l g,⟨h1,h2,h3,h4,h5,h6⟩,hj,k,hk=>by
  have e1:2 ^ (m+1+1)=2*2 ^ (m+1):=by rw [Nat.pow_succ];omega
  have hk2:k/2<2 ^ (m+1):=by omega
  have r1:=MQ h5 (show m<j by omega) hk2;have r2:=MQ h6 (show m<j by omega) hk2;have w1:=lane_lt h5 hk2;have w2:=lane_lt h6 hk2;have a:qZ "tuple" "int" = false:=rfl;have at':∀ (ss:List Nat) (i:Nat),i<ss.length->L2.atI (ss.map sD) (i:Int)=some (.int ((bt ss i:Nat):Int)):=λss i hi=>by
   rw [atN (by simpa using hi),getElem?_map,getElem?_eq_getElem hi];unfold bt;rw [getD_eq_getElem?_getD,getElem?_eq_getElem hi];rfl
  have dv:cI Q7 (·/·) (.int (k:Int)) (.int 2)=some (.int ((k/2:Nat):Int)):=by
   rw [WF (by omega)];rfl
  have i1:=at' f (k/2) (by omega);generalize hs:(k+bt f (k/2))%2=s;have s2:s<2:=by rw [← hs];exact Nat.mod_lt _ (by decide)
  have md:cI (λ_ j=>0<j) (·%·) (.int ((k:Int)+(bt f (k/2):Nat))) (.int 2)=some (.int ((s:Nat):Int)):=by
   rw [TN (by omega),← hs];rfl
  generalize ht:(if s=0 then u.lane (k/2) else l.lane (k/2))=t;have tl:t<2 ^ (m+1):=by rw [← ht];split<;>assumption
  have i3:=at' g t (by omega);have md2:cI (λ_ j=>0<j) (·%·) (.int ((s:Int)+(bt g t:Nat))) (.int 2)=some (.int (((s+bt g t)%2:Nat):Int)):=by
   rw [TN (by omega)];rfl
  have ml:cI EC (·*·) (.int 2) (.int (t:Int))=some (.int ((2*t:Nat):Int)):=by rw [R7 (by omega)];rfl
  have ix:∃ w,L2.atI [PyData.tuple (f.map sD),nD u,nD l,.tuple (g.map sD)] (1+(s:Int))=some w/\qR j [w,.int ((k/2:Nat):Int)]=some (.int (t:Int)):=by
   rw [← ht]
   match s,s2 with
   |0,_=>exact ⟨nD u,rfl,r1⟩
   |1,_=>exact ⟨nD l,rfl,r2⟩
  obtain ⟨w,iw,rw'⟩:=ix;have fin:(Nt.node f u l g).lane k=2*t+(s+bt g t)%2:=by simp only [Nt.lane,hs,ht]
  rw [DR,fin];have c1:qgg (.int 1) (.int (s:Int))=some (.int (1+(s:Int))):=id rfl
  try simp only [Pu.pwA,Q1,nD,a,dv,i1,md,c1,iw,rw',ml,i3,md2]
  rfl
 |0,_,.node ..,h,_,_,_=>h.elim
 |m+1,_,.leaf _,h,_,_,_=>h.elim
 |_,0,_,_,h,_,_=>by omega
def qnb:qZ "int" "int" = true:=id rfl
def qop:qZ "int" "bool" = false:=id rfl
def qdX:qZ "tuple" "tuple" = true:=id rfl
def ql0 {N:Nat} {L:List Nat} (h:L.Perm (List.range N)):∃ o v,Pm N o v/\L.map sD=oL N o:=by
 have hl:L.length=N:=by rw [h.length_eq,length_range]
 have nd:L.Nodup:=h.nodup_iff.mpr List.nodup_range;refine ⟨λx=>L.getD x 0,λy=>L.idxOf y,⟨λ{x} hx=>?_,λ{y} hy=>?_,λ{x} hx=>?_,λ{y} hy=>?_⟩,?_⟩
 ·have:L.getD x 0∈L:=by rw [getD_eq_getElem?_getD,getElem?_eq_getElem (by omega)];exact List.getElem_mem _
  exact mem_range.mp (h.mem_iff.mp this)
 ·have:y∈L:=h.mem_iff.mpr (mem_range.mpr hy);have:=List.idxOf_lt_length_iff.mpr this;omega
 ·have hx':x<L.length:=by omega
  simp only [getD_eq_getElem?_getD,getElem?_eq_getElem hx',Option.getD_some];exact nd.idxOf_getElem x hx'
 ·have hm:y∈L:=h.mem_iff.mpr (mem_range.mpr hy);have hi:=List.idxOf_lt_length_iff.mpr hm;simp only [getD_eq_getElem?_getD,getElem?_eq_getElem hi,Option.getD_some];exact List.getElem_idxOf hi
 ·refine List.ext_getElem? λi=>?_;unfold oL;rw [getElem?_map,getElem?_map];by_cases c:i<N
  ·rw [List.getElem?_range c,getElem?_eq_getElem (by omega)];simp [sD,hl,c]
  ·rw [List.getElem?_eq_none (by omega),List.getElem?_eq_none (by simp;omega)];rfl
def qiC {i:Int}:qB [.int i]=some (.bool true):=by
 rw [UX]
 try simp only [Pu.pwA,zm,qnb,qop,Bool.not_false]
def qmv {L:List Nat}:L.map sD=(L.map λ(x:Nat)=>(x:Int)).map PyData.int:=by rw [map_map];rfl
def qfV {N:Nat} {L:List Nat} (h:L.Perm (List.range N)):srt (L.map λ(x:Nat)=>(x:Int))=(List.range N).map λ(x:Nat)=>(x:Int):=by
 refine W1 ((T0 _).trans (h.map _)) (qcJ _) ?_;rw [List.pairwise_map];exact List.Pairwise.imp (λh=>by omega) List.pairwise_lt_range
def qnB {m:Nat} {L:List Nat} (hm:m<=3) (h:L.Perm (List.range (2 ^ (m+1)))):zV [.tuple (L.map sD)]=some (.bool true):=by
 have hl:L.length=2 ^ (m+1):=by rw [h.length_eq,length_range]
 have hb:2 ^ (m+1)<=16:=Nat.pow_le_pow_right (n:=2) (j:=4) (by decide) (by omega);have inn:inD true (.int ((2 ^ (m+1):Nat):Int)) (.tuple [.int 2,.int 4,.int 8,.int 16])=some (.bool false):=by
  have:m=0\/m=1\/m=2\/m=3:=by omega
  rcases this with rfl|rfl|rfl|rfl<;>exact (ze ⟨rfl,by simp [RR]⟩).trans rfl
 have le:((L.map sD).length:Int)=((2 ^ (m+1):Nat):Int):=by rw [length_map,hl]
 rw [RY]
 try simp only [Pu.pwA,J3,qdX,le,inn,Bool.not_true]
 rw [JN (ds:=L.map sD) (fs:=(L.map λ_=>true).map PyData.bool)]
 rotate_left
 ·try simp only [Pu.pwA]
 ·rw [map_map];refine Q9 λs hs=>?_
  try simp only [Pu.pwA,VL,sD,qiC,Function.comp_def]
 ·simp;omega
 have al':(L.map λ_=>true).all id=true:=by simp
 have sr:=qgG (xs:=L.map λ(x:Nat)=>(x:Int)) (by rw [length_map];omega);rw [← qmv,qfV h] at sr;have lr:qep (.int ((2 ^ (m+1):Nat):Int))=some (.list (((List.range (2 ^ (m+1))).map λ(x:Nat)=>(x:Int)).map PyData.int)):=by
  unfold qep;simp only;rw [if_pos (by omega),Int.toNat_natCast,map_map];rfl
 have eq:=qex false ((List.range (2 ^ (m+1))).map λ(x:Nat)=>(x:Int)) ((List.range (2 ^ (m+1))).map λ(x:Nat)=>(x:Int))
 try simp only [Pu.pwA,CF,al',qfb,sr,qcO,le,lr,eq,decide_true]
def NL:∀ {R:List Nat} {k:Nat} {x:Nat},R[k]?=some x->(x::R.eraseIdx k).Perm R
 |[],k,x,h=>by simp at h
 |y::R,0,x,h=>by simp at h;subst h;exact .refl _
 |y::R,k+1,x,h=>by
  have ih:=NL (R:=R) (k:=k) (x:=x) (by simpa using h);show (x::y::R.eraseIdx k).Perm (y::R);exact (List.Perm.swap y x _).trans (ih.cons y)
def qjp {R:List Nat} {k:Nat}:(R.map sD).eraseIdx k=(R.eraseIdx k).map sD:=by
 induction R generalizing k with
 |nil=>simp
 |cons y R ih=>cases k with
  |zero=>rfl
  |succ k=>simp [ih]
def lrg {N:Nat} (h:N<=16):qep (.int (N:Int))=some (.list ((List.range N).map sD)):=by
 unfold qep;simp only;rw [if_pos (by omega),Int.toNat_natCast];rfl
def qoN {N n:Nat} {Q:QD} (hN:1<=N/\N<=16) (hn:n<900000) (h:∀ (L:List Nat) (m:Nat),L.Perm (List.range N)->m<=n+16->Q (.tuple (L.map sD)) m):jq.W [.int (N:Int)] n Q:=by
 rw [CJ];refine ⟨rfl,?_⟩;unfold ZY;refine jL λY1 h1=>?_;rw [qe6];refine ⟨(List.range N).map sD,[],by try simp only [Pu.pwA,qcO,lrg hN.2],by try simp only [Pu.pwA],?_⟩;rw [h1];refine jL λY2 h2=>?_
 try simp (disch:=omega) only [Pu.pwA,qba,dmS]
 refine XV (YH 0 ((N:Int)).toNat) QP.mn (λi ρ n'=>∃ (F R:List Nat) (s4:Sl),(F++R).Perm (List.range N)/\F.length=i/\n'<=n+i/\ρ=[.un,.sh (.int (N:Int)),.ow (R.map sD),.ow (F.map sD),s4]) ⟨[],List.range N,_,by simp,rfl,by omega,rfl⟩ ?_ ?_
 ·rintro i x ρ n' hx ⟨F,R,s4,hp,hl,hn',rfl⟩;have hi:i<N:=by
   have:=(List.getElem?_eq_some_iff.mp hx).1;rw [qp] at this;omega
  have hr:F.length+R.length=N:=by rw [← length_append,hp.length_eq,length_range]
  refine ⟨_,rfl,?_⟩;unfold QP;rw [qaX];refine ⟨by decide,F.map sD,R.map sD,rfl,rfl,by rw [length_map];omega,?_⟩
  try simp only [Pu.pwA]
  refine ⟨by rw [length_map];omega,by omega,λd d0 d1=>?_⟩;rw [length_map] at d1;obtain ⟨k,rfl⟩:∃ k:Nat,d=(k:Int):=⟨d.toNat,by omega⟩
  have hk:k<R.length:=by omega
  refine ⟨k,sD R[k],rfl,by rw [getElem?_map,getElem?_eq_getElem hk];rfl,F++[R[k]],R.eraseIdx k,.sh (.int x),?_,by simp [hl],by omega,?_⟩
  ·refine .trans ?_ hp;rw [List.append_assoc];exact (NL (getElem?_eq_getElem hk)).append_left F
  ·rw [qjp,List.map_append];rfl
 ·rintro ρ n' ⟨F,R,s4,hp,hl,hn',rfl⟩;rw [qp] at hl hn';have hr:F.length+R.length=N:=by rw [← length_append,hp.length_eq,length_range]
  have hz:R=[]:=List.eq_nil_of_length_eq_zero (by omega);subst hz;rw [List.append_nil] at hp;rw [KR,h2]
  try simp only [Pu.pwA]
  exact ⟨n',Nat.le_refl _,h F n' hp (by omega)⟩
def qoF {m:Nat} {L:List Nat} (hm:m<=3) (h:L.Perm (List.range (2 ^ (m+1)))):∃ n:Nt,jD [.tuple (L.map sD)]=some (nD n)/\n.Ok m/\((List.range (2 ^ (m+1))).map n.lane)=L:=by
 obtain ⟨o,v,pm,ol⟩:=ql0 h;obtain ⟨n,e1,e2,e3⟩:=qfq m 4 o v pm (by omega) hm;rw [← ol] at e1;refine ⟨n,?_,e2,?_⟩
 ·rw [LQ]
  try simp only [Pu.pwA,VV,qnB hm h,e1,Bool.not_true]
 ·have:((List.range (2 ^ (m+1))).map n.lane).map sD=L.map sD:=by
   rw [ol,map_map];unfold oL;exact List.map_congr_left λk hk=>by
    show sD (n.lane k)=_;rw [e3 k (mem_range.mp hk)];rfl
  exact (List.map_inj_right (λa b h=>by have:=PyData.int.inj h;omega)).mp this
end K60
namespace Ben.Nt
open Ben
def mir:Nt->Nt
 |.leaf b=>.leaf b
 |.node f u l g=>.node g u.mir l.mir f
def mir_ok:∀ {m:Nat} {n:Nt},n.Ok m->n.mir.Ok m
 |0,.leaf b,h=>h
 |m+1,.node f u l g,⟨h1,h2,h3,h4,h5,h6⟩=>⟨h2,h1,h4,h3,mir_ok h5,mir_ok h6⟩
 |0,.node ..,h=>h.elim
 |m+1,.leaf _,h=>h.elim
def mir_mir:∀ n:Nt,n.mir.mir=n
 |.leaf b=>rfl
 |.node f u l g=>by simp only [mir,mir_mir u,mir_mir l]
def lane_lt:∀ {m:Nat} {n:Nt},n.Ok m->∀ {k:Nat},k<2 ^ (m+1)->n.lane k<2 ^ (m+1)
 |0,.leaf b,h,k,hk=>by simp only [lane];exact Nat.mod_lt _ (by decide)
 |m+1,.node f u l g,⟨h1,h2,h3,h4,h5,h6⟩,k,hk=>by
  have e:2 ^ (m+1+1)=2*2 ^ (m+1):=by rw [Nat.pow_succ];omega
  have hk2:k/2<2 ^ (m+1):=by omega
  have a:=lane_lt h5 hk2;have b:=lane_lt h6 hk2;simp only [lane];split<;>omega
 |0,.node ..,h,_,_=>h.elim
 |m+1,.leaf _,h,_,_=>h.elim
def lane_mir:∀ {m:Nat} {n:Nt},n.Ok m->∀ {k:Nat},k<2 ^ (m+1)->n.mir.lane (n.lane k)=k
 |0,.leaf b,h,k,hk=>by
  have hk:k<2:=hk;simp only [mir,lane];omega
 |m+1,.node f u l g,⟨h1,h2,h3,h4,h5,h6⟩,k,hk=>by
  have e:2 ^ (m+1+1)=2*2 ^ (m+1):=by rw [Nat.pow_succ];omega
  have hk2:k/2<2 ^ (m+1):=by omega
  have a:=lane_mir h5 hk2;have b:=lane_mir h6 hk2;simp only [mir,lane];generalize hs:(k+bt f (k/2))%2=s;have s2:s<2:=by rw [← hs];exact Nat.mod_lt _ (by decide)
  generalize ht:(if s=0 then u.lane (k/2) else l.lane (k/2))=t;have d1:(2*t+(s+bt g t)%2)/2=t:=by omega
  rw [d1];have d2:(2*t+(s+bt g t)%2+bt g t)%2=s:=by omega
  rw [d2];have d3:(if s=0 then u.mir.lane t else l.mir.lane t)=k/2:=by
   rw [← ht];split
   ·exact a
   ·exact b
  rw [d3];omega
 |0,.node ..,h,_,_=>h.elim
 |m+1,.leaf _,h,_,_=>h.elim
end Ben.Nt
namespace K60
open PySem L2 L3 Pu
open Pv (qN qp)
open Ben (Pm Nt bt)
section
def pr (s:Nat) (a b:PyData):List PyData:=if s=1 then [b,a] else [a,b]
def NF {s:Nat} {a b:PyData}:(pr s a b).length=2:=by unfold pr;split<;>rfl
def qmj {s j:Nat} (hs:s<2) (hj:j<2) {a b:PyData}:(pr s a b)[(j+s)%2]?=[a,b][j]?:=by
 unfold pr
 match s,hs,j,hj with
 |0,_,0,_=>rfl
 |0,_,1,_=>rfl
 |1,_,0,_=>rfl
 |1,_,1,_=>rfl
def SW (ss:List Nat) (xs:List PyData):List PyData:=(List.range ss.length).flatMap λt=>pr (bt ss t) (xs.getD (2*t) PyData.none) (xs.getD (2*t+1) PyData.none)
def X0 {f:Nat->List PyData} (hf:∀ t,(f t).length=2):∀ n,((List.range n).flatMap f).length=2*n
 |0=>rfl
 |n+1=>by rw [List.range_succ,List.flatMap_append,length_append,X0 hf n];simp [hf];omega
def qdi {f:Nat->List PyData} (hf:∀ t,(f t).length=2):∀ {n t j:Nat},t<n->j<2->((List.range n).flatMap f)[2*t+j]?=(f t)[j]?
 |n+1,t,j,ht,hj=>by
  have l:=X0 hf n;rw [List.range_succ,List.flatMap_append];by_cases c:t<n
  ·rw [List.getElem?_append_left (by omega)];exact qdi hf c hj
  ·have:t=n:=by omega
   subst this;rw [List.getElem?_append_right (by omega),l];have e:2*t+j-2*t=j:=by omega
   rw [e];simp
def KW {ss:List Nat} {xs:List PyData}:(SW ss xs).length=2*ss.length:=X0 (λ_=>NF) _
def qm8 {ss:List Nat} (h:∀ s∈ss,s<2) (t:Nat):bt ss t<2:=by
 unfold bt;rw [getD_eq_getElem?_getD];cases e:ss[t]? with
 |none=>decide
 |some s=>exact h s (mem_of_getElem? e)
def qeE {ss:List Nat} {xs:List PyData} (h:∀ s∈ss,s<2) (hl:xs.length=2*ss.length) {k:Nat} (hk:k<xs.length):(SW ss xs)[2*(k/2)+(k+bt ss (k/2))%2]?=xs[k]?:=by
 have b:=qm8 h (k/2);unfold SW;rw [qdi (λ_=>NF) (by omega) (Nat.mod_lt _ (by decide))];have e:(k+bt ss (k/2))%2=(k%2+bt ss (k/2))%2:=by omega
 rw [e,qmj b (Nat.mod_lt _ (by decide))];have g:∀ i,i<xs.length->some (xs.getD i PyData.none)=xs[i]?:=λi hi=>by
  rw [getD_eq_getElem?_getD,getElem?_eq_getElem hi];rfl
 by_cases c:k%2=0
 ·rw [c];show some (xs.getD (2*(k/2)) PyData.none)=_;rw [g _ (by omega)];congr 1;omega
 ·have c1:k%2=1:=by omega
  rw [c1];show some (xs.getD (2*(k/2)+1) PyData.none)=_;rw [g _ (by omega)];congr 1;omega
def qeY:∀ (xs:List PyData) (i:Nat),(ev xs)[i]?=xs[2*i]?
 |[],i=>by simp [ev]
 |[x],0=>by simp [ev]
 |[x],i+1=>by simp [ev]
 |x::y::r,0=>by simp [ev]
 |x::y::r,i+1=>by
  have e:2*(i+1)=2*i+1+1:=by omega
  simp only [ev,getElem?_cons_succ,e];exact qeY r i
def ilv (a c:List PyData):List PyData:=(a.zip c).flatMap λp=>[p.1,p.2]
def SL:∀ (a c:List PyData),a.length=c.length->(ilv a c).length=2*a.length
 |[],[],_=>rfl
 |x::a,y::c,h=>by
  have:=SL a c (by simpa using h);simp only [ilv,List.zip_cons_cons,List.flatMap_cons,length_append,length_cons,length_nil] at this ⊢;omega
 |[],_::_,h=>by simp at h
 |_::_,[],h=>by simp at h
def qdS:∀ (a c:List PyData),a.length=c.length->∀ {i s:Nat},s<2->(ilv a c)[2*i+s]?=(if s=0 then a else c)[i]?
 |[],[],_,i,s,_=>by simp [ilv]
 |x::a,y::c,h,0,s,hs=>by
  match s,hs with
  |0,_=>simp [ilv]
  |1,_=>simp [ilv]
 |x::a,y::c,h,i+1,s,hs=>by
  have e:2*(i+1)+s=(2*i+s)+2:=by omega
  have:=qdS a c (by simpa using h) (i:=i) hs;rw [e];simp only [ilv,List.zip_cons_cons,List.flatMap_cons] at this ⊢;simp only [cons_append,List.nil_append,getElem?_cons_succ];rw [this];split<;>simp
 |[],_::_,h,_,_,_=>by simp at h
 |_::_,[],h,_,_,_=>by simp at h
def LED:Nt->List PyData->List PyData
 |.leaf b,xs=>SW [b] xs
 |.node f u l g,xs=>SW g (ilv (LED u (ev (SW f xs))) (LED l (ev ((SW f xs).drop 1))))
def JO:∀ {m:Nat} {n:Nt},n.Ok m->∀ {xs:List PyData},xs.length=2 ^ (m+1)->(LED n xs).length=2 ^ (m+1)
 |0,.leaf b,h,xs,hx=>by simp only [LED,KW];rfl
 |m+1,.node f u l g,⟨h1,h2,h3,h4,h5,h6⟩,xs,hx=>by
  simp only [LED,KW,h2];rw [Nat.pow_succ 2 (m+1)];omega
 |0,.node ..,h,_,_=>h.elim
 |m+1,.leaf _,h,_,_=>h.elim
def WJ:∀ {m:Nat} {n:Nt},n.Ok m->∀ {xs:List PyData},xs.length=2 ^ (m+1)->∀ {k:Nat},k<2 ^ (m+1)->(LED n xs)[n.lane k]?=xs[k]?
 |0,.leaf b,h,xs,hx,k,hk=>by
  have hk':k<2:=hk;have:=qeE (ss:=[b]) (xs:=xs) (by intro s hs;simp at hs;subst hs;exact h) (by simpa using hx) (k:=k) (by omega);have k2:k/2=0:=by omega
  rw [k2] at this;simp only [LED,Nt.lane];simpa [bt] using this
 |m+1,.node f u l g,⟨h1,h2,h3,h4,h5,h6⟩,xs,hx,k,hk=>by
  have e:2 ^ (m+1+1)=2*2 ^ (m+1):=by rw [Nat.pow_succ];omega
  have hk2:k/2<2 ^ (m+1):=by omega
  have s1:=qeE (ss:=f) (xs:=xs) h3 (by omega) (k:=k) (by omega);have lf:=KW (ss:=f) (xs:=xs);simp only [LED,Nt.lane];generalize hs:(k+bt f (k/2))%2=s at s1 ⊢;have s2:s<2:=by rw [← hs];exact Nat.mod_lt _ (by decide)
  have l1:(ev (SW f xs)).length=2 ^ (m+1):=by rw [WS,lf];omega
  have l2:(ev ((SW f xs).drop 1)).length=2 ^ (m+1):=by rw [WS,List.length_drop,lf];omega
  have r1:=WJ h5 l1 hk2;have r2:=WJ h6 l2 hk2;have q1:=JO h5 l1;have q2:=JO h6 l2;generalize ht:(if s=0 then u.lane (k/2) else l.lane (k/2))=t;have tl:t<2 ^ (m+1):=by
   rw [← ht];split
   ·exact Nt.lane_lt h5 hk2
   ·exact Nt.lane_lt h6 hk2
  have iv:=qdS (LED u (ev (SW f xs))) (LED l (ev ((SW f xs).drop 1))) (by omega) (i:=t) s2;have il:=SL (LED u (ev (SW f xs))) (LED l (ev ((SW f xs).drop 1))) (by omega);have w:=qeE (ss:=g) (xs:=ilv (LED u (ev (SW f xs))) (LED l (ev ((SW f xs).drop 1)))) h4 (by omega) (k:=2*t+s) (by omega);have d1:(2*t+s)/2=t:=by omega
  have d2:(2*t+s+bt g t)%2=(s+bt g t)%2:=by omega
  rw [d1,d2] at w;rw [w,iv,← s1,← ht];by_cases c:s=0
  ·rw [if_pos c,if_pos c,r1,qeY,c];rfl
  ·have c1:s=1:=by omega
   rw [if_neg c,if_neg c,r2,qeY,List.getElem?_drop,c1];congr 1;omega
 |0,.node ..,h,_,_,_,_=>h.elim
 |m+1,.leaf _,h,_,_,_,_=>h.elim
def qeX {m:Nat} {n:Nt} (h:n.Ok m) {xs:List PyData} (hx:xs.length=2 ^ (m+1)) {k:Nat} (hk:k<2 ^ (m+1)):(LED n.mir xs)[k]?=xs[n.lane k]?:=by
 have:=WJ (Nt.mir_ok h) hx (k:=n.lane k) (Nt.lane_lt h hk);rw [Nt.lane_mir h hk] at this;exact this
def qlW {m:Nat} {n:Nt} (h:n.Ok m) {xs:List PyData} (hx:xs.length=2 ^ (m+1)):LED n.mir (LED n xs)=xs:=by
 have l:=JO h hx;have l2:=JO (Nt.mir_ok h) l;refine List.ext_getElem? λk=>?_;by_cases c:k<2 ^ (m+1)
 ·rw [qeX h l c,WJ h hx c]
 ·rw [List.getElem?_eq_none (by omega),List.getElem?_eq_none (by omega)]
end
def qfj {i j:Nat} {m:List Bool} {d e:PyData} {ρ:Rho} (h:dm m ρ=ρ):NX i j m [d,e] ρ=some (.nx ((ρ.set i (.sh d)).set j (.sh e))):=by
 unfold NX;simp only;rw [h];split<;>rfl
def qcz {i:Nat} {ds es:List PyData} {ρ:Rho} (h:slot ρ i=some ds) (hl:ds.length+es.length<=16777216):qgC i (.list es) ρ=some (.nx (ρ.set i (.ow (ds++es)))):=by
 unfold qgC;simp only [h,Option.bind_some];exact ze (by rw [sizeLine_eq];exact hl)
def pre (ss:List Nat) (xs:List PyData) (i:Nat):List PyData:=(List.range i).flatMap λt=>pr (bt ss t) (xs.getD (2*t) PyData.none) (xs.getD (2*t+1) PyData.none)
def qkB {ss:List Nat} {xs:List PyData} {i:Nat}:pre ss xs (i+1)=pre ss xs i++pr (bt ss i) (xs.getD (2*i) PyData.none) (xs.getD (2*i+1) PyData.none):=by
 unfold pre;rw [List.range_succ,List.flatMap_append];simp
def qlH {ss:List Nat} {xs:List PyData} {sw:PyData} (hs:KM sw=some (ss.map sD)) (hsc:LY sw=false) (hl:xs.length=2*ss.length) (hb:ss.length<=1000) (h2:∀ s∈ss,s<2):q5 [sw,.list xs]=some (.list (SW ss xs)):=by
 rw [S7]
 try simp only [Pu.pwA,JZ,hs,qfg]
 refine qab (Q:=λo=>UY true o=_) (ss.zipIdx 0) (λi ρ=>∃ s3 s4 s5 s6,ρ=[.sh sw,.sh (.list xs),.ow (pre ss xs i),s3,s4,s5,s6]) ⟨_,_,_,_,rfl⟩ ?_ ?_
 ·rintro i p ρ hp ⟨s3,s4,s5,s6,rfl⟩;rw [List.getElem?_zipIdx] at hp;obtain ⟨s,hs',rfl⟩:=Option.map_eq_some_iff.mp hp;have hi:=(List.getElem?_eq_some_iff.mp hs').1;have sb:bt ss i=s:=by unfold bt;rw [getD_eq_getElem?_getD,hs'];rfl
  have s2:=h2 s (mem_of_getElem? hs');have at0':∀ k,k<xs.length->ixD (.list xs) (.int (k:Int))=some (xs.getD k .none):=λk hk=>by
   rw [qew,atN hk,getD_eq_getElem?_getD,getElem?_eq_getElem hk];rfl
  have i1:=at0' (2*i) (by omega);have i2:=at0' (2*i+1) (by omega);have m1:cI EC (·*·) (.int 2) (.int (i:Int))=some (.int ((2*i:Nat):Int)):=by
   rw [R7 (by omega)];rfl
  have m2:qgg (.int ((2*i:Nat):Int)) (.int 1)=some (.int ((2*i+1:Nat):Int)):=id rfl;have lp:(pre ss xs i).length=2*i:=X0 (λ_=>NF) i
  try simp only [Pu.pwA,sD,m1,m2,i1,i2]
  rw [qfj rfl];by_cases c:s=1
  ·have c':((s:Nat):Int)=1:=by omega
   try simp only [Pu.pwA,c',qa3,decide_true]
   rw [qcz rfl (by simp [lp];omega)];have pe:=qkB (ss:=ss) (xs:=xs) (i:=i);rw [sb,pr,if_pos c] at pe;rw [pe];exact ⟨_,_,_,_,rfl⟩
  ·have c':¬ ((s:Nat):Int)=1:=by omega
   try simp only [Pu.pwA,c',qa3,decide_false]
   rw [qcz rfl (by simp [lp];omega)];have pe:=qkB (ss:=ss) (xs:=xs) (i:=i);rw [sb,pr,if_neg c] at pe;rw [pe];exact ⟨_,_,_,_,rfl⟩
 ·rintro ρ ⟨s3,s4,s5,s6,rfl⟩
  try simp only [Pu.pwA]
  rw [List.length_zipIdx];rfl
def UG {m:Nat} (h:m<=3):2 ^ (m+1)<=16:=by
 have:2 ^ (m+1)<=2 ^ 4:=Nat.pow_le_pow_right (by decide) (by omega);exact this
def qjz {i j:Nat} {m:List Bool} {x r:List PyData} {ρ:Rho}:NX i j m [.list x,.list r] ρ=some (.nx (((dm m ρ).set i (.sh (.list x))).set j (.sh (.list r)))):=id rfl
def U1:∀ {m j:Nat} {n:Nt},n.Ok m->m<j->m<=3->∀ {xs:List PyData},xs.length=2 ^ (m+1)->VJ j [nD n,.list xs]=some (.list (LED n xs))
 |0,j+1,.leaf b,h,_,_,xs,hx=>by
  have hx2:xs.length=2:=hx;have e:((xs.length:Nat):Int)=2:=by omega
  have f:=qlH (ss:=[b]) (xs:=xs) (sw:=.list [sD b]) rfl rfl (by simpa using hx2) (by simp) (by intro s hs;simp at hs;subst hs;exact h);rw [qdU]
  try simp only [Pu.pwA,MR,nD,e,f,decide_true]
  rfl
 |m+1,j+1,.node f u l g,⟨h1,h2,h3,h4,h5,h6⟩,hj,hm,xs,hx=>by
  have e1:2 ^ (m+1+1)=2*2 ^ (m+1):=by rw [Nat.pow_succ];omega
  have pw:=UG (m:=m) (by omega);have p0:1<=2 ^ m:=Nat.one_le_two_pow;have p1:2 ^ (m+1)=2*2 ^ m:=by rw [Nat.pow_succ];omega
  have ne:¬ ((xs.length:Nat):Int)=2:=by omega
  have lf:=KW (ss:=f) (xs:=xs);have f1:=qlH (ss:=f) (xs:=xs) (sw:=.tuple (f.map sD)) rfl rfl (by omega) (by omega) h3;have l1:(ev (SW f xs)).length=2 ^ (m+1):=by rw [WS,lf];omega
  have l2:(ev ((SW f xs).drop 1)).length=2 ^ (m+1):=by rw [WS,List.length_drop,lf];omega
  have r1:=U1 h5 (show m<j by omega) (by omega) l1;have r2:=U1 h6 (show m<j by omega) (by omega) l2;have q1:=JO h5 l1;have q2:=JO h6 l2;have il:=SL (LED u (ev (SW f xs))) (LED l (ev ((SW f xs).drop 1))) (by omega);have f2:=qlH (ss:=g) (xs:=ilv (LED u (ev (SW f xs))) (LED l (ev ((SW f xs).drop 1)))) (sw:=.tuple (g.map sD)) rfl rfl (by omega) (by omega) h4;have s0:ssD (.list (SW f xs)) (some 0) (some 2)=some (.list (ev (SW f xs))):=qmu (i:=0) (Nat.zero_le _);have s1:ssD (.list (SW f xs)) (some 1) (some 2)=some (.list (ev ((SW f xs).drop 1))):=qmu (i:=1) (by omega);rw [qdU];generalize hA:LED u (ev (SW f xs))=A at *;generalize hC:LED l (ev ((SW f xs).drop 1))=C at *;have fin:LED (Nt.node f u l g) xs=SW g (ilv A C):=by simp only [LED,hA,hC]
  try simp only [Pu.pwA,MR,nD,ne,f1,qcG,qfc,s0,s1,r1,r2,qjz,decide_false]
  rw [qeD (ds:=qd3 A C) (fs:=ilv A C)]
  ·try simp only [Pu.pwA,f2,fin]
  ·rfl
  ·refine qb4 (g:=λp:PyData×PyData=>PyData.tuple [p.1,p.2]) (k:=λp=>[p.1,p.2]) λp hp=>?_
   try simp only [Pu.pwA,qhE,VL,lcP]
  ·omega
 |0,_,.node ..,h,_,_,_,_=>h.elim
 |m+1,_,.leaf _,h,_,_,_,_=>h.elim
 |_,0,_,_,h,_,_,_=>by omega
def qeG:∀ {m j:Nat} {n:Nt},n.Ok m->m<j->zw j [nD n,.int ((2 ^ (m+1):Nat):Int)]=some (nD n.mir)
 |0,j+1,.leaf b,h,_=>by
  have e:((2 ^ (0+1):Nat):Int)=2:=by decide
  rw [DQ,e]
  try simp only [Pu.pwA,QZ,nD,sD,Nt.mir,decide_true]
 |m+1,j+1,.node f u l g,⟨h1,h2,h3,h4,h5,h6⟩,hj=>by
  have e1:2 ^ (m+1+1)=2*2 ^ (m+1):=by rw [Nat.pow_succ];omega
  have p0:1<=2 ^ m:=Nat.one_le_two_pow;have p1:2 ^ (m+1)=2*2 ^ m:=by rw [Nat.pow_succ];omega
  have ne:¬ ((2 ^ (m+1+1):Nat):Int)=2:=by omega
  have r1:=qeG h5 (show m<j by omega);have r2:=qeG h6 (show m<j by omega);have dv:cI Q7 (·/·) (.int ((2 ^ (m+1+1):Nat):Int)) (.int 2)=some (.int ((2 ^ (m+1):Nat):Int)):=by
   rw [WF (by omega)];congr 2;omega
  generalize 2 ^ (m+1+1)=P at *;generalize 2 ^ (m+1)=P2 at *;rw [DQ]
  try simp only [Pu.pwA,QZ,nD,Nt.mir,ne,dv,r1,r2,decide_false]
 |0,_,.node ..,h,_=>h.elim
 |m+1,_,.leaf _,h,_=>h.elim
 |_,0,_,_,h=>by omega
def YQ {m:List Bool} {i:Nat} {d:PyData} {ρ:Rho} (h:dm m ρ=ρ):L4 m false i d ρ=ρ.set i (.sh d):=by
 unfold L4;rw [h];split<;>rfl
def cn:Nat->Nat
 |0=>1
 |m+1=>2*2 ^ (m+1)+2*cn m
def qgE:∀ {m j:Nat},m<j->m<=3->∀ {c:Nat} {Q:QD},c+cn m<900000->(∀ n:Nt,n.Ok m->Q (nD n) (c+cn m))->(zE j).W [.int ((2 ^ (m+1):Nat):Int)] c Q
 |0,j+1,_,_,c,Q,hc,hQ=>by
  have e:((2 ^ (0+1):Nat):Int)=2:=by decide
  rw [WL,e];refine ⟨rfl,?_⟩;unfold Z7;refine jL λY1 h1=>?_
  try simp only [Pu.pwA,decide_true]
  simp only [cn] at hc hQ;refine ⟨by omega,by omega,λu u0 u1=>?_⟩;obtain ⟨u,rfl⟩:=Int.eq_ofNat_of_zero_le u0;exact ⟨_,by omega,hQ (.leaf u) (show u<2 by omega)⟩
 |m+1,j+1,hj,hm,c,Q,hc,hQ=>by
  have e1:2 ^ (m+1+1)=2*2 ^ (m+1):=by rw [Nat.pow_succ];omega
  have p0:1<=2 ^ m:=Nat.one_le_two_pow;have p1:2 ^ (m+1)=2*2 ^ m:=by rw [Nat.pow_succ];omega
  have pw:=UG (m:=m) (by omega);have ne:¬ ((2 ^ (m+1+1):Nat):Int)=2:=by omega
  have dv:cI Q7 (·/·) (.int ((2 ^ (m+1+1):Nat):Int)) (.int 2)=some (.int ((2 ^ (m+1):Nat):Int)):=by
   rw [WF (by omega)];congr 2;omega
  have ih:∀ {c:Nat} {Q:QD},c+cn m<900000->(∀ n:Nt,n.Ok m->Q (nD n) (c+cn m))->(zE j).W [.int ((2 ^ (m+1):Nat):Int)] c Q:=λh1 h2=>qgE (m:=m) (j:=j) (by omega) (by omega) h1 h2;rw [WL];refine ⟨rfl,?_⟩;unfold Z7;simp only [cn] at hc hQ;have ok:∀ (f g:List Nat) (u l:Nt),f.length=2 ^ (m+1)->g.length=2 ^ (m+1)->(∀ s∈f,s<2)->(∀ s∈g,s<2)->u.Ok m->l.Ok m->(Nt.node f u l g).Ok (m+1):=λf g u l a b c d e f'=>⟨a,b,c,d,e,f'⟩
  generalize hN:2 ^ (m+1)=N at *;generalize 2 ^ (m+1+1)=P at *;refine jL λY1 h1=>?_
  try simp only [Pu.pwA,ne,decide_false]
  rw [h1];refine jL λY2 h2=>?_
  try simp only [Pu.pwA,dv]
  refine ⟨_,qba (by omega),by simp [YH];omega,?_⟩;refine R5 (R:=λs:Nat=>s<2) (gd:=sD) (c:=1) (N:=c+N) (YH 0 ((N:Nat):Int).toNat) _ _ (λx _ n' Q' hn' h'=>?_) JB.mn mnT (by rw [qp];omega) λf lf hf=>?_
  ·refine ⟨_,rfl,?_⟩
   try simp only [Pu.pwA,JB]
   refine ⟨by omega,by omega,λa a0 a1=>?_⟩;obtain ⟨a,rfl⟩:=Int.eq_ofNat_of_zero_le a0;exact h' a (by omega)
  rw [qp,Int.toNat_natCast] at lf;rw [qp,Int.toNat_natCast];refine ⟨by simp;omega,?_⟩
  try simp only [Pu.pwA]
  rw [h2];refine jL λY3 h3=>?_
  try simp only [Pu.pwA,dv]
  refine ih (by omega) λu hu=>?_;rw [YQ rfl]
  try simp only [Pu.pwA]
  rw [h3];refine jL λY4 h4=>?_
  try simp only [Pu.pwA,dv]
  refine ih (by omega) λl hl=>?_;rw [YQ rfl]
  try simp only [Pu.pwA]
  rw [h4]
  try simp only [Pu.pwA,dv]
  refine ⟨_,qba (by omega),by simp [YH];omega,?_⟩;refine R5 (R:=λs:Nat=>s<2) (gd:=sD) (c:=1) (N:=c+1*N+cn m+cn m+N) (YH 0 ((N:Nat):Int).toNat) _ _ (λx _ n' Q' hn' h'=>?_) Z6.mn mnT (by rw [qp];omega) λg lg hg=>?_
  ·refine ⟨_,rfl,?_⟩
   try simp only [Pu.pwA,Z6]
   refine ⟨by omega,by omega,λa a0 a1=>?_⟩;obtain ⟨a,rfl⟩:=Int.eq_ofNat_of_zero_le a0;exact h' a (by omega)
  rw [qp,Int.toNat_natCast] at lg;rw [qp,Int.toNat_natCast];refine ⟨by simp;omega,?_⟩
  try simp only [Pu.pwA]
  exact ⟨_,by omega,hQ (.node f u l g) (ok f g u l (by omega) (by omega) hf hg hu hl)⟩
 |_,0,h,_,_,_,_,_=>by omega
open Bk (VG SD SDs T8 KG XJ EO ES X5)
def VQ {n:Nat} {x:Int} (h:x∈YH 0 n):0<=x/\x<n:=by
 simp only [YH,mem_map,mem_range] at h;obtain ⟨k,hk,rfl⟩:=h;omega
def bn:Nat->Nat
 |0=>0
 |m+1=>2*(2 ^ (m+1)+1)+2*(bn m+1)
def qpa {m:Nat} {n:Nt} (h:n.Ok m) (hm:m<=3) {xs:List PyData} (hx:xs.length=2 ^ (m+1)):zH [nD n,.list xs]=some (.list (LED n.mir xs)):=by
 have f1:=qeG (j:=4) h (by omega);have f2:=U1 (j:=4) (Nt.mir_ok h) (by omega) hm hx;rw [SK];rw [← hx] at f1
 try simp only [Pu.pwA,J2,f1,f2]
def qcC:∀ {ms:List Int},(∀ m∈ms,0<=m/\m<1048576)->PyData.weightAll (ms.map PyData.int)<=ms.length*21
 |[],_=>by simp [PyData.weightAll]
 |m::ms,h=>by
  have ih:=qcC (ms:=ms) λx hx=>h x (by simp [hx]);have hm:=h m (by simp);have:PyData.weight (.int m)<=20:=by
   simp only [PyData.weight];split
   ·omega
   ·have:=log2_lt (n:=m.natAbs) (k:=20) (by omega) (by decide);omega
  simp only [map_cons,PyData.weightAll,length_cons];omega
def qlJ {ms:List Int} {k:Int} (hk:k∈ms) (hb:∀ m∈ms,0<=m/\m<1048576) (hl:ms.length<=1000):qdv (.list (ms.map PyData.int)) [.int k]=some (.int (List.idxOf k ms:Nat)):=by
 unfold qdv;simp only [DC,Option.bind_some];refine ze ⟨?_,hk⟩;have w:=qcC hb;simp only [PyData.layable0,PyData.canLay0,PyProof.Rows.canLayAll_ints,PyData.depth,PyProof.Rows.depthAll_ints,PyData.weight,Bool.true_and,Bool.and_eq_true,decide_eq_true_eq];exact ⟨by decide,decide_eq_true (Nat.le_trans w (Nat.le_trans (Nat.mul_le_mul_right 21 hl) (show 1000*21<=2 ^ 20 by decide)))⟩
def qfp {n:Nt} {xs:List PyData} {N:Nat} (h:(LED n xs).length=N):(YH 0 N).map (λl=>(LED n xs).getD l.toNat .none)=LED n xs:=by
 refine List.ext_getElem? λk=>?_;by_cases c:k<N
 ·rw [getElem?_map,YH,getElem?_map,List.getElem?_range c];simp only [Option.map_some];have e:((0:Int)+(k:Int)).toNat=k:=by omega
  rw [e,getD_eq_getElem?_getD,getElem?_eq_getElem (by omega)];rfl
 ·rw [List.getElem?_eq_none (by rw [length_map,qp];omega),List.getElem?_eq_none (by omega)]
def AT (n:Nt) (N:Nat):List Int:=(YH 0 N).map λk=>((n.lane k.toNat:Nat):Int)
def qhk {n:Nt} {N k:Nat} (h:k<N):(AT n N)[k]?=some ((n.lane k:Nat):Int):=by
 unfold AT;rw [getElem?_map,YH,getElem?_map,List.getElem?_range h];simp only [Option.map_some];have e:((0:Int)+(k:Int)).toNat=k:=by omega
 rw [e]
def N8 {n:Nt} {N:Nat}:(AT n N).length=N:=by unfold AT;rw [length_map,qp]
def qlw {m:Nat} {n:Nt} (h:n.Ok m) (hm:m<=3):∀ x∈AT n (2 ^ (m+1)),0<=x/\x<1048576:=λx hx=>by
 obtain ⟨k,hk,rfl⟩:=mem_map.mp hx;have:=VQ hk;have l:=Nt.lane_lt h (k:=k.toNat) (by omega);have:=UG hm;omega
def qiq {m:Nat} {n:Nt} (h:n.Ok m) (hm:m<=3) {xs:List PyData} (hx:xs.length=2 ^ (m+1)) {l:Nat} (hl:l<2 ^ (m+1)):∃ j:Nat,qdv (.list ((AT n (2 ^ (m+1))).map PyData.int)) [.int (l:Int)]=some (.int (j:Int))/\j<xs.length/\xs[j]?=(LED n xs)[l]?:=by
 have lm:=Nt.lane_lt (Nt.mir_ok h) hl;have back:n.lane (n.mir.lane l)=l:=by
  have:=Nt.lane_mir (Nt.mir_ok h) hl;rw [Nt.mir_mir] at this;exact this
 have mem:((l:Nat):Int)∈AT n (2 ^ (m+1)):=by
  have:=qhk (n:=n) lm;rw [back] at this;exact mem_of_getElem? this
 have pl:=UG hm;have e:=qlJ mem (qlw h hm) (by rw [N8];omega);refine ⟨_,e,?_⟩;have jl:=List.idxOf_lt_length_of_mem mem;rw [N8] at jl;have gj:(AT n (2 ^ (m+1)))[List.idxOf (l:Int) (AT n (2 ^ (m+1)))]?=some (l:Int):=by
  rw [getElem?_eq_getElem (by rw [N8];exact jl)];congr 1;exact List.getElem_idxOf _
 rw [qhk jl] at gj;have lj:n.lane (List.idxOf (l:Int) (AT n (2 ^ (m+1))))=l:=by
  have:=Option.some.inj gj;omega
 refine ⟨by omega,?_⟩;have:=WJ h hx jl;rw [lj] at this;exact this.symm
end K60
namespace K60
open PySem L2 L3 Pu
open Pv (qN qp)
open Ben (Pm Nt bt)
def Th (L B:Nat):Nat->PyData->Prop
 |_,.none=>True
 |_,.bool _=>True
 |_,.int i=>-(B:Int)<=i/\i<=B
 |_,.str s=>s.cps.size<=L+14/\(s.cps.toList.all λc=>decide (c<16 ^ 8))=true
 |n+1,.list ds=>ds.length<=L/\∀ d∈ds,Th L B n d
 |n+1,.tuple ds=>ds.length<=L/\∀ d∈ds,Th L B n d
 |_,_=>False
def qmX {L B:Nat} (n:Nat):Th L B n .none:=by cases n<;>trivial
def qlU {L B:Nat} (n:Nat) {b:Bool}:Th L B n (.bool b):=by cases n<;>trivial
def K7 {L B:Nat} (n:Nat) {i:Int}:Th L B n (.int i)=(-(B:Int)<=i/\i<=B):=by cases n<;>rfl
def qla {L B:Nat} (n:Nat) {s:Str}:Th L B n (.str s)=(s.cps.size<=L+14/\(s.cps.toList.all λc=>decide (c<16 ^ 8))=true):=by cases n<;>rfl
def qa7 {L B n:Nat} {ds:List PyData} (hl:ds.length<=L) (h:∀ d∈ds,Th L B n d):Th L B (n+1) (.tuple ds):=⟨hl,h⟩
def qn8 {L B n:Nat} {ds:List PyData} (hl:ds.length<=L) (h:∀ d∈ds,Th L B n d):Th L B (n+1) (.list ds):=⟨hl,h⟩
def ZC {L B L' B':Nat} (hL:L<=L') (hB:B<=B'):∀ {n:Nat} (m:Nat) {d:PyData},Th L B n d->n<=m->Th L' B' m d
 |n,m,.none,_,_=>qmX m
 |n,m,.bool _,_,_=>qlU m
 |n,m,.int i,h,_=>by rw [K7] at h ⊢;omega
 |n,m,.str s,h,_=>by rw [qla] at h ⊢;exact ⟨by omega,h.2⟩
 |n+1,m+1,.list ds,⟨h1,h2⟩,e=>⟨by omega,λd hd=>ZC hL hB m (h2 d hd) (by omega)⟩
 |n+1,m+1,.tuple ds,⟨h1,h2⟩,e=>⟨by omega,λd hd=>ZC hL hB m (h2 d hd) (by omega)⟩
 |0,_,.list ds,h,_=>h.elim
 |0,_,.tuple ds,h,_=>h.elim
 |n+1,0,.list ds,h,e=>by omega
 |n+1,0,.tuple ds,h,e=>by omega
 |0,_,.dict _,h,_=>h.elim
 |n+1,_,.dict _,h,_=>h.elim
def isB:PyData->Bool
 |.int i=>decide (0<=i)&&decide (i<2)
 |_=>false
def isS (n:Nat):PyData->Bool
 |.tuple ds=>decide (ds.length=n)&&ds.all isB
 |_=>false
def isN:Nat->PyData->Bool
 |0,d=>isB d
 |m+1,.tuple [f,u,l,g]=>isS (2 ^ (m+1)) f&&isS (2 ^ (m+1)) g&&(isN m u&&isN m l)
 |_,_=>false
def qaY {L B n:Nat} {d:PyData} (h:Th L B n d) (hd:∀ i,d≠.int i):qB [d]=some (.bool false):=by
 rw [UX];cases d with
 |int i=>exact (hd i rfl).elim
 |bool b=>try simp only [Pu.pwA,zm,show qZ "bool" "int" = true from rfl,show qZ "bool" "bool" = true from rfl,Bool.not_true]
 |none=>try simp only [Pu.pwA,zm,show qZ "NoneType" "int" = false from rfl]
 |str s=>try simp only [Pu.pwA,zm,show qZ "str" "int" = false from rfl]
 |tuple ds=>try simp only [Pu.pwA,zm,show qZ "tuple" "int" = false from rfl]
 |list ds=>try simp only [Pu.pwA,zm,show qZ "list" "int" = false from rfl]
 |_=>cases n<;>exact h.elim
def qkn {L B n:Nat} {d:PyData} (h:Th L B n d):qk [d,.int 2]=some (.bool (isB d)):=by
 rw [VW];cases d with
 |int i=>
  try simp only [Pu.pwA,qu,qiC,isB]
  by_cases c:0<=i
  ·try simp only [Pu.pwA,c,decide_true,Bool.true_and]
  ·try simp only [Pu.pwA,c,decide_false,Bool.false_and]
 |bool b=>try simp only [Pu.pwA,qu,qaY h (λ_ z=>by cases z),isB]
 |none=>try simp only [Pu.pwA,qu,qaY h (λ_ z=>by cases z),isB]
 |str s=>try simp only [Pu.pwA,qu,qaY h (λ_ z=>by cases z),isB]
 |tuple ds=>try simp only [Pu.pwA,qu,qaY h (λ_ z=>by cases z),isB]
 |list ds=>try simp only [Pu.pwA,qu,qaY h (λ_ z=>by cases z),isB]
 |_=>cases n<;>exact h.elim
def qkj {L B n k:Nat} {d:PyData} (h:Th L B n d) (hL:L<=1000):qA [d,.int (k:Int)]=some (.bool (isS k d)):=by
 rw [DP];cases d with
 |int i=>try simp only [Pu.pwA,qG,isS,show qZ "int" "tuple" = false from rfl]
 |bool b=>try simp only [Pu.pwA,qG,isS,show qZ "bool" "tuple" = false from rfl]
 |none=>try simp only [Pu.pwA,qG,isS,show qZ "NoneType" "tuple" = false from rfl]
 |str s=>try simp only [Pu.pwA,qG,isS,show qZ "str" "tuple" = false from rfl]
 |list ds=>try simp only [Pu.pwA,qG,isS,show qZ "list" "tuple" = false from rfl]
 |tuple ds=>
  cases n with
  |zero=>exact h.elim
  |succ n=>
   obtain ⟨h1,h2⟩:=h
   try simp only [Pu.pwA,qG,isS,qdX]
   rw [JN (ds:=ds) (fs:=(ds.map isB).map PyData.bool)]
   rotate_left
   ·try simp only [Pu.pwA]
   ·rw [map_map];have:=Q9 (g:=id) (h:=lcH (gN 0).f bTt.f (qv (zn qk false) (qf (bV 0) (qf (qz 2) qs))).f (D6 [none] [.sh (.tuple ds),.sh (.int (k:Int))])) (k:=PyData.bool∘isB) (xs:=ds) λa ha=>by
     try simp only [Pu.pwA,VL,id,qkn (h2 a ha),Function.comp_def]
    rw [List.map_id] at this;exact this
   ·simp;omega
   have e:decide ((ds.length:Int)=(k:Int))=decide (ds.length=k):=by rw [decide_eq_decide];omega
   try simp only [Pu.pwA,e,CF]
   have e2:(ds.map isB).all id=ds.all isB:=by rw [List.all_map];rfl
   rw [e2];by_cases c:ds.length=k
   ·try simp only [Pu.pwA,c,decide_true,Bool.true_and]
   ·try simp only [Pu.pwA,c,decide_false,Bool.false_and]
 |_=>cases n<;>exact h.elim
def qfO {m:Nat}:cI Q7 (·/·) (.int ((2 ^ (m+1+1):Nat):Int)) (.int 2)=some (.int ((2 ^ (m+1):Nat):Int)):=by
 rw [WF (by omega)];congr 2;rw [Nat.pow_succ];omega
def qjR {m:Nat}:¬ (((2 ^ (m+1+1):Nat):Int)=2):=by
 have:1<=2 ^ m:=Nat.one_le_two_pow;rw [Nat.pow_succ,Nat.pow_succ];omega
def qeo {L B:Nat} (hL:L<=1000):∀ {m j n:Nat} {d:PyData},Th L B n d->m<j->jc j [d,.int ((2 ^ (m+1):Nat):Int)]=some (.bool (isN m d))
 |0,j+1,n,d,h,_=>by
  rw [CB];have e:((2 ^ (0+1):Nat):Int)=2:=rfl
  try simp only [Pu.pwA,e,QC,qkn h,isN,decide_true]
 |m+1,j+1,n,d,h,hj=>by
  rw [CB];have n2:=qjR (m:=m);have nf:∀ ty,qZ ty "tuple" = false->tyD d=some ty->isN (m+1) d=false->UY false ((QC (jc j)).f 1000000000 [.sh d,.sh (.int ((2 ^ (m+1+1):Nat):Int)),.un,.un,.un,.un,.un])=some (.bool (isN (m+1) d)):=λty z1 z2 z3=>by
   rw [z3]
   try simp only [Pu.pwA,QC,n2,z2,z1,decide_false,Bool.not_false]
  cases d with
  |int i=>exact nf _ rfl rfl rfl
  |bool b=>exact nf _ rfl rfl rfl
  |none=>exact nf _ rfl rfl rfl
  |str s=>exact nf _ rfl rfl rfl
  |list ds=>exact nf _ rfl rfl rfl
  |tuple ds=>
   cases n with
   |zero=>exact h.elim
   |succ n=>
    obtain ⟨h1,h2⟩:=h;by_cases c:ds.length=4
    ·match ds,c with
     |[f,u,l,g],_=>
      have r1:=qkj (k:=2 ^ (m+1)) (h2 f (by simp)) hL;have r2:=qkj (k:=2 ^ (m+1)) (h2 g (by simp)) hL;have r3:=qeo hL (m:=m) (j:=j) (h2 u (by simp)) (by omega);have r4:=qeo hL (m:=m) (j:=j) (h2 l (by simp)) (by omega);have t4:((0+1+1+1+1:Nat):Int)=4:=rfl;have t4':((1+1+1+1:Nat):Int)=4:=rfl
      try simp only [Pu.pwA,QC,isN,n2,qdX,t4,t4',length_cons,length_nil,decide_true,decide_false,Bool.not_true,qfO,qao,SA,MN,r1,r2]
      cases isS (2 ^ (m+1)) f
      ·try simp only [Pu.pwA,Bool.not_false,Bool.false_and]
      cases isS (2 ^ (m+1)) g
      ·try simp only [Pu.pwA,Bool.not_false,Bool.not_true,Bool.and_false,Bool.false_and]
      try simp only [Pu.pwA,Bool.not_true,Bool.and_self,Bool.true_and,r3,r4]
      cases isN m u
      ·try simp only [Pu.pwA,Bool.false_and]
      ·try simp only [Pu.pwA,Bool.true_and]
    ·have c':¬ ((ds.length:Int)=4):=by omega
     have e:isN (m+1) (.tuple ds)=false:=by
      unfold isN;split<;>simp_all
     rw [e]
     try simp only [Pu.pwA,QC,n2,qdX,c',decide_false,Bool.not_true,Bool.not_false]
  |_=>cases n<;>exact h.elim
 |_,0,_,_,_,h=>by omega
def KO {gf:PyData->Option (List (Nat×PyData))} {bf:Rho->Option Ot} {α:Type} {g:α->PyData} {d:PyData} {b:Bool} (p:α->Bool) (J:Rho->Prop):∀ (xs:List α) {ρ:Rho},J ρ->(∀ x∈xs,∀ ρ,J ρ->∃ ρ',J ρ'/\((gf (g x)).bind λbs=>bf (Q4 ρ bs))=some (if p x then .nx ρ' else .rt d b))->∃ ρ',J ρ'/\RX gf bf (xs.map g) ρ=some (if xs.all p then .nx ρ' else .rt d b)
 |[],ρ,h0,_=>⟨ρ,h0,rfl⟩
 |x::xs,ρ,h0,hs=>by
  obtain ⟨ρ1,h1,e1⟩:=hs x (by simp) ρ h0;obtain ⟨bs,e2,e3⟩:=obb e1;cases hp:p x with
  |true=>
   obtain ⟨ρ2,h2,e4⟩:=KO p J xs h1 λy hy=>hs y (by simp [hy]);refine ⟨ρ2,h2,?_⟩;rw [hp,if_pos rfl] at e3;simp only [map_cons,RX,e2,Option.bind_some,e3,List.all_cons,hp,Bool.true_and];exact e4
  |false=>
   refine ⟨ρ1,h1,?_⟩;rw [hp,if_neg Bool.false_ne_true] at e3;simp only [map_cons,RX,e2,Option.bind_some,e3,List.all_cons,hp,Bool.false_and];rfl
def qfE {gf:PyData->Option (List (Nat×PyData))} {bf:Rho->Option Ot} {α:Type} {g:α->PyData} {d:PyData} {b:Bool} {ρ:Rho} {Q:Option Ot->Prop} {F:Ot->Option Ot} (p:α->Bool) (J:Rho->Prop) (xs:List α) (h0:J ρ) (hs:∀ x∈xs,∀ ρ,J ρ->∃ ρ',J ρ'/\((gf (g x)).bind λbs=>bf (Q4 ρ bs))=some (if p x then .nx ρ' else .rt d b)) (k1:xs.all p=true->∀ ρ',J ρ'->Q (F (.nx ρ'))) (k2:xs.all p=false->Q (F (.rt d b))):Q ((RX gf bf (xs.map g) ρ).bind F):=by
 obtain ⟨ρ',h,e⟩:=KO (gf:=gf) (bf:=bf) p J xs h0 hs;rw [e];cases hP:xs.all p with
 |true=>exact k1 hP ρ' h
 |false=>exact k2 hP
def qlG {i:Int}:inD false (.int i) (.tuple [.int 0,.int 1])=some (.bool (decide (0<=i)&&decide (i<2))):=by
 refine (ze ⟨rfl,by simp [RR]⟩).trans ?_;congr 2;show ((decide ((0:Int)=i))||((decide ((1:Int)=i))||false))=_;by_cases c0:i=0
 ·subst c0;rfl
 by_cases c1:i=1
 ·subst c1;rfl
 have a0:¬ (0:Int)=i:=by omega
 have a1:¬ (1:Int)=i:=by omega
 simp only [a0,a1,decide_false,Bool.or_false];by_cases z:0<=i
 ·have:¬ i<2:=by omega
  simp [this]
 ·simp [z]
def qcS {L B n j:Nat} {d:PyData} (h:Th L B n d):qy (j+1) [d,.int 2]=some (.bool (isB d)):=by
 rw [VN];cases d with
 |int i=>try simp only [Pu.pwA,qx,isB,qnb,qop,qlG,decide_true,Bool.not_false]
 |bool b=>try simp only [Pu.pwA,qx,isB,show qZ "bool" "int" = true from rfl,show qZ "bool" "bool" = true from rfl,decide_true,Bool.not_true]
 |none=>try simp only [Pu.pwA,qx,isB,show qZ "NoneType" "int" = false from rfl,decide_true]
 |str s=>try simp only [Pu.pwA,qx,isB,show qZ "str" "int" = false from rfl,decide_true]
 |list ds=>try simp only [Pu.pwA,qx,isB,show qZ "list" "int" = false from rfl,decide_true]
 |tuple ds=>try simp only [Pu.pwA,qx,isB,show qZ "tuple" "int" = false from rfl,decide_true]
 |_=>cases n<;>exact h.elim
def MA {L B:Nat} (hL:L<=1000):∀ {m j n:Nat} {d:PyData},Th L B n d->m<j->qy j [d,.int ((2 ^ (m+1):Nat):Int)]=some (.bool (isN m d))
 |0,j+1,n,d,h,_=>qcS h
 |m+1,j+1,n,d,h,hj=>by
  obtain ⟨i,rfl⟩:∃ i,j=i+1:=⟨j-1,by omega⟩
  rw [VN];have n2:=qjR (m:=m);have nf:∀ ty,qZ ty "tuple" = false->tyD d=some ty->isN (m+1) d=false->UY false ((qx (qy (i+1))).f 1000000000 [.sh d,.sh (.int ((2 ^ (m+1+1):Nat):Int)),.un])=some (.bool (isN (m+1) d)):=λty z1 z2 z3=>by
   rw [z3]
   try simp only [Pu.pwA,qx,n2,z2,z1,decide_false,Bool.not_false]
  cases d with
  |int i=>exact nf _ rfl rfl rfl
  |bool b=>exact nf _ rfl rfl rfl
  |none=>exact nf _ rfl rfl rfl
  |str s=>exact nf _ rfl rfl rfl
  |list ds=>exact nf _ rfl rfl rfl
  |tuple ds=>
   cases n with
   |zero=>exact h.elim
   |succ n=>
    obtain ⟨h1,h2⟩:=h;by_cases c:ds.length=4
    ·match ds,c with
     |[f,u,l,g],_=>
      have r3:=MA hL (m:=m) (j:=i+1) (h2 u (by simp)) (by omega);have r4:=MA hL (m:=m) (j:=i+1) (h2 l (by simp)) (by omega);have t4:((0+1+1+1+1:Nat):Int)=4:=rfl;have t4':((1+1+1+1:Nat):Int)=4:=rfl
      try simp only [Pu.pwA,qx,isN,n2,qdX,t4,t4',length_cons,length_nil,decide_true,decide_false,Bool.not_true]
      refine qfE (d:=.bool false) (b:=false) (g:=λx=>x) (Q:=λo=>UY false o=some (PyData.bool (isS (2 ^ (m+1)) f&&isS (2 ^ (m+1)) g&&(isN m u&&isN m l)))) (isS (2 ^ (m+1))) (λρ=>∃ s2,ρ=[.sh (.tuple [f,u,l,g]),.sh (.int ((2 ^ (m+1+1):Nat):Int)),s2]) [f,g] ⟨_,rfl⟩ ?_ ?_ ?_
      ·rintro x hx ρ ⟨s2,rfl⟩;have tx:Th L B n x:=h2 x (by simp at hx ⊢;rcases hx with rfl|rfl<;>simp);refine ⟨_,⟨.sh x,rfl⟩,?_⟩;cases x with
       |int i=>try simp only [Pu.pwA,isS,show qZ "int" "tuple" = false from rfl,Bool.not_false]
       |bool b=>try simp only [Pu.pwA,isS,show qZ "bool" "tuple" = false from rfl,Bool.not_false]
       |none=>try simp only [Pu.pwA,isS,show qZ "NoneType" "tuple" = false from rfl,Bool.not_false]
       |str s=>try simp only [Pu.pwA,isS,show qZ "str" "tuple" = false from rfl,Bool.not_false]
       |list ds=>try simp only [Pu.pwA,isS,show qZ "list" "tuple" = false from rfl,Bool.not_false]
       |tuple ds=>
        cases n with
        |zero=>exact tx.elim
        |succ n=>
         obtain ⟨t1,t2⟩:=tx;have e:(!decide ((ds.length:Int)=((2 ^ (m+1):Nat):Int)))=!decide (ds.length=2 ^ (m+1)):=by
          congr 1;rw [decide_eq_decide];omega
         try simp only [Pu.pwA,isS,qdX,qfO,Bool.not_true,e]
         by_cases c:ds.length=2 ^ (m+1)
         ·try simp only [Pu.pwA,c,decide_true,Bool.not_true,Bool.true_and]
          rw [JN (ds:=ds) (fs:=(ds.map isB).map PyData.bool)]
          rotate_left
          ·try simp only [Pu.pwA]
          ·rw [map_map];have:=Q9 (g:=id) (h:=lcH (λd=>some [(0,d)]) (λx=>some true) (λρ=>((vw ρ 0).bind λx=>some [x,PyData.int 2]).bind (qy (i+1))) (D6 [none] [.sh (.tuple [f,u,l,g]),.sh (.int ((2 ^ (m+1+1):Nat):Int)),.sh (.tuple ds)])) (k:=PyData.bool∘isB) (xs:=ds) λa ha=>by
            try simp only [Pu.pwA,VL,id,qcS (t2 a ha),Function.comp_def]
           rw [List.map_id] at this;exact this
          ·simp;omega
          have e2:(ds.map isB).all id=ds.all isB:=by rw [List.all_map];rfl
          try simp only [Pu.pwA,CF,e2]
          cases ds.all isB<;>try simp only [Pu.pwA,Bool.not_true,Bool.not_false]
         ·try simp only [Pu.pwA,c,decide_false,Bool.not_false,Bool.false_and]
       |_=>cases n<;>exact tx.elim
      ·rintro al ρ ⟨s2,rfl⟩;simp only [List.all_cons,List.all_nil,Bool.and_true,Bool.and_eq_true] at al
       try simp only [Pu.pwA,al.1,al.2,qfO,r3,r4,Bool.and_self,Bool.true_and]
       cases isN m u
       ·try simp only [Pu.pwA,Bool.false_and]
       ·try simp only [Pu.pwA,Bool.true_and]
      ·intro al;simp only [List.all_cons,List.all_nil,Bool.and_true] at al
       try simp only [Pu.pwA,al,Bool.false_and]
    ·have c':¬ ((ds.length:Int)=4):=by omega
     have e:isN (m+1) (.tuple ds)=false:=by
      unfold isN;split<;>simp_all
     rw [e]
     try simp only [Pu.pwA,qx,n2,qdX,c',decide_false,Bool.not_true,Bool.not_false]
  |_=>cases n<;>exact h.elim
 |_,0,_,_,_,h=>by omega
open Bk (VG SD SDs T8 L6 qay KG XJ EO ES X5)
mutual
def wt:PyData->Nat
 |.tuple ds=>wts ds
 |.list ds=>wts ds
 |.str s=>s.cps.size
 |_=>0
def wts:List PyData->Nat
 |[]=>0
 |d::ds=>wt d+1+wts ds
end
def jE:∀ a b:List PyData,wts (a++b)=wts a+wts b
 |[],b=>by simp [wts]
 |d::a,b=>by
  show wt d+1+wts (a++b)=wt d+1+wts a+wts b;rw [jE a b];omega
def TH (a:List PyData) (k:Nat):wts (a.take k)+wts (a.drop k)=wts a:=by
 rw [← jE,List.take_append_drop]
def qez (a:List PyData):wts a.reverse=wts a:=by
 induction a with
 |nil=>rfl
 |cons d a ih=>
  rw [List.reverse_cons,jE,ih];show wts a+(wt d+1+0)=wt d+1+wts a;omega
def MJ {n:Nat}:∀ {ds:List PyData},(∀ d∈ds,SD n (wt d) d)->SDs n (wts ds) ds
 |[],_=>X5 _ _
 |d::ds,h=>ES (h d (by simp)) (MJ λx hx=>h x (by simp [hx])) (Nat.le_refl _)
def qeW {L B:Nat} (hB:B<=1000000):∀ {n:Nat} {d:PyData},Th L B n d->SD n (wt d) d
 |n,.none,_=>L6 _ _
 |n,.bool _,_=>qay _ _ _
 |n,.int i,h=>by rw [K7] at h;exact T8 _ _ (by omega)
 |n,.str s,h=>by rw [qla] at h;exact KG _ _ (Nat.le_refl _) h.2
 |n+1,.tuple ds,⟨_,h2⟩=>EO (MJ λd hd=>qeW hB (h2 d hd))
 |n+1,.list ds,⟨_,h2⟩=>XJ (MJ λd hd=>qeW hB (h2 d hd))
 |0,.tuple _,h=>h.elim
 |0,.list _,h=>h.elim
 |0,.dict _,h=>h.elim
 |n+1,.dict _,h=>h.elim
def qfn {L B n:Nat} {d:PyData} (h:Th L B n d) (hB:B<=1000000) (hn:n<=40) (hb:wt d<=2 ^ 20):∃ x,W7 true [d]=some (.str x):=by
 have w:=(qeW hB h).w hn hb;cases d with
 |none=>exact ⟨_,qkD⟩
 |bool b=>exact ⟨_,qic⟩
 |int i=>rw [K7] at h;exact ⟨_,qiw (by omega)⟩
 |str x=>exact ⟨_,qhM⟩
 |list ds=>exact ⟨_,qgT w⟩
 |tuple ds=>exact ⟨_,qiD w⟩
 |_=>cases n<;>exact h.elim
def NW:∀ {ds:List PyData},(∀ d∈ds,isB d=true)->∃ f:List Nat,ds=f.map sD/\∀ s∈f,s<2
 |[],_=>⟨[],rfl,λs hs=>by simp at hs⟩
 |d::ds,h=>by
  obtain ⟨f,rfl,hf⟩:=NW (ds:=ds) λx hx=>h x (by simp [hx]);have hd:=h d (by simp);cases d with
  |int i=>
   simp only [isB,Bool.and_eq_true,decide_eq_true_eq] at hd;refine ⟨i.toNat::f,?_,λs hs=>?_⟩
   ·show _=PyData.int ((i.toNat:Nat):Int)::f.map sD;congr 2;omega
   ·rcases mem_cons.mp hs with rfl|hs
    ·omega
    ·exact hf s hs
  |_=>simp [isB] at hd
def qcs {k:Nat} {d:PyData} (h:isS k d=true):∃ f:List Nat,d=.tuple (f.map sD)/\f.length=k/\∀ s∈f,s<2:=by
 cases d with
 |tuple ds=>
  simp only [isS,Bool.and_eq_true,decide_eq_true_eq,List.all_eq_true] at h;obtain ⟨f,rfl,hf⟩:=NW h.2;exact ⟨f,rfl,by rw [← h.1,length_map],hf⟩
 |_=>simp [isS] at h
def SU:∀ {m:Nat} {d:PyData},isN m d=true->∃ n:Nt,n.Ok m/\d=nD n
 |0,d,h=>by
  cases d with
  |int i=>
   simp only [isN,isB,Bool.and_eq_true,decide_eq_true_eq] at h;exact ⟨.leaf i.toNat,(by show i.toNat<2;omega),by show PyData.int i=.int ((i.toNat:Nat):Int);congr 1;omega⟩
  |_=>simp [isN,isB] at h
 |m+1,d,h=>by
  match d,h with
  |.tuple [f,u,l,g],h=>
   simp only [isN,Bool.and_eq_true] at h;obtain ⟨⟨hf,hg⟩,hu,hl⟩:=h;obtain ⟨f',rfl,f1,f2⟩:=qcs hf;obtain ⟨g',rfl,g1,g2⟩:=qcs hg;obtain ⟨u',u1,rfl⟩:=SU hu;obtain ⟨l',l1,rfl⟩:=SU hl;exact ⟨.node f' u' l' g',⟨f1,g1,f2,g2,u1,l1⟩,rfl⟩
def qiP {n:Nat} {f:List Nat} (h:∀ s∈f,s<2) (hl:f.length<=8):Th 8 1 (n+1) (.tuple (f.map sD)):=by
 refine qa7 (by rw [length_map];exact hl) λd hd=>?_;obtain ⟨s,hs,rfl⟩:=mem_map.mp hd;have:=h s hs;unfold sD;rw [K7];omega
def qgL (f:List Nat):wts (f.map sD)=f.length:=by
 induction f with
 |nil=>rfl
 |cons s f ih=>
  show 0+1+wts (f.map sD)=f.length+1;omega
def N6:∀ {m:Nat} {n:Nt},n.Ok m->m<=3->Th 8 1 (m+1) (nD n)/\wt (nD n)<=bn m
 |0,.leaf b,h,_=>by
  have:b<2:=h;refine ⟨?_,Nat.zero_le _⟩;show Th 8 1 1 (.int (b:Int));rw [K7];omega
 |m+1,.node f u l g,⟨h1,h2,h3,h4,h5,h6⟩,hm=>by
  obtain ⟨a1,a2⟩:=N6 h5 (by omega);obtain ⟨b1,b2⟩:=N6 h6 (by omega);have hp:2 ^ (m+1)<=8:=Nat.pow_le_pow_right (n:=2) (j:=3) (by decide) (by omega);refine ⟨qa7 (by simp) λd hd=>?_,?_⟩
  ·simp only [mem_cons,not_mem_nil,or_false] at hd;rcases hd with rfl|rfl|rfl|rfl
   ·exact qiP h3 (by omega)
   ·exact a1
   ·exact b1
   ·exact qiP h4 (by omega)
  ·show wts (f.map sD)+1+(wt (nD u)+1+(wt (nD l)+1+(wts (g.map sD)+1+0)))<=2*(2 ^ (m+1)+1)+2*(bn m+1);rw [qgL,qgL];omega
 |0,.node ..,h,_=>h.elim
 |m+1,.leaf _,h,_=>h.elim
end K60
namespace K60
open PySem L2 L3 Pu
open Pv (qN qp)
open Ben (Pm Nt bt)
mutual
def qdE {L B:Nat}:∀ {n:Nat} {d:PyData},Th L B n d->dpt d<=n
 |n,.none,_=>Nat.zero_le _
 |n,.bool _,_=>Nat.zero_le _
 |n,.int _,_=>Nat.zero_le _
 |n,.str _,_=>Nat.zero_le _
 |n+1,.list ds,h=>by
  simp only [dpt];have:=SB (ds:=ds) (n:=n) h.2;omega
 |n+1,.tuple ds,h=>by
  simp only [dpt];have:=SB (ds:=ds) (n:=n) h.2;omega
 |0,.list ds,h=>h.elim
 |0,.tuple ds,h=>h.elim
 |0,.dict _,h=>h.elim
 |n+1,.dict _,h=>h.elim
def SB {L B:Nat}:∀ {n:Nat} {ds:List PyData},(∀ d∈ds,Th L B n d)->qbs ds<=n
 |n,[],_=>Nat.zero_le _
 |n,d::ds,h=>by
  simp only [qbs];exact Nat.max_le.mpr ⟨qdE (h d (by simp)),SB λx hx=>h x (by simp [hx])⟩
end
def qmL {g:Bool} {ds:List PyData} (h:dpt (.tuple ds)<=40):eqD g (.tuple ds) (.tuple [])=some (.bool (if g then !ds.isEmpty else ds.isEmpty)):=by
 have z:S9 (.tuple ds) (.tuple [])=none:=rfl;unfold eqD;rw [z];simp only;rw [ze ⟨h,by simp [dpt]⟩];cases ds<;>cases g<;>simp [ji,Z0]
def TZ {α:Type} (xs:List α) (k:Nat):V3 xs none (some (k:Int))=xs.take k:=by
 unfold V3;rw [HT.WX,HT.KU,List.drop_zero,Nat.sub_zero,List.take_eq_take_iff];omega
def KD {α:Type} (xs:List α) (k:Nat):V3 xs (some (k:Int)) none=xs.drop k:=by
 unfold V3;rw [HT.WX,HT.KU,List.take_of_length_le (by simp)];by_cases c:k<=xs.length
 ·rw [Nat.min_eq_left c]
 ·rw [Nat.min_eq_right (by omega),List.drop_of_length_le (Nat.le_refl _),List.drop_of_length_le (by omega)]
def Sp (d r:PyData):Prop:=(∀ {L B n:Nat},4<=L->2<=B->Th L B n d->Th (L+1) (B+1) (n+3) r)/\wt r<=2*wt d+20
def qgJ {L B n c:Nat} {d:PyData} {Q:QD} (h:Th L B n d) (hB:B<=900000) (hc:c<900000) (hd:∀ ds,d≠.tuple ds) (hQ:∀ r,Sp d r->Q r (c+1)):qI.W [d] c Q:=by
 rw [UJ];refine ⟨rfl,?_⟩;unfold zO;refine jL λY1 h1=>?_
 try simp only [Pu.pwA]
 rw [h1];refine jL λY2 h2=>?_
 try simp only [Pu.pwA]
 refine ⟨by omega,by omega,λw w0 w1=>?_⟩;rw [h2];refine jL λY3 h3=>?_;have tab:Y3 [.un,.sh d,.ow [.int 1,.int 0,.int 2,.int (-1),.bool true,.bool false,.none,.str "0",.tuple [],.tuple [.int 0],.list [.int 0],.tuple [.int 0,.int 1]],.sh (.int w)] (c+1) (qbH false Q):=by
  rw [h3];obtain ⟨v,hv,e⟩:=qcR (ds:=[.int 1,.int 0,.int 2,.int (-1),.bool true,.bool false,.none,.str "0",.tuple [],.tuple [.int 0],.list [.int 0],.tuple [.int 0,.int 1]]) (r:=w%12) (by omega) (by simp;omega);have md:cI (λ_ j=>0<j) (·%·) (.int w) (.int 12)=some (.int (w%12)):=TN (by omega)
  try simp only [Pu.pwA,md,e]
  refine ⟨_,Nat.le_refl _,hQ v ?_⟩;have k0:∀ (L B n:Nat),4<=L->2<=B->Th (L+1) (B+1) n (.int 0):=λL B n _ _=>by rw [K7];omega
  have k1:∀ (L B n:Nat),4<=L->2<=B->Th (L+1) (B+1) n (.int 1):=λL B n _ _=>by rw [K7];omega
  simp only [mem_cons,not_mem_nil,or_false] at hv;rcases hv with rfl|rfl|rfl|rfl|rfl|rfl|rfl|rfl|rfl|rfl|rfl|rfl
  ·exact ⟨λa b _=>k1 _ _ _ a b,by simp [wt]⟩
  ·exact ⟨λa b _=>k0 _ _ _ a b,by simp [wt]⟩
  ·exact ⟨λa b _=>by rw [K7];omega,by simp [wt]⟩
  ·exact ⟨λa b _=>by rw [K7];omega,by simp [wt]⟩
  ·exact ⟨λ_ _ _=>qlU _,by simp [wt]⟩
  ·exact ⟨λ_ _ _=>qlU _,by simp [wt]⟩
  ·exact ⟨λ_ _ _=>qmX _,by simp [wt]⟩
  ·exact ⟨λ_ _ _=>by rw [qla];exact ⟨Nat.le_trans (show (("0" : Str).cps.size)<=1 by decide) (by omega),by decide⟩,Nat.le_trans (show (("0" : Str).cps.size)<=1 by decide) (by omega)⟩
  ·exact ⟨λ_ _ _=>qa7 (by simp) (λd hd=>by simp at hd),by simp [wt,wts]⟩
  ·exact ⟨λa b _=>qa7 (by simp) (λd hd=>by simp at hd;subst hd;exact k0 _ _ _ a b),by simp [wt,wts]⟩
  ·exact ⟨λa b _=>qn8 (by simp) (λd hd=>by simp at hd;subst hd;exact k0 _ _ _ a b),by simp [wt,wts]⟩
  ·exact ⟨λa b _=>qa7 (by simp;omega) (λd hd=>by
    simp only [mem_cons,not_mem_nil,or_false] at hd;rcases hd with rfl|rfl
    ·exact k0 _ _ _ a b
    ·exact k1 _ _ _ a b),by simp [wt,wts]⟩
 by_cases cw:12<=w
 ·cases d with
  |int i=>
   try simp only [Pu.pwA,cw,decide_true,qnb]
   refine ⟨.int (1-i),rfl,_,Nat.le_refl _,hQ _ ⟨λa b t=>?_,by simp [wt]⟩⟩;rw [K7] at t ⊢;omega
  |bool b=>
   try simp only [Pu.pwA,cw,decide_true,show qZ "bool" "int" = true from rfl]
   refine ⟨.int (1-(if b then 1 else 0)),by cases b<;>rfl,_,Nat.le_refl _,hQ _ ⟨λa b t=>?_,by simp [wt]⟩⟩;rw [K7];split<;>omega
  |none=>
   try simp only [Pu.pwA,cw,decide_true,show qZ "NoneType" "int" = false from rfl]
   exact tab
  |str x=>
   try simp only [Pu.pwA,cw,decide_true,show qZ "str" "int" = false from rfl]
   exact tab
  |list x=>
   try simp only [Pu.pwA,cw,decide_true,show qZ "list" "int" = false from rfl]
   exact tab
  |tuple x=>exact (hd x rfl).elim
  |_=>cases n<;>exact h.elim
 ·try simp only [Pu.pwA,cw,decide_false]
  exact tab
def XU (a:List PyData) (k:Nat):wts (a.take k)<=wts a:=by have:=TH a k;omega
def EG (a:List PyData) (k:Nat):wts (a.drop k)<=wts a:=by have:=TH a k;omega
def LZ (a:List PyData) (x y:Option Int):wts (V3 a x y)<=wts a:=by
 unfold V3;exact Nat.le_trans (XU _ _) (EG _ _)
def qh5 (a:List PyData) (x y:Nat):(V3 a (some (x:Int)) (some (y:Int))).length=min (min y a.length-min x a.length) (a.length-min x a.length):=by
 unfold V3;rw [HT.WX,HT.WX,List.length_take,List.length_drop]
def Odd (x:PyData):Prop:=(∀ {L B n:Nat},4<=L->2<=B->Th (L+1) (B+1) (n+2) x)/\wt x<=10
def KC {ds es:List PyData} (hm:∀ x∈es,x∈ds\/Odd x) (hl:es.length<=ds.length+1) (hw:wts es<=2*wts ds+20):Sp (.tuple ds) (.tuple es):=by
 refine ⟨λ{L B n} a b t=>?_,hw⟩;cases n with
 |zero=>exact t.elim
 |succ n=>
  obtain ⟨t1,t2⟩:=t;refine qa7 (by omega) λx hx=>?_;rcases hm x hx with h|h
  ·exact ZC (by omega) (by omega) _ (t2 x h) (by omega)
  ·exact ZC (Nat.le_refl _) (Nat.le_refl _) _ (h.1 (n:=n) a b) (by omega)
def qhj {ds:List PyData}:Sp (.tuple ds) (.list ds):=by
 refine ⟨λ{L B n} a b t=>?_,by show wts ds<=2*wts ds+20;omega⟩;cases n with
 |zero=>exact t.elim
 |succ n=>
  obtain ⟨t1,t2⟩:=t;exact qn8 (by omega) λx hx=>ZC (by omega) (by omega) _ (t2 x hx) (by omega)
def qo8 {v:PyData} (hv:v∈[PyData.int 0,.int 1,.tuple [.int 0],.tuple [.int 0,.int 0],.none,.tuple [.tuple [.int 0],.int 0,.int 0,.tuple [.int 0]],.str "1"]):Odd v:=by
 have k0:∀ (L B n:Nat),4<=L->2<=B->Th (L+1) (B+1) n (.int 0):=λL B n _ _=>by rw [K7];omega
 have k1:∀ (L B n:Nat),4<=L->2<=B->Th (L+1) (B+1) (n+1) (.tuple [.int 0]):=λL B n a b=>qa7 (by simp) (λd hd=>by simp at hd;subst hd;exact k0 _ _ _ a b);simp only [mem_cons,not_mem_nil,or_false] at hv;rcases hv with rfl|rfl|rfl|rfl|rfl|rfl|rfl
 ·exact ⟨λa b=>k0 _ _ _ a b,by simp [wt]⟩
 ·exact ⟨λa b=>by rw [K7];omega,by simp [wt]⟩
 ·exact ⟨λa b=>k1 _ _ _ a b,by simp [wt,wts]⟩
 ·exact ⟨λa b=>qa7 (by simp;omega) (λd hd=>by simp at hd;subst hd;exact k0 _ _ _ a b),by simp [wt,wts]⟩
 ·exact ⟨λa b=>qmX _,by simp [wt]⟩
 ·exact ⟨λa b=>qa7 (by simp;omega) (λd hd=>by
   simp only [mem_cons,not_mem_nil,or_false] at hd;rcases hd with rfl|rfl|rfl|rfl
   ·exact k1 _ _ _ a b
   ·exact k0 _ _ _ a b
   ·exact k0 _ _ _ a b
   ·exact k1 _ _ _ a b),by simp [wt,wts]⟩
 ·exact ⟨λa b=>by rw [qla];exact ⟨Nat.le_trans (show (("1" : Str).cps.size)<=1 by decide) (by omega),by decide⟩,Nat.le_trans (show (("1" : Str).cps.size)<=1 by decide) (by omega)⟩
def ql1 {c:Nat} {ds:List PyData} {Q:QD} (hl:ds.length<=900) (hc:c<900000) (hQ:∀ r,Sp (.tuple ds) r->Q r (c+3)):qT.W [.tuple ds] c Q:=by
 rw [EB];refine ⟨rfl,?_⟩;unfold zX;refine jL λY1 h1=>?_
 try simp only [Pu.pwA]
 refine ⟨by omega,by omega,λw w0 w1=>?_⟩;have ca:∀ i j:Int,qgi (.int i) (.int j)=some (.int (i+j)):=λ_ _=>rfl
 try simp only [Pu.pwA,J9,CY,ca]
 refine ⟨by omega,by omega,λa a0 a1=>?_⟩
 try simp only [Pu.pwA]
 rw [h1];obtain ⟨k,rfl⟩:∃ k:Nat,a=(k:Int):=⟨a.toNat,by omega⟩
 have hk:k<=ds.length:=by omega
 refine jL λY2 h2=>?_
 try simp only [Pu.pwA]
 refine ⟨by omega,by omega,λo o0 o1=>?_⟩;obtain ⟨v,hv,ev⟩:=qcR (ds:=[PyData.int 0,.int 1,.tuple [.int 0],.tuple [.int 0,.int 0],.none,.tuple [.tuple [.int 0],.int 0,.int 0,.tuple [.int 0]],.str "1"]) (r:=o) o0 (by simpa using o1);have ov:=qo8 hv
 try simp only [Pu.pwA,ev]
 rw [YQ rfl,h2];have fin:∀ r,Sp (.tuple ds) r->∃ m,c+1+1+1<=m/\Q r m:=λr hr=>⟨_,Nat.le_refl _,hQ r hr⟩
 have s1:slA (.tuple ds) none (some (k:Int))=some (.tuple (ds.take k)):=by rw [LF,TZ]
 have s2:∀ j:Nat,slA (.tuple ds) (some (j:Int)) none=some (.tuple (ds.drop j)):=λj=>by rw [LF,KD]
 have m1:∀ x∈ds.take k,x∈ds:=λx hx=>List.mem_of_mem_take hx;have m2:∀ j,∀ x∈ds.drop j,x∈ds:=λj x hx=>List.mem_of_mem_drop hx;have w1':=TH ds k;have e1:(k:Int)+1=((k+1:Nat):Int):=by omega
 have e2:(k:Int)+2=((k+2:Nat):Int):=by omega
 refine jL λY3 h3=>?_;by_cases c0:w=0
 ·subst c0;have cc:=VF (xs:=ds.take k) (ys:=ds.drop (k+1)) (by rw [List.length_take,List.length_drop];omega)
  try simp only [Pu.pwA,C0,J9,ca,s1,s2,e1,cc,decide_true,set_cons_succ,set_cons_zero]
  refine fin _ (KC (λx hx=>?_) ?_ ?_)
  ·rcases List.mem_append.mp hx with h|h
   ·exact .inl (m1 x h)
   ·exact .inl (m2 _ x h)
  ·rw [length_append,List.length_take,List.length_drop];omega
  ·rw [jE];have:=XU ds k;have:=EG ds (k+1);omega
 try simp only [Pu.pwA,c0,decide_false]
 rw [h3];refine jL λY4 h4=>?_;have lm:=λy=>qh5 ds k y;by_cases c1:w=1
 ·subst c1;have l1:=lm (k+1);have sm:slA (.tuple ds) (some (k:Int)) (some ((k+1:Nat):Int))=some (.tuple (V3 ds (some (k:Int)) (some ((k+1:Nat):Int)))):=LF;have wm:=LZ ds (some (k:Int)) (some ((k+1:Nat):Int));have mm:∀ x∈V3 ds (some (k:Int)) (some ((k+1:Nat):Int)),x∈ds:=λx hx=>NO hx;generalize V3 ds (some (k:Int)) (some ((k+1:Nat):Int))=M at *;have cc:=VF (xs:=ds.take k) (ys:=M) (by rw [List.length_take];omega);have cd:=VF (xs:=ds.take k++M) (ys:=ds.drop k) (by rw [length_append,List.length_take,List.length_drop];omega)
  try simp only [Pu.pwA,C0,J9,ca,s1,s2,e1,sm,cc,cd,decide_true]
  refine fin _ (KC (λx hx=>?_) ?_ ?_)
  ·rcases List.mem_append.mp hx with h|h
   ·rcases List.mem_append.mp h with h|h
    ·exact .inl (m1 x h)
    ·exact .inl (mm x h)
   ·exact .inl (m2 _ x h)
  ·rw [length_append,length_append,List.length_take,List.length_drop];omega
  ·rw [jE,jE];omega
 try simp only [Pu.pwA,c1,decide_false]
 rw [h4];refine jL λY5 h5=>?_;by_cases c2:w<4
 ·have l1:=lm (k+2);have sm:slA (.tuple ds) (some (k:Int)) (some ((k+2:Nat):Int))=some (.tuple (V3 ds (some (k:Int)) (some ((k+2:Nat):Int)))):=LF;have wm:=LZ ds (some (k:Int)) (some ((k+2:Nat):Int));have mm:∀ x∈V3 ds (some (k:Int)) (some ((k+2:Nat):Int)),x∈ds:=λx hx=>NO hx;generalize V3 ds (some (k:Int)) (some ((k+2:Nat):Int))=M at *;have cc:=VF (xs:=ds.take k) (ys:=M.reverse) (by rw [List.length_take,List.length_reverse];omega);have cd:=VF (xs:=ds.take k++M.reverse) (ys:=ds.drop (k+2)) (by rw [length_append,List.length_take,List.length_drop,List.length_reverse];omega)
  try simp only [Pu.pwA,C0,qgO,qi4,J9,ca,s1,s2,e2,sm,cc,cd,c2,decide_true]
  refine fin _ (KC (λx hx=>?_) ?_ ?_)
  ·rcases List.mem_append.mp hx with h|h
   ·rcases List.mem_append.mp h with h|h
    ·exact .inl (m1 x h)
    ·exact .inl (mm x (List.mem_reverse.mp h))
   ·exact .inl (m2 _ x h)
  ·rw [length_append,length_append,List.length_take,List.length_drop,List.length_reverse];omega
  ·rw [jE,jE,qez];have:=EG (ds.drop k) 2;rw [List.drop_drop] at this;omega
 try simp only [Pu.pwA,c2,decide_false]
 rw [h5];refine jL λY6 h6=>?_;by_cases c4:w=4
 ·subst c4
  try simp only [Pu.pwA,decide_true]
  exact fin _ qhj
 try simp only [Pu.pwA,c4,decide_false]
 rw [h6];obtain ⟨j,hj,ej⟩:∃ j:Nat,(j=k\/j=k+1)/\(k:Int)+w-5=(j:Int):=⟨k+w.toNat-5,by omega,by omega⟩
 have cc:=VF (xs:=ds.take k) (ys:=[v]) (by rw [List.length_take];simp;omega);have cd:=VF (xs:=ds.take k++[v]) (ys:=ds.drop j) (by rw [length_append,List.length_take,List.length_drop];simp;omega)
 try simp only [Pu.pwA,C0,J9,ca,ej,s1,s2,cc,cd]
 refine fin _ (KC (λx hx=>?_) ?_ ?_)
 ·rcases List.mem_append.mp hx with h|h
  ·rcases List.mem_append.mp h with h|h
   ·exact .inl (m1 x h)
   ·simp only [mem_cons,not_mem_nil,or_false] at h;subst h;exact .inr ov
  ·exact .inl (m2 _ x h)
 ·rw [length_append,length_append,List.length_take,List.length_drop];simp;omega
 ·rw [jE,jE];have:=EG ds j;have:=XU ds k;have:=ov.2;show wts (ds.take k)+(wt v+1+0)+wts (ds.drop j)<=_;omega
def qlv {ds:List PyData} {k:Nat} {r:PyData} (hk:k<ds.length) (h:Sp ds[k] r):Sp (.tuple ds) (.tuple (ds.take k++[r]++ds.drop (k+1))):=by
 have hd:ds.drop k=ds[k]::ds.drop (k+1):=List.drop_eq_getElem_cons hk;have w1:=TH ds k;rw [hd] at w1;have w1':wts (ds.take k)+(wt ds[k]+1+wts (ds.drop (k+1)))=wts ds:=w1;refine ⟨λ{L B n} a b t=>?_,?_⟩
 ·cases n with
  |zero=>exact t.elim
  |succ n=>
   obtain ⟨t1,t2⟩:=t;refine qa7 (by simp;omega) λx hx=>?_;rcases List.mem_append.mp hx with h'|h'
   ·rcases List.mem_append.mp h' with h'|h'
    ·exact ZC (by omega) (by omega) _ (t2 x (List.mem_of_mem_take h')) (by omega)
    ·simp only [mem_cons,not_mem_nil,or_false] at h';subst h';exact h.1 a b (t2 _ (List.getElem_mem hk))
   ·exact ZC (by omega) (by omega) _ (t2 x (List.mem_of_mem_drop h')) (by omega)
 ·have:=h.2;show wts (ds.take k++[r]++ds.drop (k+1))<=2*wts ds+20;rw [jE,jE];show wts (ds.take k)+(wt r+1+0)+wts (ds.drop (k+1))<=_;omega
def qoD {L B:Nat} (hL:L<=800) (hB:B<=800000):∀ {j D n c:Nat} {d:PyData} {Q:QD},D<j->Th L B n d->n<=40->c+2*D<800000->(∀ r c',Sp d r->c'<=c+2*D+4->Q r c')->(qQ j).W [d,.int (D:Int)] c Q:=by
 intro j;induction j with
 |zero=>intro D n c d Q h;omega
 |succ j ih=>
  intro D n c d Q hD th hn hc hQ;rw [XZ];refine ⟨rfl,?_⟩;unfold QH;refine jL λY1 h1=>?_;have leaf:∀ ty,qZ ty "tuple" = false->tyD d=some ty->(∀ ds,d≠.tuple ds)->(wIf (l:=0) (cOf (R8 (bTb (S5 (λt=>qZ t "tuple") (bV 1))))) (CW (eDr (dSp qI false) (aOf (qf (bV 1) qs)))) UD).w [.un,.sh d,.sh (.int (D:Int)),.un] c (sqw Y1 (qbH false Q)):=λty z1 z2 z3=>by
   try simp only [Pu.pwA,z1,z2,Bool.not_false]
   exact qgJ th (by omega) (by omega) z3 λr hr=>⟨_,Nat.le_refl _,hQ r _ hr (by omega)⟩
  cases d with
  |int i=>exact leaf _ rfl rfl (λ_ z=>by cases z)
  |bool i=>exact leaf _ rfl rfl (λ_ z=>by cases z)
  |none=>exact leaf _ rfl rfl (λ_ z=>by cases z)
  |str i=>exact leaf _ rfl rfl (λ_ z=>by cases z)
  |list i=>exact leaf _ rfl rfl (λ_ z=>by cases z)
  |tuple ds=>
   cases n with
   |zero=>exact th.elim
   |succ n=>
    have dd:dpt (.tuple ds)<=40:=by have:=qdE th;omega
    have e0:=qmL (g:=false) dd;obtain ⟨hl,ha⟩:=th
    try simp only [Pu.pwA,qdX,Bool.not_true]
    rw [h1];refine jL λY2 h2=>?_;have row:∀ c1,c1<=c+1->qT.W [.tuple ds] c1 λd n1=>∃ m,n1<=m/\Q d m:=λc1 h=>ql1 (by omega) (by omega) λr hr=>⟨_,Nat.le_refl _,hQ r _ hr (by omega)⟩
    by_cases en:ds=[]
    ·subst en
     try simp only [Pu.pwA,e0,List.isEmpty_nil,if_false,Bool.false_eq_true]
     exact row c (by omega)
    have ne:ds.isEmpty=false:=by cases ds with|nil=>exact (en rfl).elim|cons=>rfl
    have l0:0<ds.length:=by cases ds with|nil=>exact (en rfl).elim|cons=>simp
    by_cases dz:(D:Int)=0
    ·try simp only [Pu.pwA,e0,ne,dz,decide_true,if_false,Bool.false_eq_true]
     rw [dz] at *;exact row c (by omega)
    try simp only [Pu.pwA,e0,ne,dz,decide_false,if_false,Bool.false_eq_true]
    refine ⟨by omega,by omega,λp p0 p1=>?_⟩;by_cases pz:p=0
    ·subst pz
     try simp only [Pu.pwA,decide_true]
     exact row _ (by omega)
    try simp only [Pu.pwA,pz,decide_false]
    rw [h2];refine jL λY3 h3=>?_
    try simp only [Pu.pwA]
    refine ⟨by omega,by omega,λa a0 a1=>?_⟩;rw [h3];obtain ⟨k,rfl⟩:∃ k:Nat,a=(k:Int):=⟨a.toNat,by omega⟩
    have hk:k<ds.length:=by omega
    have ek:=atN hk;rw [getElem?_eq_getElem hk] at ek;have s1:slA (.tuple ds) none (some (k:Int))=some (.tuple (ds.take k)):=by rw [LF,TZ]
    have s2:slA (.tuple ds) (some ((k:Int)+1)) none=some (.tuple (ds.drop (k+1))):=by
     rw [show (k:Int)+1=((k+1:Nat):Int) by omega,LF,KD]
    have ca:∀ i j:Int,qgi (.int i) (.int j)=some (.int (i+j)):=λ_ _=>rfl
    try simp only [Pu.pwA,C0,J9,CY,ca,s1,s2,ek]
    rw [show (D:Int)-1=((D-1:Nat):Int) by omega];refine ih (by omega) (ha _ (List.getElem_mem hk)) (by omega) (by omega) λr c' hr hc'=>⟨_,VF (by rw [List.length_take];simp;omega),_,VF (by simp;omega),_,Nat.le_refl _,hQ _ _ (qlv hk hr) (by omega)⟩
  |_=>cases n<;>exact th.elim
def qnz {P:PyData->Prop} {m:Nat} {n:Nt} (h:n.Ok m) {xs:List PyData} (hx:xs.length=2 ^ (m+1)) (ht:∀ x∈xs,P x):∀ x∈LED n xs,P x:=λx hx'=>by
 obtain ⟨l,hl⟩:=List.getElem?_of_mem hx';have ll:=JO h hx;have lt:l<2 ^ (m+1):=by rw [← ll];exact (List.getElem?_eq_some_iff.mp hl).1
 have lm:=Nt.lane_lt (Nt.mir_ok h) lt;have back:n.lane (n.mir.lane l)=l:=by
  have:=Nt.lane_mir (Nt.mir_ok h) lt;rw [Nt.mir_mir] at this;exact this
 have:=WJ h hx lm;rw [back,hl] at this;exact ht x (mem_of_getElem? this.symm)
def qdf {i j:Nat} {m:List Bool} {t:Str} {b:Bool} {ρ:Rho}:NX i j m [.str t,.bool b] ρ=some (.nx ((ρ.set i (.sh (.str t))).set j (.sh (.bool b)))):=id rfl
def qfa {L B n m:Nat} {d:PyData} (h:Th L B n d) (hL:L<=1000) (hB:B<=1000000) (hn:n<=40) (hw:wt d<=2 ^ 20) (hm:m<=3):qF [d,.int ((2 ^ (m+1):Nat):Int)]=some (.bool true):=by
 obtain ⟨t,sh⟩:=qfn h hB hn hw;have i1:=qeo hL (m:=m) (j:=5) h (by omega);have i2:=MA hL (m:=m) (j:=5) h (by omega);have en:eqD true (.str t) (.str t)=some (.bool false):=by simp [eqD,S9]
 have eb:∀ b,eqD true (.bool b) (.bool b)=some (.bool false):=λb=>by simp [eqD,S9]
 rw [CG]
 try simp only [Pu.pwA,ZF,qe8,sh,i1,i2,en,eb,show qZ "bool" "bool" = true from rfl,Bool.not_true]
 cases hN:isN m d with
 |false=>
  rw [hN] at i2
  try simp only [Pu.pwA,qdf,sh,i2,en,eb,show qZ "bool" "bool" = true from rfl,Bool.not_true,set_cons_succ,set_cons_zero]
 |true=>
  obtain ⟨w,ok,rfl⟩:=SU hN;rw [hN] at i2;have hb:2 ^ (m+1)<=16:=UG hm;obtain ⟨xs,hxs⟩:∃ xs,xs=(YH 0 (2 ^ (m+1))).map λk=>PyData.int (3*k):=⟨_,rfl⟩
  have lx:xs.length=2 ^ (m+1):=by rw [hxs,length_map,qp]
  have lA:=JO ok lx;have f1:=U1 (j:=4) ok (by omega) hm lx;have f3:zH [nD w,.list (LED w xs)]=some (.list xs):=by rw [qpa ok hm lA,qlW ok lx]
  have ag:=qfp (n:=w) (xs:=xs) lA;have da:∀ l:Nat,l<2 ^ (m+1)->∃ j:Nat,qdv (.list ((AT w (2 ^ (m+1))).map PyData.int)) [.int (l:Int)]=some (.int (j:Int))/\j<xs.length/\xs[j]?=(LED w xs)[l]?:=λl hl=>qiq ok hm lx hl;have fl:∀ k:Nat,k<2 ^ (m+1)->qR 4 [nD w,.int (k:Int)]=some (.int ((w.lane k:Nat):Int)):=λk hk=>MQ ok (by omega) hk;have dx:Bk.VG 3 (.list xs):=⟨by omega,λx hx=>by
   rw [hxs] at hx;obtain ⟨k,_,rfl⟩:=mem_map.mp hx
   trivial⟩
  have dA:Bk.VG 3 (.list (LED w xs)):=⟨by omega,qnz ok lx dx.2⟩
  have sx:=qat dx;have sA:=qat dA;generalize LED w xs=LA at *;generalize 2 ^ (m+1)=N at *;have atd:AT w N=(YH 0 N).map λk=>((w.lane k.toNat:Nat):Int):=rfl;have q0:lcF (λρ=>((vw ρ 1).bind λx=>some [x]).bind qaJ) (lcH (λd=>some [(0,d)]) (λx=>some true) λρ=>(vw ρ 0).bind λy=>cI EC (λx1 x2=>x1*x2) (PyData.int 3) y) [none] [.sh (nD w),.sh (.int (N:Int)),.sh (.str t),.sh (.bool true),.un,.un]=some (.list xs):=by
   rw [hxs];refine JN (ds:=(YH 0 N).map PyData.int) ?_ (Q9 λz hz=>?_) (by rw [length_map,qp];omega)
   ·try simp (disch:=omega) only [Pu.pwA,qba,Int.toNat_natCast]
   ·have:=VQ hz;have e:cI EC (λx1 x2=>x1*x2) (PyData.int 3) (.int z)=some (.int (3*z)):=R7 (by omega)
    try simp only [Pu.pwA,VL,e]
  have q1:lcF (λρ=>((vw ρ 1).bind λx=>some [x]).bind qaJ) (lcH (λd=>some [(0,d)]) (λx=>some true) λρ=>((vw ρ 1).bind λx=>((vw ρ 0).bind λx=>some [x]).bind λxs=>some (x::xs)).bind (qR 4)) [none,some 0] [.sh (nD w),.sh (.int (N:Int)),.sh (.str t),.sh (.bool true),.ow xs,.un]=some (.list ((AT w N).map PyData.int)):=by
   rw [atd,map_map];refine JN (ds:=(YH 0 N).map PyData.int) ?_ (Q9 λz hz=>?_) (by rw [length_map,qp];omega)
   ·try simp (disch:=omega) only [Pu.pwA,qba,Int.toNat_natCast]
   ·have:=VQ hz;have e:=fl z.toNat (by omega);rw [Int.toNat_of_nonneg this.1] at e
    try simp only [Pu.pwA,VL,e,Function.comp_def]
  have q2:lcF (λρ=>((vw ρ 1).bind λx=>some [x]).bind qaJ) (lcH (λd=>some [(0,d)]) (λx=>some true) λρ=>(vw ρ 1).bind λx=>((vw ρ 2).bind λd=>((vw ρ 0).bind λx=>some [x]).bind λes=>qdv d es).bind λy=>ixD x y) [none,some 4,some 5] [.sh (nD w),.sh (.int (N:Int)),.sh (.str t),.sh (.bool true),.ow xs,.ow ((AT w N).map PyData.int)]=some (.list LA):=by
   rw [← ag];refine JN (ds:=(YH 0 N).map PyData.int) ?_ (Q9 λz hz=>?_) (by rw [length_map,qp];omega)
   ·try simp (disch:=omega) only [Pu.pwA,qba,Int.toNat_natCast]
   ·have:=VQ hz;obtain ⟨j,e1,e2,e3⟩:=da z.toNat (by omega);rw [Int.toNat_of_nonneg this.1] at e1;have e4:L2.atI xs (j:Int)=some (LA.getD z.toNat .none):=by
     rw [atN e2,e3,getD_eq_getElem?_getD,getElem?_eq_getElem (by omega)];rfl
    try simp only [Pu.pwA,VL,e1,e4]
  try simp only [Pu.pwA,qdf,sh,i2,en,eb,show qZ "bool" "bool" = true from rfl,Bool.not_true,set_cons_succ,set_cons_zero,q0,q1,q2,f1,f3,sx,sA]
def qcI {u:Nat} (h:u<4):L2.atI [PyData.int 2,.int 4,.int 8,.int 16] (u:Int)=some (.int ((2 ^ (u+1):Nat):Int)):=by
 match u,h with
 |0,_=>rfl
 |1,_=>rfl
 |2,_=>rfl
 |3,_=>rfl
def qnd {m:Nat} (h:m<=3):cn m<=56:=by
 match m,h with
 |0,_=>decide
 |1,_=>decide
 |2,_=>decide
 |3,_=>decide
def Gd (t:Nat) (d:PyData):Prop:=Th (8+t) (2+t) (4+3*t) d/\wt d<=100*4 ^ t
def qhs {m:Nat} {w:Nt} (h:w.Ok m) (hm:m<=3):Gd 0 (nD w):=by
 obtain ⟨a,b⟩:=N6 h hm;refine ⟨ZC (by omega) (by omega) _ a (by omega),?_⟩;have:bn m<=100:=by
  have:m=0\/m=1\/m=2\/m=3:=by omega
  rcases this with rfl|rfl|rfl|rfl<;>decide
 omega
def qnN {t:Nat} {d r:PyData} (h:Gd t d) (s:Sp d r):Gd (t+1) r:=by
 refine ⟨ZC (by omega) (by omega) _ (s.1 (by omega) (by omega) h.1) (by omega),?_⟩;have:=s.2;have:=h.2;have e:4 ^ (t+1)=4*4 ^ t:=by rw [Nat.pow_succ];omega
 have:1<=4 ^ t:=Nat.one_le_pow _ _ (by omega);omega
def XA {t m:Nat} {d:PyData} (h:Gd t d) (ht:t<=3) (hm:m<=3):qF [d,.int ((2 ^ (m+1):Nat):Int)]=some (.bool true):=by
 have:t=0\/t=1\/t=2\/t=3:=by omega
 have hw:=h.2;rcases this with rfl|rfl|rfl|rfl<;>exact qfa h.1 (by omega) (by omega) (by omega) (Nat.le_trans hw (by decide)) hm
def qio:∀ k:Nat,k<=60->qcn.w [.un,.sh (.int k),.un,.un,.un,.un,.un,.un] 0 okW:=by
 intro k hk;unfold qcn;refine jL λY1 h1=>?_
 try simp only [Pu.pwA]
 refine ⟨by omega,by omega,λu u0 u1=>?_⟩;obtain ⟨m,rfl⟩:∃ m:Nat,u=(m:Int):=⟨u.toNat,by omega⟩
 have hm:m<=3:=by omega
 have la:=qcI (u:=m) (by omega);have hb:=UG hm;have hb1:1<=2 ^ (m+1):=Nat.one_le_two_pow
 try simp only [Pu.pwA,la]
 rw [h1];refine jL λY2 h2=>?_
 try simp only [Pu.pwA]
 refine qoN ⟨hb1,hb⟩ (by omega) λLo c1 hp hc1=>?_;obtain ⟨w,e1,e2,_⟩:=qoF hm hp
 try simp only [Pu.pwA,e1]
 rw [YQ rfl,h2];refine jL λY3 h3=>?_;have cn1:=qnd hm;have fin:∀ (w:Nt) (c2:Nat),w.Ok m->c2<=200->Y3 [.un,.sh (.int k),.un,.sh (.int ((2 ^ (m+1):Nat):Int)),.sh (nD w),.un,.un,.un] c2 okW:=by
  intro w c2 ok hc2;rw [h3];have g0:=qhs ok hm;refine jL λY4 h4=>?_
  try simp only [Pu.pwA,XA g0 (by omega) hm,Bool.not_true]
  rw [h4]
  try simp (disch:=omega) only [Pu.pwA,qba]
  refine XV (YH 0 (10:Int).toNat) XC.mn (λi ρ n=>n<=200+100*i/\∃ s5 s6 s7,ρ=[.un,.sh (.int k),.un,.sh (.int ((2 ^ (m+1):Nat):Int)),.sh (nD w),s5,s6,s7]) ⟨by omega,_,_,_,rfl⟩ ?_ ?_
  ·rintro i x ρ n hx ⟨hn,s5,s6,s7,rfl⟩;have hi:i<10:=(qN hx).1;refine ⟨_,rfl,?_⟩;unfold XC;refine jL λZ1 g1=>?_
   try simp only [Pu.pwA]
   rw [YQ rfl,g1];refine jL λZ2 g2=>?_
   try simp only [Pu.pwA]
   refine ⟨by omega,by omega,λp p0 p1=>?_⟩;refine ⟨_,qba (by omega),?_⟩;have l3:(YH 0 (1+p).toNat).length<=3:=by rw [qp];omega
   refine XV (YH 0 (1+p).toNat) XG.mn (λt ρ n'=>n'<=n+1+20*t/\∃ d s7,Gd t d/\ρ=[.un,.sh (.int k),.un,.sh (.int ((2 ^ (m+1):Nat):Int)),.sh (nD w),.sh (.int x),.sh d,s7]) ⟨by omega,_,_,g0,rfl⟩ ?_ ?_
   ·rintro t y ρ n' hy ⟨hn',d,s7,gd,rfl⟩;have ht:t<3:=by
     have:=(List.getElem?_eq_some_iff.mp hy).1;omega
    refine ⟨_,rfl,?_⟩;unfold XG
    try simp only [Pu.pwA]
    refine qoD (D:=8) (n:=4+3*t) (L:=8+t) (B:=2+t) (by omega) (by omega) (by omega) gd.1 (by omega) (by omega) λr c' hr hc'=>?_;rw [YQ rfl];exact ⟨by omega,r,_,qnN gd hr,rfl⟩
   ·rintro ρ n' ⟨hn',d,s7,gd,rfl⟩;generalize (YH 0 (1+p).toNat).length=t at *;rw [KR,g2]
    try simp only [Pu.pwA,XA gd l3 hm,Bool.not_true]
    refine ⟨by omega,by omega,λv v0 v1=>?_⟩;obtain ⟨m2,rfl⟩:∃ m2:Nat,v=(m2:Int):=⟨v.toNat,by omega⟩
    try simp only [Pu.pwA,qcI (u:=m2) (by omega),XA gd l3 (show m2<=3 by omega),Bool.not_true]
    exact ⟨by omega,_,_,_,rfl⟩
  ·rintro ρ n ⟨hn,s5,s6,s7,rfl⟩
   try simp only [Pu.pwA]
 try simp only [Pu.pwA]
 refine ⟨by omega,by omega,λp p0 p1=>?_⟩;by_cases pz:p=0
 ·subst pz
  try simp only [Pu.pwA,decide_true]
  refine qgE (by omega) hm (by omega) λw2 ok2=>?_;rw [YQ rfl];exact fin w2 _ ok2 (by omega)
 ·try simp only [Pu.pwA,pz,decide_false]
  exact fin w _ e2 (by omega)
end K60
namespace K60
open PySem L2 L3 Bk
abbrev qho : Env := { scope := PySem.Challenge.pw_bankwalk_k60_whole_nets_spoilt_anywhere.main.scope,locals := mainNs,globals := mainNs,cells := [],code := .ref 13,frame := some 14 }
abbrev M7 : List Stmt := PySem.W.behindTheImports PySem.Challenge.pw_bankwalk_k60_whole_nets_spoilt_anywhere
abbrev X4:Code:=.body M7 qho
abbrev qik:List Frame:=[PySem.W.topFrame ⟨0,0,0,0⟩]
def zR:Obj:=Hd.oT []
def Z3:Obj:=⟨.none,none,.fields #[],#[]⟩
def qld:Obj:=Hd.oC [.str "<module>" 182,.str "<module>" 183,.str "/claim/cut.py" 184,.int (1) 0,.int (0) 0,.int (0) 0,.int (0) 0,.int (0) 0,.ref 11,.bool false,.int (181) 0,.ref 12,.none,.none,.none,.none,.int (185) 0,.int (1) 0,.str "/claim/cut.py" 186]
def qlm:Obj:=⟨.type "frame",none,.plain,#[some (.ref 13),some (.ref 3),some (.ref 3),none,some (.str "__main__" 164),none,some (.ref 0)]⟩
def qhR (P:Params):Heap:=⟨Array.mk [PySem.W.boot_o_0 P,PySem.W.boot_o_1 P,PySem.W.boot_o_2 P,PySem.W.boot_o_3 P,PySem.W.boot_o_4 P,PySem.W.boot_o_5 P,PySem.W.boot_o_6 P,PySem.W.boot_o_7 P,PySem.W.boot_o_8 P,PySem.W.boot_o_9 P,PySem.W.boot_o_10 P,zR,Z3,qld,qlm],{ }⟩
def qjA (P:Params):PySem.W.BT:=(Hd.nd (PySem.W.boot_o_0 P) (Hd.nd (PySem.W.boot_o_1 P) (Hd.nd (PySem.W.boot_o_3 P) (Hd.lf (PySem.W.boot_o_7 P)) (Hd.lf zR)) (Hd.nd (PySem.W.boot_o_5 P) (Hd.lf (PySem.W.boot_o_9 P)) (Hd.lf qld))) (Hd.nd (PySem.W.boot_o_2 P) (Hd.nd (PySem.W.boot_o_4 P) (Hd.lf (PySem.W.boot_o_8 P)) (Hd.lf Z3)) (Hd.nd (PySem.W.boot_o_6 P) (Hd.lf (PySem.W.boot_o_10 P)) (Hd.lf qlm))))
set_option maxRecDepth 100000 in
set_option maxHeartbeats 0 in
def qiR (w : World) (os : OsState) : PySem.W.topGo treeTable PySem.Challenge.pw_bankwalk_k60_whole_nets_spoilt_anywhere w 11 (some (Value.ref 6)) 12 ⟨PySem.W.boot_heap w.params,Array.mk [],PySem.W.boot_drawn,PySem.W.boot_toks,os⟩ (PySem.W.topStub PySem.Challenge.pw_bankwalk_k60_whole_nets_spoilt_anywhere) = some (⟨qhR w.params,#[],{ },187,os⟩,⟨denote treeTable X4,X4,⟨0,0,0,0⟩,qik⟩) := by kernel_rfl
set_option maxRecDepth 100000 in
set_option maxHeartbeats 0 in
def qj3 (w : World) (os : OsState) : PySem.W.segRun treeTable PySem.Challenge.pw_bankwalk_k60_whole_nets_spoilt_anywhere w 11 (some (Value.ref 6)) 1 1 ⟨qhR w.params,#[],{ },187,os⟩ (PySem.W.blockOf M7 qho X4 ⟨0,0,0,0⟩ qik) = some (.next,(⟨qjA w.params,15,{ },#[],{ },187,os⟩ : PySem.W.SharedT).abs,X4,⟨0,0,0,0⟩) := by kernel_rfl
def qoK (P:Params):Obj:=Hd.oD P 17 [(.str "__name__" 165,.str "bankwalk.nets" 240),(.str "__doc__" 166,.none),(.str "__package__" 167,.none),(.str "__loader__" 168,.builtin "__main__.__loader__#opaque"),(.str "__spec__" 169,.none),(.str "__annotations__" 170,.ref 6),(.str "__builtins__" 171,.ref 4),(.str "__file__" 173,.str "/claim/cut.py" 172),(.str "__cached__" 174,.none),(.str "is_number" 195,.ref 21),(.str "is_number_below" 203,.ref 28),(.str "BankError" 223,.ref 38),(.str "NoOrder" 239,.ref 51),(.str "are_switches" 247,.ref 58),(.str "is_net" 260,.ref 65),(.str "switched" 273,.ref 72),(.str "led" 279,.ref 77)]
def qoI:Obj:=⟨.none,none,.fields #[.int (2) 0,.int (0) 0,.ref 20,.int (4) 0,.int (0) 0,.ref 27,.int (7) 0,.int (0) 0,.ref 34,.int (9) 0,.int (0) 0,.ref 47,.int (12) 0,.int (0) 0,.ref 57,.int (14) 0,.int (0) 0,.ref 64,.int (24) 0,.int (0) 0,.ref 71,.int (33) 0,.int (0) 0,.ref 76],#[]⟩
def qn2:Obj:=Hd.oN Q0 192
def qoc:Obj:=Hd.oG "is_number" jz
def qnu:Obj:=Hd.oK "is_number" 189 2 1 181 15 16 .none (.ref 17) (.ref 18) 19 193 194
def qfP:Obj:=Hd.oF "is_number" jz (.str "bankwalk.basics" 187) (.ref 20)
def qkE:Obj:=Hd.oN zh 199
def qja:Obj:=Hd.oG "is_number_below" zb
def qes:Obj:=Hd.oK "is_number_below" 196 4 2 181 22 23 .none (.ref 24) (.ref 25) 26 201 202
def qfL:Obj:=Hd.oF "is_number_below" zb (.str "bankwalk.basics" 187) (.ref 27)
def qhw:Obj:=Hd.oT [.type "ValueError"]
def qbd:Obj:=⟨.type "builtin_function_or_method",none,.fields #[.builtin "type.__prepare__",.type "type"],#[]⟩
def qjc (P:Params):Obj:=Hd.oD P 4 [(.str "__module__" 213,.str "bankwalk.errors" 204),(.str "__qualname__" 215,.str "BankError" 214),(.str "__firstlineno__" 217,.int (7) 216),(.str "__static_attributes__" 218,.ref 36)]
def qhH:Obj:=Hd.oC [.str "BankError" 208,.str "BankError" 209,.str "/claim/cut.py" 210,.int (7) 0,.int (0) 0,.int (0) 0,.int (0) 0,.int (0) 0,.ref 32,.bool false,.int (181) 0,.ref 33,.none,.none,.none,.none,.int (211) 0,.int (7) 0,.str "/claim/cut.py" 212]
def qjq:Obj:=⟨.type "frame",none,.plain,#[some (.ref 34),some (.ref 3),some (.ref 31),none,some (.str "bankwalk.errors" 204),none,some (.ref 0)]⟩
def qjX (P:Params):Obj:=Hd.oD P 3 [(.str "__module__" 213,.str "bankwalk.errors" 204),(.str "__firstlineno__" 217,.int (7) 216),(.str "__static_attributes__" 218,.ref 36),(.str "__weakref__" 220,.ref 39),(.str "__doc__" 221,.none)]
def qg1:Obj:=⟨.type "type",none,.cls ({ name:=Str.ofString "BankError",bases:=[Value.type "ValueError"],  mro:=    [Value.ref 38,Value.type "ValueError",Value.type "Exception",Value.type "BaseException",Value.type "object"],  ns:=37,qualname:=Str.ofString "BankError",subclasses:=[Value.ref 51] }),#[some (.ref 29),none,some (.str "BankError" 206),some (.str "BankError" 214),some (.builtin "ValueError.__new__"),some (.bool true)]⟩
def qku:Obj:=⟨.type "getset_descriptor",none,.fields #[.str "__weakref__" 219,.ref 38,.builtin "ExceptionGroup.__weakref__",.none],#[]⟩
def qkw:Obj:=⟨.type "super",none,.fields #[.ref 38,.ref 38,.ref 38],#[]⟩
def qhD:Obj:=⟨.type "builtin_function_or_method",none,.fields #[.builtin "object.__init_subclass__",.ref 38],#[]⟩
def qkT:Obj:=Hd.oT [.ref 38]
def qib (P:Params):Obj:=Hd.oD P 4 [(.str "__module__" 231,.str "bankwalk.errors" 204),(.str "__qualname__" 233,.str "NoOrder" 232),(.str "__firstlineno__" 235,.int (9) 234),(.str "__static_attributes__" 236,.ref 49)]
def qj8:Obj:=Hd.oC [.str "NoOrder" 226,.str "NoOrder" 227,.str "/claim/cut.py" 228,.int (9) 0,.int (0) 0,.int (0) 0,.int (0) 0,.int (0) 0,.ref 45,.bool false,.int (181) 0,.ref 46,.none,.none,.none,.none,.int (229) 0,.int (9) 0,.str "/claim/cut.py" 230]
def qkF:Obj:=⟨.type "frame",none,.plain,#[some (.ref 47),some (.ref 3),some (.ref 44),none,some (.str "bankwalk.errors" 204),none,some (.ref 0)]⟩
def qjg (P:Params):Obj:=Hd.oD P 2 [(.str "__module__" 231,.str "bankwalk.errors" 204),(.str "__firstlineno__" 235,.int (9) 234),(.str "__static_attributes__" 236,.ref 49),(.str "__doc__" 237,.none)]
def qjf:Obj:=⟨.type "type",none,.cls ({ name:=Str.ofString "NoOrder",bases:=[Value.ref 38],  mro:=    [Value.ref 51,Value.ref 38,Value.type "ValueError",Value.type "Exception",Value.type "BaseException",      Value.type "object"],  ns:=50,qualname:=Str.ofString "NoOrder" }),#[some (.ref 42),none,some (.str "NoOrder" 224),some (.str "NoOrder" 232),some (.builtin "ValueError.__new__"),some (.bool true)]⟩
def qhB:Obj:=⟨.type "super",none,.fields #[.ref 51,.ref 51,.ref 51],#[]⟩
def qgY:Obj:=⟨.type "builtin_function_or_method",none,.fields #[.builtin "object.__init_subclass__",.ref 51],#[]⟩
def qiU:Obj:=Hd.oG "are_switches" zG
def qfZ:Obj:=Hd.oK "are_switches" 242 12 2 181 54 55 .none .none .none 56 245 246
def qfy:Obj:=Hd.oF "are_switches" zG (.str "bankwalk.nets" 240) (.ref 57)
def qj9:Obj:=Hd.oN YX 251
def qgH:Obj:=Hd.oG "is_net" JF
def qev:Obj:=Hd.oK "is_net" 248 14 2 181 59 60 .none (.ref 61) (.ref 62) 63 258 259
def qeL:Obj:=Hd.oF "is_net" JF (.str "bankwalk.nets" 240) (.ref 64)
def qkm:Obj:=Hd.oN Q6 264
def qiO:Obj:=Hd.oG "switched" jV
def qfs:Obj:=Hd.oK "switched" 261 24 2 181 66 67 .none (.ref 68) (.ref 69) 70 271 272
def qeF:Obj:=Hd.oF "switched" jV (.str "bankwalk.nets" 240) (.ref 71)
def qg6:Obj:=Hd.oG "led" CQ
def qfk:Obj:=Hd.oK "led" 274 33 2 181 73 74 .none .none .none 75 277 278
def qeB:Obj:=Hd.oF "led" CQ (.str "bankwalk.nets" 240) (.ref 76)
def qig (P:Params):PySem.W.BT:=(Hd.nd (PySem.W.boot_o_0 P) (Hd.nd (PySem.W.boot_o_1 P) (Hd.nd (qoK P) (Hd.nd (PySem.W.boot_o_7 P) (Hd.nd zR (Hd.nd (qjc P) (Hd.lf qgH) .nil) (Hd.lf qj8)) (Hd.nd Z3 (Hd.nd qku (Hd.lf qfs) .nil) (Hd.lf Z3))) (Hd.nd zR (Hd.nd qoc (Hd.nd qjq (Hd.lf Z3) .nil) (Hd.lf qjf)) (Hd.nd qes (Hd.nd qbd (Hd.lf qg6) .nil) (Hd.lf zR)))) (Hd.nd (PySem.W.boot_o_5 P) (Hd.nd (PySem.W.boot_o_9 P) (Hd.nd qn2 (Hd.nd Z3 (Hd.lf qeL) .nil) (Hd.lf zR)) (Hd.nd zR (Hd.nd qhD (Hd.lf zR) .nil) (Hd.lf qfZ))) (Hd.nd qld (Hd.nd qfP (Hd.nd (qjX P) (Hd.lf zR) .nil) (Hd.lf qgY)) (Hd.nd qhw (Hd.nd zR (Hd.lf qeB) .nil) (Hd.lf qj9))))) (Hd.nd (PySem.W.boot_o_2 P) (Hd.nd (PySem.W.boot_o_4 P) (Hd.nd (PySem.W.boot_o_8 P) (Hd.nd Z3 (Hd.nd zR (Hd.lf qev) .nil) (Hd.lf qkF)) (Hd.nd qkE (Hd.nd qkw (Hd.lf qeF) .nil) (Hd.lf qiU))) (Hd.nd qoI (Hd.nd qnu (Hd.nd zR (Hd.lf qkm) .nil) (Hd.lf qhB)) (Hd.nd qfL (Hd.nd (qib P) (Hd.lf qfk) .nil) (Hd.lf Z3)))) (Hd.nd (PySem.W.boot_o_6 P) (Hd.nd (PySem.W.boot_o_10 P) (Hd.nd zR (Hd.nd qhH (Hd.lf zR) .nil) (Hd.lf (qjg P))) (Hd.nd qja (Hd.nd qkT (Hd.lf Z3) .nil) (Hd.lf qfy))) (Hd.nd qlm (Hd.nd zR (Hd.nd qg1 (Hd.lf qiO) .nil) (Hd.lf zR)) (Hd.nd qbd (Hd.lf Z3) (Hd.lf zR))))))
abbrev qef:List Stmt:=(M7.drop 0).take 11
set_option maxRecDepth 100000 in
set_option maxHeartbeats 0 in
def qkK (w : World) (os : OsState) : PySem.W.segRunT treeTable PySem.Challenge.pw_bankwalk_k60_whole_nets_spoilt_anywhere w 11 (some (Value.ref 6)) 1 608 (⟨qjA w.params,15,{ },#[],{ },187,os⟩ : PySem.W.SharedT) (PySem.W.piecesOf qef qho X4 ⟨0,0,0,0⟩ qik) = some (.next,(⟨qig w.params,78,{ },#[],{ },280,os⟩ : PySem.W.SharedT),X4,⟨33,0,39,82⟩) := by kernel_rfl
def qjj (P:Params):Obj:=Hd.oD P 36 [(.str "__name__" 165,.str "law_bankwalk_k60_whole_nets_spoilt_anywhere" 325),(.str "__doc__" 166,.none),(.str "__package__" 167,.none),(.str "__loader__" 168,.builtin "__main__.__loader__#opaque"),(.str "__spec__" 169,.none),(.str "__annotations__" 170,.ref 6),(.str "__builtins__" 171,.ref 4),(.str "__file__" 173,.str "/claim/cut.py" 172),(.str "__cached__" 174,.none),(.str "is_number" 195,.ref 21),(.str "is_number_below" 203,.ref 28),(.str "BankError" 223,.ref 38),(.str "NoOrder" 239,.ref 51),(.str "are_switches" 247,.ref 58),(.str "is_net" 260,.ref 65),(.str "switched" 273,.ref 72),(.str "led" 279,.ref 77),(.str "mirrored" 291,.ref 84),(.str "led_back" 299,.ref 91),(.str "halves_of" 305,.ref 96),(.str "net_by" 311,.ref 101),(.str "is_order" 317,.ref 106),(.str "net_for" 324,.ref 113),(.str "_law_mix" 335,.ref 120),(.str "_law_left" 345,.ref 127),(.str "_law_pick" 354,.ref 134),(.str "_law_same" 360,.ref 139),(.str "_law_net" 366,.ref 144),(.str "_law_lane" 376,.ref 151),(.str "_law_is_net" 382,.ref 156),(.str "_law_order" 393,.ref 163),(.str "_law_other_leaf" 403,.ref 170),(.str "_law_other_row" 414,.ref 177),(.str "_law_spoilt" 424,.ref 184),(.str "_law_right" 430,.ref 189),(.str "law" 444,.ref 196)]
def qm6:Obj:=⟨.none,none,.fields #[.int (2) 0,.int (0) 0,.ref 20,.int (4) 0,.int (0) 0,.ref 27,.int (7) 0,.int (0) 0,.ref 34,.int (9) 0,.int (0) 0,.ref 47,.int (12) 0,.int (0) 0,.ref 57,.int (14) 0,.int (0) 0,.ref 64,.int (24) 0,.int (0) 0,.ref 71,.int (33) 0,.int (0) 0,.ref 76,.int (40) 0,.int (0) 0,.ref 83,.int (45) 0,.int (0) 0,.ref 90,.int (47) 0,.int (0) 0,.ref 95,.int (57) 0,.int (0) 0,.ref 100,.int (66) 0,.int (0) 0,.ref 105,.int (70) 0,.int (0) 0,.ref 112,.int (75) 0,.int (0) 0,.ref 119,.int (78) 0,.int (0) 0,.ref 126,.int (82) 0,.int (0) 0,.ref 133,.int (89) 0,.int (0) 0,.ref 138,.int (97) 0,.int (0) 0,.ref 143,.int (104) 0,.int (0) 0,.ref 150,.int (110) 0,.int (0) 0,.ref 155,.int (121) 0,.int (0) 0,.ref 162,.int (126) 0,.int (0) 0,.ref 169,.int (132) 0,.int (0) 0,.ref 176,.int (144) 0,.int (0) 0,.ref 183,.int (151) 0,.int (0) 0,.ref 188,.int (162) 0,.int (0) 0,.ref 195],#[]⟩
def qmc:Obj:=Hd.oN QU 283
def qmZ:Obj:=Hd.oG "mirrored" j1
def qkX:Obj:=Hd.oK "mirrored" 280 40 2 181 78 79 .none (.ref 80) (.ref 81) 82 289 290
def qil:Obj:=Hd.oF "mirrored" j1 (.str "bankwalk.nets" 240) (.ref 83)
def qmO:Obj:=Hd.oN QY 295
def qnK:Obj:=Hd.oG "led_back" j2
def qia:Obj:=Hd.oK "led_back" 292 45 2 181 85 86 .none (.ref 87) (.ref 88) 89 297 298
def qhu:Obj:=Hd.oF "led_back" j2 (.str "bankwalk.nets" 240) (.ref 90)
def qmq:Obj:=Hd.oG "halves_of" jC
def qii:Obj:=Hd.oK "halves_of" 300 47 1 181 92 93 .none .none .none 94 303 304
def qij:Obj:=Hd.oF "halves_of" jC (.str "bankwalk.nets" 240) (.ref 95)
def qnJ:Obj:=Hd.oG "net_by" Z8
def qjM:Obj:=Hd.oK "net_by" 306 57 1 181 97 98 .none .none .none 99 309 310
def qg5:Obj:=Hd.oF "net_by" Z8 (.str "bankwalk.nets" 240) (.ref 100)
def qlM:Obj:=Hd.oG "is_order" jX
def qkv:Obj:=Hd.oK "is_order" 312 66 1 181 102 103 .none .none .none 104 315 316
def qkx:Obj:=Hd.oF "is_order" jX (.str "bankwalk.nets" 240) (.ref 105)
def qmB:Obj:=Hd.oN JK 321
def qmm:Obj:=Hd.oG "net_for" QV
def qhZ:Obj:=Hd.oK "net_for" 318 70 1 181 107 108 .none (.ref 109) (.ref 110) 111 322 323
def qgr:Obj:=Hd.oF "net_for" QV (.str "bankwalk.nets" 240) (.ref 112)
def qml:Obj:=Hd.oN E8 330
def qmM:Obj:=Hd.oG "_law_mix" Q5
def qhA:Obj:=Hd.oK "_law_mix" 327 75 2 181 114 115 .none (.ref 116) (.ref 117) 118 333 334
def qjx:Obj:=Hd.oF "_law_mix" Q5 (.str "law_bankwalk_k60_whole_nets_spoilt_anywhere" 325) (.ref 119)
def qlE:Obj:=Hd.oN V8 339
def qmU:Obj:=Hd.oG "_law_left" jT
def qiJ:Obj:=Hd.oK "_law_left" 336 78 2 181 121 122 .none (.ref 123) (.ref 124) 125 343 344
def qhc:Obj:=Hd.oF "_law_left" jT (.str "law_bankwalk_k60_whole_nets_spoilt_anywhere" 325) (.ref 126)
def qmW:Obj:=Hd.oN UN 349
def qls:Obj:=Hd.oG "_law_pick" j5
def qiI:Obj:=Hd.oK "_law_pick" 346 82 2 181 128 129 .none (.ref 130) (.ref 131) 132 352 353
def qhG:Obj:=Hd.oF "_law_pick" j5 (.str "law_bankwalk_k60_whole_nets_spoilt_anywhere" 325) (.ref 133)
def qmH:Obj:=Hd.oG "_law_same" j6
def qji:Obj:=Hd.oK "_law_same" 355 89 2 181 135 136 .none .none .none 137 358 359
def qgI:Obj:=Hd.oF "_law_same" j6 (.str "law_bankwalk_k60_whole_nets_spoilt_anywhere" 325) (.ref 138)
def qmg:Obj:=Hd.oG "_law_net" QS
def qjZ:Obj:=Hd.oK "_law_net" 361 97 2 181 140 141 .none .none .none 142 364 365
def qjL:Obj:=Hd.oF "_law_net" QS (.str "law_bankwalk_k60_whole_nets_spoilt_anywhere" 325) (.ref 143)
def qlT:Obj:=Hd.oN QX 370
def qlC:Obj:=Hd.oG "_law_lane" jW
def qgq:Obj:=Hd.oK "_law_lane" 367 104 2 181 145 146 .none (.ref 147) (.ref 148) 149 374 375
def qiz:Obj:=Hd.oF "_law_lane" jW (.str "law_bankwalk_k60_whole_nets_spoilt_anywhere" 325) (.ref 150)
def qnc:Obj:=Hd.oG "_law_is_net" je
def qkC:Obj:=Hd.oK "_law_is_net" 377 110 2 181 152 153 .none .none .none 154 380 381
def qhS:Obj:=Hd.oF "_law_is_net" je (.str "law_bankwalk_k60_whole_nets_spoilt_anywhere" 325) (.ref 155)
def qnt:Obj:=Hd.oN jZ 386
def qng:Obj:=Hd.oG "_law_order" jB
def qkL:Obj:=Hd.oK "_law_order" 383 121 2 181 157 158 .none (.ref 159) (.ref 160) 161 391 392
def qjm:Obj:=Hd.oF "_law_order" jB (.str "law_bankwalk_k60_whole_nets_spoilt_anywhere" 325) (.ref 162)
def qme:Obj:=Hd.oN zu 397
def qjs:Obj:=Hd.oG "_law_other_leaf" zg
def qc6:Obj:=Hd.oK "_law_other_leaf" 394 126 2 181 164 165 .none (.ref 166) (.ref 167) 168 401 402
def qdB:Obj:=Hd.oF "_law_other_leaf" zg (.str "law_bankwalk_k60_whole_nets_spoilt_anywhere" 325) (.ref 169)
def qkp:Obj:=Hd.oN zD 407
def qhf:Obj:=Hd.oG "_law_other_row" zr
def qcE:Obj:=Hd.oK "_law_other_row" 404 132 2 181 171 172 .none (.ref 173) (.ref 174) 175 412 413
def qec:Obj:=Hd.oF "_law_other_row" zr (.str "law_bankwalk_k60_whole_nets_spoilt_anywhere" 325) (.ref 176)
def qkA:Obj:=Hd.oN jA 418
def qjK:Obj:=Hd.oG "_law_spoilt" zZ
def qc3:Obj:=Hd.oK "_law_spoilt" 415 144 3 181 178 179 .none (.ref 180) (.ref 181) 182 422 423
def qdp:Obj:=Hd.oF "_law_spoilt" zZ (.str "law_bankwalk_k60_whole_nets_spoilt_anywhere" 325) (.ref 183)
def qg0:Obj:=Hd.oG "_law_right" jw
def qdT:Obj:=Hd.oK "_law_right" 425 151 2 181 185 186 .none .none .none 187 428 429
def qdg:Obj:=Hd.oF "_law_right" jw (.str "law_bankwalk_k60_whole_nets_spoilt_anywhere" 325) (.ref 188)
def qhV:Obj:=Hd.oN qam 434
def qgF:Obj:=Hd.oG "law" JS
def qdZ:Obj:=Hd.oK "law" 431 162 1 181 190 191 .none (.ref 192) (.ref 193) 194 442 443
def qd9:Obj:=Hd.oF "law" JS (.str "law_bankwalk_k60_whole_nets_spoilt_anywhere" 325) (.ref 195)
def qeJ (P:Params):PySem.W.BT:=(Hd.nd (PySem.W.boot_o_0 P) (Hd.nd (PySem.W.boot_o_1 P) (Hd.nd (qjj P) (Hd.nd (PySem.W.boot_o_7 P) (Hd.nd zR (Hd.nd (qjc P) (Hd.nd qgH (Hd.lf qhc) (Hd.lf Z3)) (Hd.nd qii (Hd.lf qnt) .nil)) (Hd.nd qj8 (Hd.nd Z3 (Hd.lf qjZ) .nil) (Hd.nd qmm (Hd.lf qhf) .nil))) (Hd.nd Z3 (Hd.nd qku (Hd.nd qfs (Hd.lf zR) .nil) (Hd.nd Z3 (Hd.lf zR) .nil)) (Hd.nd Z3 (Hd.nd qmO (Hd.lf qiz) .nil) (Hd.nd qhA (Hd.lf qc3) .nil)))) (Hd.nd zR (Hd.nd qoc (Hd.nd qjq (Hd.nd Z3 (Hd.lf zR) (Hd.lf qdZ)) (Hd.nd qnJ (Hd.lf qjm) .nil)) (Hd.nd qjf (Hd.nd qkX (Hd.lf qlT) .nil) (Hd.nd Z3 (Hd.lf Z3) .nil))) (Hd.nd qes (Hd.nd qbd (Hd.nd qg6 (Hd.lf qgI) .nil) (Hd.nd zR (Hd.lf zR) .nil)) (Hd.nd zR (Hd.nd qhu (Hd.lf qkC) .nil) (Hd.nd qlE (Hd.lf qg0) .nil))))) (Hd.nd (PySem.W.boot_o_5 P) (Hd.nd (PySem.W.boot_o_9 P) (Hd.nd qn2 (Hd.nd Z3 (Hd.nd qeL (Hd.lf Z3) (Hd.lf zR)) (Hd.nd zR (Hd.lf qng) .nil)) (Hd.nd zR (Hd.nd zR (Hd.lf zR) .nil) (Hd.nd qgr (Hd.lf qec) .nil))) (Hd.nd zR (Hd.nd qhD (Hd.nd zR (Hd.lf qmH) .nil) (Hd.nd qkv (Hd.lf qc6) .nil)) (Hd.nd qfZ (Hd.nd qnK (Hd.lf Z3) .nil) (Hd.nd zR (Hd.lf zR) .nil)))) (Hd.nd qld (Hd.nd qfP (Hd.nd (qjX P) (Hd.nd zR (Hd.lf qiI) .nil) (Hd.nd qg5 (Hd.lf Z3) .nil)) (Hd.nd qgY (Hd.nd zR (Hd.lf qlC) .nil) (Hd.nd zR (Hd.lf zR) .nil))) (Hd.nd qhw (Hd.nd zR (Hd.nd qeB (Hd.lf Z3) .nil) (Hd.nd qmB (Hd.lf qkp) .nil)) (Hd.nd qj9 (Hd.nd Z3 (Hd.lf zR) .nil) (Hd.nd qmU (Hd.lf qdg) .nil)))))) (Hd.nd (PySem.W.boot_o_2 P) (Hd.nd (PySem.W.boot_o_4 P) (Hd.nd (PySem.W.boot_o_8 P) (Hd.nd Z3 (Hd.nd zR (Hd.nd qev (Hd.lf zR) (Hd.lf qhV)) (Hd.nd qij (Hd.lf zR) .nil)) (Hd.nd qkF (Hd.nd qmc (Hd.lf qjL) .nil) (Hd.nd qhZ (Hd.lf qcE) .nil))) (Hd.nd qkE (Hd.nd qkw (Hd.nd qeF (Hd.lf Z3) .nil) (Hd.nd qlM (Hd.lf qjs) .nil)) (Hd.nd qiU (Hd.nd zR (Hd.lf zR) .nil) (Hd.nd qjx (Hd.lf qdp) .nil)))) (Hd.nd qm6 (Hd.nd qnu (Hd.nd zR (Hd.nd qkm (Hd.lf qls) (Hd.lf qd9)) (Hd.nd qjM (Hd.lf zR) .nil)) (Hd.nd qhB (Hd.nd qil (Hd.lf zR) .nil) (Hd.nd qml (Hd.lf qkA) .nil))) (Hd.nd qfL (Hd.nd (qib P) (Hd.nd qfk (Hd.lf zR) .nil) (Hd.nd Z3 (Hd.lf Z3) .nil)) (Hd.nd Z3 (Hd.nd zR (Hd.lf qhS) .nil) (Hd.nd zR (Hd.lf qdT) .nil))))) (Hd.nd (PySem.W.boot_o_6 P) (Hd.nd (PySem.W.boot_o_10 P) (Hd.nd zR (Hd.nd qhH (Hd.nd zR (Hd.lf qmW) (Hd.lf qgF)) (Hd.nd Z3 (Hd.lf qkL) .nil)) (Hd.nd (qjg P) (Hd.nd qmZ (Hd.lf Z3) .nil) (Hd.nd zR (Hd.lf zR) .nil))) (Hd.nd qja (Hd.nd qkT (Hd.nd Z3 (Hd.lf qji) .nil) (Hd.nd qkx (Hd.lf qdB) .nil)) (Hd.nd qfy (Hd.nd qia (Hd.lf qnc) .nil) (Hd.nd Z3 (Hd.lf Z3) .nil)))) (Hd.nd qlm (Hd.nd zR (Hd.nd qg1 (Hd.nd qiO (Hd.lf qhG) .nil) (Hd.nd zR (Hd.lf qme) .nil)) (Hd.nd zR (Hd.nd Z3 (Hd.lf qgq) .nil) (Hd.nd qmM (Hd.lf qjK) .nil))) (Hd.nd qbd (Hd.nd Z3 (Hd.nd zR (Hd.lf qmg) .nil) (Hd.nd zR (Hd.lf zR) .nil)) (Hd.nd zR (Hd.nd qmq (Hd.lf Z3) .nil) (Hd.nd qiJ (Hd.lf zR) .nil)))))))
abbrev qdO:List Stmt:=(M7.drop 11).take 20
set_option maxRecDepth 100000 in
set_option maxHeartbeats 0 in
def qhg (w : World) (os : OsState) : PySem.W.segRunT treeTable PySem.Challenge.pw_bankwalk_k60_whole_nets_spoilt_anywhere w 11 (some (Value.ref 6)) 1 577 (⟨qig w.params,78,{ },#[],{ },280,os⟩ : PySem.W.SharedT) (PySem.W.piecesOf qdO qho X4 ⟨33,0,39,82⟩ qik) = some (.next,(⟨qeJ w.params,197,{ },#[],{ },445,os⟩ : PySem.W.SharedT),X4,⟨162,0,177,15⟩) := by kernel_rfl
abbrev qfK (P:Params):Heap:=PySem.W.absHeap (qeJ P) 197 { }
def Kf (P:Params):PySem.W.Frag:=[(3,qjj P),(20,qnu),(21,qfP),(27,qes),(28,qfL),(57,qfZ),(58,qfy),(64,qev),(65,qeL),(71,qfs),(72,qeF),(76,qfk),(77,qeB),(83,qkX),(84,qil),(90,qia),(91,qhu),(95,qii),(96,qij),(100,qjM),(101,qg5),(105,qkv),(106,qkx),(112,qhZ),(113,qgr),(119,qhA),(120,qjx),(126,qiJ),(127,qhc),(133,qiI),(134,qhG),(138,qji),(139,qgI),(143,qjZ),(144,qjL),(150,qgq),(151,qiz),(155,qkC),(156,qhS),(162,qkL),(163,qjm),(169,qc6),(170,qdB),(176,qcE),(177,qec),(183,qc3),(184,qdp),(188,qdT),(189,qdg),(195,qdZ),(196,qd9)]
def qh9 {l:PySem.W.OpenLaw} {w:World} {h:Heap} {mg:Str->Option Value} {fa:Addr} (X:(Kf w.params).In h) (G:h.Ns mainGlobals mg) (hfa:mg "law" = some (.ref fa)) :
  ∃ fd:FuncData,(∀ (s:Shared) (v:Value),BindsTo s fd ⟨[v],[]⟩ [("_law_script",v)])/\∀ base:Heap,(Kf w.params).In base->base.Ns mainGlobals mg->FnOk l.prog w (Kf w.params) mg base CX0 13 fa fd ["_law_script"] (lSp (Kf w.params) WG):=by
 have e:=hfa.symm.trans (Hd.jI X G "law" (.ref 196) (by kernel_rfl));cases e;have F0:=Hd.jH (K:=Kf w.params) "is_number" jz 21 (.str "bankwalk.basics" 187) (.ref 20) (by kernel_rfl) (by kernel_rfl) (by kernel_rfl);have b0:=F0.binds (ps:=YM) λ_ _ _ _ _ _ us hl=>by obtain ⟨_,rfl⟩:=Pu.qgo hl;rfl
 have m0:=Hd.jI X G "is_number" (.ref 21) (by kernel_rfl);have F1:=Hd.jH (K:=Kf w.params) "is_number_below" zb 28 (.str "bankwalk.basics" 187) (.ref 27) (by kernel_rfl) (by kernel_rfl) (by kernel_rfl);have b1:=F1.binds (ps:=jp) λ_ _ _ _ _ _ us hl=>by obtain ⟨_,_,rfl⟩:=Pu.XT hl;rfl
 have m1:=Hd.jI X G "is_number_below" (.ref 28) (by kernel_rfl);have F2:=Hd.jH (K:=Kf w.params) "are_switches" zG 58 (.str "bankwalk.nets" 240) (.ref 57) (by kernel_rfl) (by kernel_rfl) (by kernel_rfl);have b2:=F2.binds (ps:=QL) λ_ _ _ _ _ _ us hl=>by obtain ⟨_,_,rfl⟩:=Pu.XT hl;rfl
 have m2:=Hd.jI X G "are_switches" (.ref 58) (by kernel_rfl);have F3:=Hd.jH (K:=Kf w.params) "is_net" JF 65 (.str "bankwalk.nets" 240) (.ref 64) (by kernel_rfl) (by kernel_rfl) (by kernel_rfl);have b3:=F3.binds (ps:=X2) λ_ _ _ _ _ _ us hl=>by obtain ⟨_,_,rfl⟩:=Pu.XT hl;rfl
 have m3:=Hd.jI X G "is_net" (.ref 65) (by kernel_rfl);have F4:=Hd.jH (K:=Kf w.params) "switched" jV 72 (.str "bankwalk.nets" 240) (.ref 71) (by kernel_rfl) (by kernel_rfl) (by kernel_rfl);have b4:=F4.binds (ps:=V7) λ_ _ _ _ _ _ us hl=>by obtain ⟨_,_,rfl⟩:=Pu.XT hl;rfl
 have m4:=Hd.jI X G "switched" (.ref 72) (by kernel_rfl);have F5:=Hd.jH (K:=Kf w.params) "led" CQ 77 (.str "bankwalk.nets" 240) (.ref 76) (by kernel_rfl) (by kernel_rfl) (by kernel_rfl);have b5:=F5.binds (ps:=qgc) λ_ _ _ _ _ _ us hl=>by obtain ⟨_,_,rfl⟩:=Pu.XT hl;rfl
 have m5:=Hd.jI X G "led" (.ref 77) (by kernel_rfl);have F6:=Hd.jH (K:=Kf w.params) "mirrored" j1 84 (.str "bankwalk.nets" 240) (.ref 83) (by kernel_rfl) (by kernel_rfl) (by kernel_rfl);have b6:=F6.binds (ps:=UA) λ_ _ _ _ _ _ us hl=>by obtain ⟨_,_,rfl⟩:=Pu.XT hl;rfl
 have m6:=Hd.jI X G "mirrored" (.ref 84) (by kernel_rfl);have F7:=Hd.jH (K:=Kf w.params) "led_back" j2 91 (.str "bankwalk.nets" 240) (.ref 90) (by kernel_rfl) (by kernel_rfl) (by kernel_rfl);have b7:=F7.binds (ps:=UB) λ_ _ _ _ _ _ us hl=>by obtain ⟨_,_,rfl⟩:=Pu.XT hl;rfl
 have m7:=Hd.jI X G "led_back" (.ref 91) (by kernel_rfl);have F8:=Hd.jH (K:=Kf w.params) "halves_of" jC 96 (.str "bankwalk.nets" 240) (.ref 95) (by kernel_rfl) (by kernel_rfl) (by kernel_rfl);have b8:=F8.binds (ps:=YI) λ_ _ _ _ _ _ us hl=>by obtain ⟨_,rfl⟩:=Pu.qgo hl;rfl
 have m8:=Hd.jI X G "halves_of" (.ref 96) (by kernel_rfl);have F9:=Hd.jH (K:=Kf w.params) "net_by" Z8 101 (.str "bankwalk.nets" 240) (.ref 100) (by kernel_rfl) (by kernel_rfl) (by kernel_rfl);have b9:=F9.binds (ps:=XI) λ_ _ _ _ _ _ us hl=>by obtain ⟨_,rfl⟩:=Pu.qgo hl;rfl
 have m9:=Hd.jI X G "net_by" (.ref 101) (by kernel_rfl);have F10:=Hd.jH (K:=Kf w.params) "is_order" jX 106 (.str "bankwalk.nets" 240) (.ref 105) (by kernel_rfl) (by kernel_rfl) (by kernel_rfl);have b10:=F10.binds (ps:=UL) λ_ _ _ _ _ _ us hl=>by obtain ⟨_,rfl⟩:=Pu.qgo hl;rfl
 have m10:=Hd.jI X G "is_order" (.ref 106) (by kernel_rfl);have F11:=Hd.jH (K:=Kf w.params) "net_for" QV 113 (.str "bankwalk.nets" 240) (.ref 112) (by kernel_rfl) (by kernel_rfl) (by kernel_rfl);have b11:=F11.binds (ps:=DU) λ_ _ _ _ _ _ us hl=>by obtain ⟨_,rfl⟩:=Pu.qgo hl;rfl
 have m11:=Hd.jI X G "net_for" (.ref 113) (by kernel_rfl);have F12:=Hd.jH (K:=Kf w.params) "_law_mix" Q5 120 (.str "law_bankwalk_k60_whole_nets_spoilt_anywhere" 325) (.ref 119) (by kernel_rfl) (by kernel_rfl) (by kernel_rfl);have b12:=F12.binds (ps:=DS) λ_ _ _ _ _ _ us hl=>by obtain ⟨_,_,rfl⟩:=Pu.XT hl;rfl
 have m12:=Hd.jI X G "_law_mix" (.ref 120) (by kernel_rfl);have F13:=Hd.jH (K:=Kf w.params) "_law_left" jT 127 (.str "law_bankwalk_k60_whole_nets_spoilt_anywhere" 325) (.ref 126) (by kernel_rfl) (by kernel_rfl) (by kernel_rfl);have b13:=F13.binds (ps:=UO) λ_ _ _ _ _ _ us hl=>by obtain ⟨_,_,rfl⟩:=Pu.XT hl;rfl
 have m13:=Hd.jI X G "_law_left" (.ref 127) (by kernel_rfl);have F14:=Hd.jH (K:=Kf w.params) "_law_pick" j5 134 (.str "law_bankwalk_k60_whole_nets_spoilt_anywhere" 325) (.ref 133) (by kernel_rfl) (by kernel_rfl) (by kernel_rfl);have b14:=F14.binds (ps:=UT) λ_ _ _ _ _ _ us hl=>by obtain ⟨_,_,rfl⟩:=Pu.XT hl;rfl
 have m14:=Hd.jI X G "_law_pick" (.ref 134) (by kernel_rfl);have F15:=Hd.jH (K:=Kf w.params) "_law_same" j6 139 (.str "law_bankwalk_k60_whole_nets_spoilt_anywhere" 325) (.ref 138) (by kernel_rfl) (by kernel_rfl) (by kernel_rfl);have b15:=F15.binds (ps:=V4) λ_ _ _ _ _ _ us hl=>by obtain ⟨_,_,rfl⟩:=Pu.XT hl;rfl
 have m15:=Hd.jI X G "_law_same" (.ref 139) (by kernel_rfl);have F16:=Hd.jH (K:=Kf w.params) "_law_net" QS 144 (.str "law_bankwalk_k60_whole_nets_spoilt_anywhere" 325) (.ref 143) (by kernel_rfl) (by kernel_rfl) (by kernel_rfl);have b16:=F16.binds (ps:=E7) λ_ _ _ _ _ _ us hl=>by obtain ⟨_,_,rfl⟩:=Pu.XT hl;rfl
 have m16:=Hd.jI X G "_law_net" (.ref 144) (by kernel_rfl);have F17:=Hd.jH (K:=Kf w.params) "_law_lane" jW 151 (.str "law_bankwalk_k60_whole_nets_spoilt_anywhere" 325) (.ref 150) (by kernel_rfl) (by kernel_rfl) (by kernel_rfl);have b17:=F17.binds (ps:=V5) λ_ _ _ _ _ _ us hl=>by obtain ⟨_,_,rfl⟩:=Pu.XT hl;rfl
 have m17:=Hd.jI X G "_law_lane" (.ref 151) (by kernel_rfl);have F18:=Hd.jH (K:=Kf w.params) "_law_is_net" je 156 (.str "law_bankwalk_k60_whole_nets_spoilt_anywhere" 325) (.ref 155) (by kernel_rfl) (by kernel_rfl) (by kernel_rfl);have b18:=F18.binds (ps:=JP) λ_ _ _ _ _ _ us hl=>by obtain ⟨_,_,rfl⟩:=Pu.XT hl;rfl
 have m18:=Hd.jI X G "_law_is_net" (.ref 156) (by kernel_rfl);have F19:=Hd.jH (K:=Kf w.params) "_law_order" jB 163 (.str "law_bankwalk_k60_whole_nets_spoilt_anywhere" 325) (.ref 162) (by kernel_rfl) (by kernel_rfl) (by kernel_rfl);have b19:=F19.binds (ps:=YO) λ_ _ _ _ _ _ us hl=>by obtain ⟨_,_,rfl⟩:=Pu.XT hl;rfl
 have m19:=Hd.jI X G "_law_order" (.ref 163) (by kernel_rfl);have F20:=Hd.jH (K:=Kf w.params) "_law_other_leaf" zg 170 (.str "law_bankwalk_k60_whole_nets_spoilt_anywhere" 325) (.ref 169) (by kernel_rfl) (by kernel_rfl) (by kernel_rfl);have b20:=F20.binds (ps:=jJ) λ_ _ _ _ _ _ us hl=>by obtain ⟨_,_,rfl⟩:=Pu.XT hl;rfl
 have m20:=Hd.jI X G "_law_other_leaf" (.ref 170) (by kernel_rfl);have F21:=Hd.jH (K:=Kf w.params) "_law_other_row" zr 177 (.str "law_bankwalk_k60_whole_nets_spoilt_anywhere" 325) (.ref 176) (by kernel_rfl) (by kernel_rfl) (by kernel_rfl);have b21:=F21.binds (ps:=j3) λ_ _ _ _ _ _ us hl=>by obtain ⟨_,_,rfl⟩:=Pu.XT hl;rfl
 have m21:=Hd.jI X G "_law_other_row" (.ref 177) (by kernel_rfl);have F22:=Hd.jH (K:=Kf w.params) "_law_spoilt" zZ 184 (.str "law_bankwalk_k60_whole_nets_spoilt_anywhere" 325) (.ref 183) (by kernel_rfl) (by kernel_rfl) (by kernel_rfl);have b22:=F22.binds (ps:=JQ) λ_ _ _ _ _ _ us hl=>by obtain ⟨_,_,_,rfl⟩:=Pu.qpb hl;rfl
 have m22:=Hd.jI X G "_law_spoilt" (.ref 184) (by kernel_rfl);have F23:=Hd.jH (K:=Kf w.params) "_law_right" jw 189 (.str "law_bankwalk_k60_whole_nets_spoilt_anywhere" 325) (.ref 188) (by kernel_rfl) (by kernel_rfl) (by kernel_rfl);have b23:=F23.binds (ps:=YS) λ_ _ _ _ _ _ us hl=>by obtain ⟨_,_,rfl⟩:=Pu.XT hl;rfl
 have m23:=Hd.jI X G "_law_right" (.ref 189) (by kernel_rfl);have F24:=Hd.jH (K:=Kf w.params) "law" JS 196 (.str "law_bankwalk_k60_whole_nets_spoilt_anywhere" 325) (.ref 195) (by kernel_rfl) (by kernel_rfl) (by kernel_rfl);have g_isinstance:=Hd.VI X G "isinstance" (by kernel_rfl);have g_bool:=Hd.VI X G "bool" (by kernel_rfl);have g_int:=Hd.VI X G "int" (by kernel_rfl);have g_all:=Hd.VI X G "all" (by kernel_rfl);have g_len:=Hd.VI X G "len" (by kernel_rfl);have g_tuple:=Hd.VI X G "tuple" (by kernel_rfl);have g_enumerate:=Hd.VI X G "enumerate" (by kernel_rfl);have g_zip:=Hd.VI X G "zip" (by kernel_rfl);have g_range:=Hd.VI X G "range" (by kernel_rfl);have g_sorted:=Hd.VI X G "sorted" (by kernel_rfl);have g_list:=Hd.VI X G "list" (by kernel_rfl);have g_abs:=Hd.VI X G "abs" (by kernel_rfl);have g_str:=Hd.VI X G "str" (by kernel_rfl);have g_min:=Hd.VI X G "min" (by kernel_rfl);refine ⟨PySem.W.fnOf "law" "law" (ZX JS) (jg JS) (qi JS) .none .none .none (.str "law_bankwalk_k60_whole_nets_spoilt_anywhere" 325) none (.ref 195) .none,λs v=>.of_eq rfl,λbase Xb _=>?_⟩;have O_is_number:=RU (P:=l.prog) (w:=w) (base:=base) (k:=0) F0 b0 m0  g_isinstance g_bool g_int C5;have O_is_number_below:=VZ (P:=l.prog) (w:=w) (base:=base) (k:=1) F1 b1 m1 O_is_number  VE;have O_are_switches:=DB (P:=l.prog) (w:=w) (base:=base) (k:=2) F2 b2 m2 O_is_number_below g_all g_len g_isinstance g_tuple DN;have O_switched:=SC (P:=l.prog) (w:=w) (base:=base) (k:=0) F4 b4 m4  g_enumerate SM;have O_halves_of:=CS (P:=l.prog) (w:=w) (base:=base) (k:=0) F8 b8 m8  g_len g_range RC;have O_is_order:=SR (P:=l.prog) (w:=w) (base:=base) (k:=1) F10 b10 m10 O_is_number g_len g_isinstance g_tuple g_sorted g_list g_range g_all SV;have O_law_mix:=K0 (P:=l.prog) (w:=w) (base:=base) (k:=0) F12 b12 m12   Bk.LN;have O_law_left:=SY (P:=l.prog) (w:=w) (base:=base) (k:=0) F13 b13 m13  g_len g_abs Bk.TB;have O_law_pick:=R9 (P:=l.prog) (w:=w) (base:=base) (k:=1) F14 b14 m14 O_law_mix  Bk.SS;have O_law_order:=CN (P:=l.prog) (w:=w) (base:=base) (k:=2) F19 b19 m19 O_law_pick g_list g_range g_len g_tuple CK;have O_law_other_leaf:=UI (P:=l.prog) (w:=w) (base:=base) (k:=2) F20 b20 m20 O_law_pick g_isinstance g_int UR;have O_law_other_row:=U7 (P:=l.prog) (w:=w) (base:=base) (k:=2) F21 b21 m21 O_law_pick g_len g_list U4;have O_is_net_0:=Pu.Fn3.pz (jR (P:=l.prog) (w:=w) (base:=base) F3 b3 m3) false;have O_is_net_1:=JI (P:=l.prog) (w:=w) (base:=base) (k:=3) F3 b3 m3 (O_is_number_below.mono (by decide)) O_are_switches (O_is_net_0.mono (by decide)) g_len g_isinstance g_tuple (JR 0);have O_is_net_2:=JI (P:=l.prog) (w:=w) (base:=base) (k:=4) F3 b3 m3 (O_is_number_below.mono (by decide)) (O_are_switches.mono (by decide)) O_is_net_1 g_len g_isinstance g_tuple (JR 1);have O_is_net_3:=JI (P:=l.prog) (w:=w) (base:=base) (k:=5) F3 b3 m3 (O_is_number_below.mono (by decide)) (O_are_switches.mono (by decide)) O_is_net_2 g_len g_isinstance g_tuple (JR 2);have O_is_net_4:=JI (P:=l.prog) (w:=w) (base:=base) (k:=6) F3 b3 m3 (O_is_number_below.mono (by decide)) (O_are_switches.mono (by decide)) O_is_net_3 g_len g_isinstance g_tuple (JR 3);have O_is_net_5:=JI (P:=l.prog) (w:=w) (base:=base) (k:=7) F3 b3 m3 (O_is_number_below.mono (by decide)) (O_are_switches.mono (by decide)) O_is_net_4 g_len g_isinstance g_tuple (JR 4);have O_led_0:=Pu.Fn3.pz (jR (P:=l.prog) (w:=w) (base:=base) F5 b5 m5) true;have O_led_1:=KK (P:=l.prog) (w:=w) (base:=base) (k:=1) F5 b5 m5 O_switched (O_led_0.mono (by decide)) g_len g_zip (TW 0);have O_led_2:=KK (P:=l.prog) (w:=w) (base:=base) (k:=2) F5 b5 m5 (O_switched.mono (by decide)) O_led_1 g_len g_zip (TW 1);have O_led_3:=KK (P:=l.prog) (w:=w) (base:=base) (k:=3) F5 b5 m5 (O_switched.mono (by decide)) O_led_2 g_len g_zip (TW 2);have O_led_4:=KK (P:=l.prog) (w:=w) (base:=base) (k:=4) F5 b5 m5 (O_switched.mono (by decide)) O_led_3 g_len g_zip (TW 3);have O_mirrored_0:=Pu.Fn3.pz (jR (P:=l.prog) (w:=w) (base:=base) F6 b6 m6) false;have O_mirrored_1:=ZI (P:=l.prog) (w:=w) (base:=base) (k:=0) F6 b6 m6 O_mirrored_0  (ZP 0);have O_mirrored_2:=ZI (P:=l.prog) (w:=w) (base:=base) (k:=1) F6 b6 m6 O_mirrored_1  (ZP 1);have O_mirrored_3:=ZI (P:=l.prog) (w:=w) (base:=base) (k:=2) F6 b6 m6 O_mirrored_2  (ZP 2);have O_mirrored_4:=ZI (P:=l.prog) (w:=w) (base:=base) (k:=3) F6 b6 m6 O_mirrored_3  (ZP 3);have O_led_back:=SG (P:=l.prog) (w:=w) (base:=base) (k:=5) F7 b7 m7 (O_mirrored_4.mono (by decide)) O_led_4 g_len SO;have O_net_by_0:=Pu.Fn3.pz (jR (P:=l.prog) (w:=w) (base:=base) F9 b9 m9) false;have O_net_by_1:=VB (P:=l.prog) (w:=w) (base:=base) (k:=1) F9 b9 m9 O_halves_of (O_net_by_0.mono (by decide)) g_len g_tuple g_range g_zip (VX 0);have O_net_by_2:=VB (P:=l.prog) (w:=w) (base:=base) (k:=2) F9 b9 m9 (O_halves_of.mono (by decide)) O_net_by_1 g_len g_tuple g_range g_zip (VX 1);have O_net_by_3:=VB (P:=l.prog) (w:=w) (base:=base) (k:=3) F9 b9 m9 (O_halves_of.mono (by decide)) O_net_by_2 g_len g_tuple g_range g_zip (VX 2);have O_net_by_4:=VB (P:=l.prog) (w:=w) (base:=base) (k:=4) F9 b9 m9 (O_halves_of.mono (by decide)) O_net_by_3 g_len g_tuple g_range g_zip (VX 3);have O_net_for:=LS (P:=l.prog) (w:=w) (base:=base) (k:=5) F11 b11 m11 (O_is_order.mono (by decide)) O_net_by_4  LH;have O_law_lane_0:=Pu.Fn3.pz (jR (P:=l.prog) (w:=w) (base:=base) F17 b17 m17) false;have O_law_lane_1:=ZU (P:=l.prog) (w:=w) (base:=base) (k:=0) F17 b17 m17 O_law_lane_0 g_isinstance g_int (ZJ 0);have O_law_lane_2:=ZU (P:=l.prog) (w:=w) (base:=base) (k:=1) F17 b17 m17 O_law_lane_1 g_isinstance g_int (ZJ 1);have O_law_lane_3:=ZU (P:=l.prog) (w:=w) (base:=base) (k:=2) F17 b17 m17 O_law_lane_2 g_isinstance g_int (ZJ 2);have O_law_lane_4:=ZU (P:=l.prog) (w:=w) (base:=base) (k:=3) F17 b17 m17 O_law_lane_3 g_isinstance g_int (ZJ 3);have O_law_is_net_0:=Pu.Fn3.pz (jR (P:=l.prog) (w:=w) (base:=base) F18 b18 m18) false;have O_law_is_net_1:=ja (P:=l.prog) (w:=w) (base:=base) (k:=0) F18 b18 m18 O_law_is_net_0 g_isinstance g_bool g_int g_len g_tuple g_all (jd 0);have O_law_is_net_2:=ja (P:=l.prog) (w:=w) (base:=base) (k:=1) F18 b18 m18 O_law_is_net_1 g_isinstance g_bool g_int g_len g_tuple g_all (jd 1);have O_law_is_net_3:=ja (P:=l.prog) (w:=w) (base:=base) (k:=2) F18 b18 m18 O_law_is_net_2 g_isinstance g_bool g_int g_len g_tuple g_all (jd 2);have O_law_is_net_4:=ja (P:=l.prog) (w:=w) (base:=base) (k:=3) F18 b18 m18 O_law_is_net_3 g_isinstance g_bool g_int g_len g_tuple g_all (jd 3);have O_law_is_net_5:=ja (P:=l.prog) (w:=w) (base:=base) (k:=4) F18 b18 m18 O_law_is_net_4 g_isinstance g_bool g_int g_len g_tuple g_all (jd 4);have O_law_net_0:=Pu.Fn3.dz (jR (P:=l.prog) (w:=w) (base:=base) F16 b16 m16) false;have O_law_net_1:=JV (P:=l.prog) (w:=w) (base:=base) (k:=2) F16 b16 m16 O_law_pick (O_law_net_0.mono (by decide)) g_range g_tuple (JX 0);have O_law_net_2:=JV (P:=l.prog) (w:=w) (base:=base) (k:=3) F16 b16 m16 (O_law_pick.mono (by decide)) O_law_net_1 g_range g_tuple (JX 1);have O_law_net_3:=JV (P:=l.prog) (w:=w) (base:=base) (k:=4) F16 b16 m16 (O_law_pick.mono (by decide)) O_law_net_2 g_range g_tuple (JX 2);have O_law_net_4:=JV (P:=l.prog) (w:=w) (base:=base) (k:=5) F16 b16 m16 (O_law_pick.mono (by decide)) O_law_net_3 g_range g_tuple (JX 3);have O_law_spoilt_0:=Pu.Fn3.dz (jR (P:=l.prog) (w:=w) (base:=base) F22 b22 m22) false;have O_law_spoilt_1:=qO (P:=l.prog) (w:=w) (base:=base) (k:=3) F22 b22 m22 O_law_other_leaf (O_law_pick.mono (by decide)) O_law_other_row (O_law_spoilt_0.mono (by decide)) g_isinstance g_tuple g_len (qP 0);have O_law_spoilt_2:=qO (P:=l.prog) (w:=w) (base:=base) (k:=4) F22 b22 m22 (O_law_other_leaf.mono (by decide)) (O_law_pick.mono (by decide)) (O_law_other_row.mono (by decide)) O_law_spoilt_1 g_isinstance g_tuple g_len (qP 1);have O_law_spoilt_3:=qO (P:=l.prog) (w:=w) (base:=base) (k:=5) F22 b22 m22 (O_law_other_leaf.mono (by decide)) (O_law_pick.mono (by decide)) (O_law_other_row.mono (by decide)) O_law_spoilt_2 g_isinstance g_tuple g_len (qP 2);have O_law_spoilt_4:=qO (P:=l.prog) (w:=w) (base:=base) (k:=6) F22 b22 m22 (O_law_other_leaf.mono (by decide)) (O_law_pick.mono (by decide)) (O_law_other_row.mono (by decide)) O_law_spoilt_3 g_isinstance g_tuple g_len (qP 3);have O_law_spoilt_5:=qO (P:=l.prog) (w:=w) (base:=base) (k:=7) F22 b22 m22 (O_law_other_leaf.mono (by decide)) (O_law_pick.mono (by decide)) (O_law_other_row.mono (by decide)) O_law_spoilt_4 g_isinstance g_tuple g_len (qP 4);have O_law_spoilt_6:=qO (P:=l.prog) (w:=w) (base:=base) (k:=8) F22 b22 m22 (O_law_other_leaf.mono (by decide)) (O_law_pick.mono (by decide)) (O_law_other_row.mono (by decide)) O_law_spoilt_5 g_isinstance g_tuple g_len (qP 5);have O_law_spoilt_7:=qO (P:=l.prog) (w:=w) (base:=base) (k:=9) F22 b22 m22 (O_law_other_leaf.mono (by decide)) (O_law_pick.mono (by decide)) (O_law_other_row.mono (by decide)) O_law_spoilt_6 g_isinstance g_tuple g_len (qP 6);have O_law_spoilt_8:=qO (P:=l.prog) (w:=w) (base:=base) (k:=10) F22 b22 m22 (O_law_other_leaf.mono (by decide)) (O_law_pick.mono (by decide)) (O_law_other_row.mono (by decide)) O_law_spoilt_7 g_isinstance g_tuple g_len (qP 7);have O_law_spoilt_9:=qO (P:=l.prog) (w:=w) (base:=base) (k:=11) F22 b22 m22 (O_law_other_leaf.mono (by decide)) (O_law_pick.mono (by decide)) (O_law_other_row.mono (by decide)) O_law_spoilt_8 g_isinstance g_tuple g_len (qP 8);have O_law_same_0:=jR (P:=l.prog) (w:=w) (base:=base) F15 b15 m15;have O_law_same_1:=ZG (P:=l.prog) (w:=w) (base:=base) (k:=0) F15 b15 m15 O_law_same_0 g_isinstance g_list g_tuple g_zip g_all g_len g_str g_bool g_int (Bk.ZT 0);have O_law_same_2:=ZG (P:=l.prog) (w:=w) (base:=base) (k:=1) F15 b15 m15 O_law_same_1 g_isinstance g_list g_tuple g_zip g_all g_len g_str g_bool g_int (Bk.ZT 1);have O_law_same_3:=ZG (P:=l.prog) (w:=w) (base:=base) (k:=2) F15 b15 m15 O_law_same_2 g_isinstance g_list g_tuple g_zip g_all g_len g_str g_bool g_int (Bk.ZT 2);have O_law_same_4:=ZG (P:=l.prog) (w:=w) (base:=base) (k:=3) F15 b15 m15 O_law_same_3 g_isinstance g_list g_tuple g_zip g_all g_len g_str g_bool g_int (Bk.ZT 3);have O_law_right:=CH (P:=l.prog) (w:=w) (base:=base) (k:=8) F23 b23 m23 O_is_net_5 (O_law_is_net_5.mono (by decide)) (O_law_lane_4.mono (by decide)) (O_led_4.mono (by decide)) (O_law_same_4.mono (by decide)) (O_led_back.mono (by decide)) g_str g_isinstance g_bool g_range RF;exact qi6 (k:=12) F24 (O_law_left.mono (by decide)) (O_law_pick.mono (by decide)) (O_law_order.mono (by decide)) (O_net_for.mono (by decide)) (O_law_net_4.mono (by decide)) (O_law_right.mono (by decide)) O_law_spoilt_9 g_len g_min g_range (qkM qio)
set_option maxRecDepth 100000 in
set_option maxHeartbeats 0 in
def qkk (w : World) (os : OsState) : PySem.W.topRun treeTable PySem.Challenge.pw_bankwalk_k60_whole_nets_spoilt_anywhere w 11 (some (Value.ref 6)) 2 (⟨qeJ w.params,197,{ },#[],{ },445,os⟩ : PySem.W.SharedT).abs (PySem.W.restOf [] qho X4 ⟨162,0,177,15⟩ qik) = some ⟨qfK w.params,#[],{ },445,os⟩ := by kernel_rfl
def qnn:(qef++(qdO++[]))=M7:=by kernel_rfl
set_option maxRecDepth 100000 in
set_option maxHeartbeats 0 in
def qf9 (w : World) (os : OsState) : PySem.W.topRun treeTable PySem.Challenge.pw_bankwalk_k60_whole_nets_spoilt_anywhere w 11 (some (Value.ref 6)) (12 + (1 + (608 + (577 + 2)))) ⟨PySem.W.boot_heap w.params,Array.mk [],PySem.W.boot_drawn,PySem.W.boot_toks,os⟩ (PySem.W.topStub PySem.Challenge.pw_bankwalk_k60_whole_nets_spoilt_anywhere) = some ⟨qfK w.params,#[],{ },445,os⟩ := by
 have h:=(PySem.W.piece_app (PySem.W.segRun_of (qkK w os)) (PySem.W.piece_app (PySem.W.segRun_of (qhg w os)) (qkk w os)))
 rw [qnn] at h;exact PySem.W.go_top (qiR w os) (PySem.W.piece_block (qj3 w os) h)
abbrev Q : Program := PySem.W.view PySem.Challenge.pw_bankwalk_k60_whole_nets_spoilt_anywhere [1,2,4,5,7,8,9,10,11,12,13,14,15,16,18,19,20,21,22,23,24,25,26,27,28,29,30]
set_option maxRecDepth 100000 in
set_option maxHeartbeats 0 in
def left : PySem.W.LeftO PySem.Challenge.pw_bankwalk_k60_whole_nets_spoilt_anywhere Q [] (λs => PySem.W.xlAt Q [] s && PySem.W.recOk [] s) (λs => ([3,20,21,27,28,57,58,64,65,71,72,76,77,83,84,90,91,95,96,100,101,105,106,112,113,119,120,126,127,133,134,138,139,143,144,150,151,155,156,162,163,169,170,176,177,183,184,188,189,195,196] : List Addr).map s.heap.get?) (λw => (Kf w.params).map λp => some p.2) 2492 :=
 PySem.W.LeftO.of_pieces (H₀:=PySem.W.boot_heap) (H₁:=qfK) (gs₀:=Array.mk []) (gs₁:=#[]) (d₀:=PySem.W.boot_drawn) (d₁:={ }) (k₀:=PySem.W.boot_toks) (k₁:=445) (m₀:=11) (ann:=some (Value.ref 6)) (M:=(12+(1+(608+(577+2)))))
  (PySem.W.boot_open (by kernel_rfl) (by kernel_rfl) (λs=>by kernel_rfl)) (λw=>by kernel_rfl) qf9 (by kernel_rfl) (λw=>by kernel_rfl)
end K60
open PySem PySem.W PyProof.Rows
set_option maxRecDepth 100000 in
set_option maxHeartbeats 0 in
theorem PySem.Challenge.cw_bankwalk_k60_whole_nets_spoilt_anywhere_holds : PySem.Challenge.rw_bankwalk_k60_whole_nets_spoilt_anywhere.Holds :=
 Hd.head (l := PySem.Challenge.rw_bankwalk_k60_whole_nets_spoilt_anywhere) (q := K60.Q) (loose := []) (K := K60.Kf) (as := [3,20,21,27,28,57,58,64,65,71,72,76,77,83,84,90,91,95,96,100,101,105,106,112,113,119,120,126,127,133,134,138,139,143,144,150,151,155,156,162,163,169,170,176,177,183,184,188,189,195,196]) (N := 2492) (k := 13) (x := "_law_script")
  (d:=⟨"law",L2.ZX K60.JS,L2.jg K60.JS,L2.qi K60.JS,⟨162,0,177,15⟩⟩) (λ_=>by kernel_rfl) (by kernel_rfl) K60.left (by kernel_rfl) (by kernel_rfl) (by kernel_rfl) (by kernel_rfl) (by kernel_rfl)
  ⟨rfl,rfl,rfl,rfl,rfl,by decide +kernel⟩ (by w_witness2) rfl (by kernel_rfl) ⟨rfl,by decide,by decide,rfl⟩ (λw=>by kernel_rfl) λw mg fa h KX G hmg=>K60.qh9 KX G hmg
