import PyProof.Rows.All
import Wide.All
import OpenK.AllK
import Wide.FinOn
import Lean
import PyProof.EqAt
import PyProof.EqKinds
import PyProof.TupleCall
import PyProof.NeKinds
import KE.KRevSl
import PyProof.FactsAll.bool_2
import PyProof.Rows.EqBoolInt
import PyProof.Rows.IntBool
import PySem.Challenge.RW_bankwalk_k15_words_of_walks
-- CHANGE: your row's module here,as the last of these rows
set_option Elab.async false
set_option genSizeOf false
set_option genInjectivity false
noncomputable section
abbrev Frg:=PySem.W.Frag
open List (getElem_cons_zero length_cons getElem?_cons_succ getElem_cons_succ getElem?_cons_zero length_nil set_cons_zero set_cons_succ length_map not_mem_nil mem_append_right map_cons mem_cons getElem?_set getElem?_map cons_append size_toArray getElem?_eq_getElem map_map mem_of_getElem? mem_map length_append getD_eq_getElem?_getD mem_range length_range)
def obb{α β:Type _}{o:Option α}{f:α->Option β}{b:β}(h:o.bind f=some b):∃a,o=some a/\f a=some b:=Option.bind_eq_some_iff.mp h
set_option linter.all false
set_option maxRecDepth 100000
namespace L2
open PySem PySem.Spec PyProof.Rows
abbrev Key:=Sum Int Str
def ql5:Key->Value->Bool
 |.inl k,v=>Value.isInt k v
 |.inr x,v=>Value.isStrOf x v
def qpJ (w:World):Key->Int
 |.inl k=>hashInt k
 |.inr x=>hashStr w x
def zu:∀ {k:Key} {v:Value},ql5 k v=true->(∃ i t,k=Sum.inl i/\v=Value.int i t)\/(∃ x t,k=Sum.inr x/\v=Value.str x t)
 |.inl i,v,h=>by
  obtain ⟨t,e⟩:=Value.isInt_shape (k:=i) (v:=v) h;exact .inl ⟨i,t,rfl,e⟩
 |.inr x,v,h=>by
  obtain ⟨t,e⟩:=Value.isStrOf_shape (x:=x) (v:=v) h;exact .inr ⟨x,t,rfl,e⟩
def qiF (a b:Int):decide ((Sum.inl a:Key)=Sum.inl b)=(a==b):=by
 by_cases e:a=b
 ·subst e;simp
 ·have h:¬ (Sum.inl a:Key)=Sum.inl b:=λq=>e (Sum.inl.inj q);rw [decide_eq_false h];exact (beq_eq_false_iff_ne.mpr e).symm
def qjE (a b:Str):decide ((Sum.inr a:Key)=Sum.inr b)=decide (a=b):=by
 by_cases e:a=b
 ·subst e;simp
 ·have h:¬ (Sum.inr a:Key)=Sum.inr b:=λq=>e (Sum.inr.inj q);rw [decide_eq_false h,decide_eq_false e]
def qkQ (a:Int) (b:Str):decide ((Sum.inl a:Key)=Sum.inr b)=false:=decide_eq_false (λq=>nomatch q)
def ql4 (a:Str) (b:Int):decide ((Sum.inr a:Key)=Sum.inl b)=false:=decide_eq_false (λq=>nomatch q)
def M5 (prog:Program) (w:World):PySem.KeyKind prog w Key where
 is:=ql5
 hash:=qpJ w
 inj:=λv a b ha hb=>by
  rcases zu ha with ⟨i,t,rfl,rfl⟩|⟨x,t,rfl,rfl⟩
  ·rcases zu hb with ⟨j,u,rfl,e⟩|⟨y,u,rfl,e⟩
   ·injection e with e1 _;rw [e1]
   ·exact nomatch e
  ·rcases zu hb with ⟨j,u,rfl,e⟩|⟨y,u,rfl,e⟩
   ·exact nomatch e
   ·injection e with e1 _;rw [e1]
 byValue:=λk v h=>by
  rcases zu h with ⟨i,t,rfl,rfl⟩|⟨x,t,rfl,rfl⟩<;>rfl
 pyHash:=λhv h=>by
  rcases zu hv with ⟨i,t,rfl,rfl⟩|⟨x,t,rfl,rfl⟩
  ·exact wpAny_pyHash_int h
  ·exact wpAny_pyHash_str h
 eqBool:=λhu hv h=>by
  rcases zu hu with ⟨i,t,rfl,rfl⟩|⟨x,t,rfl,rfl⟩
  ·rcases zu hv with ⟨j,u,rfl,rfl⟩|⟨y,u,rfl,rfl⟩
   ·rw [qiF] at h;exact wpAny_eqBool_int h
   ·rw [qkQ] at h;exact SeqAt.EqAt.int_str i t y u _ _ _ _ h
  ·rcases zu hv with ⟨j,u,rfl,rfl⟩|⟨y,u,rfl,rfl⟩
   ·rw [ql4] at h;exact SeqAt.EqAt.str_int x t j u _ _ _ _ h
   ·rw [qjE] at h;exact wpAny_eqBool_str h
 «strs»:=λk x t v h=>by
  rcases zu h with ⟨i,u,rfl,e⟩|⟨y,u,rfl,e⟩
  ·exact nomatch e
  ·injection e with e1 _;subst e1;cases v<;>rfl
set_option genInjectivity true in
inductive V where
 |non|bl (b:Bool)|int (i:Int)|str (x:Str)|byt (b:Array UInt8)|flt (b:UInt64)|ref (a:Addr)|ty (n:String)
 deriving DecidableEq
def jg:V->Value->Prop
 |.non,u=>u=Value.none
 |.bl b,u=>u=Value.bool b
 |.int i,u=>∃ t,u=Value.int i t
 |.str x,u=>∃ t,u=Value.str x t
 |.byt b,u=>∃ t,u=Value.bytes b t
 |.flt b,u=>∃ t,u=Value.float b t
 |.ref a,u=>u=Value.ref a
 |.ty n,u=>u=Value.type n
abbrev zQ:List V->List Value->Prop:=Paired jg
def zQ.length {xs:List V} {us:List Value} (r:zQ xs us):xs.length=us.length:=Paired.length r
def zQ.get:∀ {xs:List V} {us:List Value} {i:Nat} {x:V},zQ xs us->xs[i]?=some x->∃ u,us[i]?=some u/\jg x u
 |_,_,_,_,.nil,e=>by simp at e
 |_,_,0,_,.cons r _,e=>by simp at e;subst e;exact ⟨_,rfl,r⟩
 |_,_,i+1,x,.cons _ t,e=>by
  obtain ⟨u,h1,h2⟩:=zQ.get (i:=i) (x:=x) t (by simpa using e);exact ⟨u,by simpa using h1,h2⟩
def zQ.set {x:V} {u:Value} (r:jg x u):∀ {xs:List V} {us:List Value} (i:Nat),zQ xs us->zQ (xs.set i x) (us.set i u)
 |_,_,_,.nil=>.nil
 |_,_,0,.cons _ t=>.cons r t
 |_,_,i+1,.cons q t=>.cons q (zQ.set r i t)
def zQ.append:∀ {xs ys:List V} {us ws:List Value},zQ xs us->zQ ys ws->zQ (xs++ys) (us++ws)
 |_,_,_,_,.nil,s=>s
 |_,_,_,_,.cons r t,s=>.cons r (zQ.append t s)
def zQ.take:∀ {xs:List V} {us:List Value} (n:Nat),zQ xs us->zQ (xs.take n) (us.take n)
 |_,_,0,_=>.nil
 |_,_,_+1,.nil=>.nil
 |_,_,n+1,.cons r t=>.cons r (zQ.take n t)
def zQ.drop:∀ {xs:List V} {us:List Value} (n:Nat),zQ xs us->zQ (xs.drop n) (us.drop n)
 |_,_,0,r=>r
 |_,_,_+1,.nil=>.nil
 |_,_,n+1,.cons _ t=>zQ.drop n t
def qpa:Option V->Option Value->Prop
 |some v,some u=>jg v u
 |none,none=>True
 |_,_=>False
def KV {κ:Type}:List (κ×V)->List (κ×Value)->Prop:=Paired λ(p:κ×V) (q:κ×Value)=>p.1=q.1/\jg p.2 q.2
def kV:Key->V
 |.inl i=>.int i
 |.inr x=>.str x
inductive HO where
 /-- a list -/
 |lst (xs:List V)
 /-- a tuple (never changes) -/
 |tup (xs:List V)
 /-- a dict whose keys are ints and texts;one whose keys are tuples of ints and texts (the empty one is both) -/
 |dK (kvs:List (Key×V))|dT (kvs:List (List Key×V))
 /-- a set of ints: its members,its size -/
 |set (S:Int->Bool) (n:Nat)
 /-- an instance of the class at C,its dict at dx,its attributes -/
 |ins (C dx:Addr) (fs:List (Str×V))
 /-- the dict of the instance at x -/
 |own (x:Addr)
 /-- the dict of an exception -/
 |xd (fs:List (Str×V))
 /-- a bound method,f of x -/
 |met (f x:Addr)
 /-- a range object lo,lo+1,.. below hi -/
 |rng (lo hi:Int)
 /-- a thing that is known to the object (the script;a dict while a loop walks it): read,never written while it is so -/
 |frz (o:Obj) (u:HO)
 /-- a code object's table -/
 |tbl (ps:Array Value)
 /-- any other thing,by what is true of its one object (a def of one's own: SetO a S n:=HO.ext λh=>..) -/
 |ext (φ:Heap->Prop)
abbrev Hp:=Addr->Option HO
def upd (H:Hp) (a:Addr) (o:HO):Hp:=λb=>if b=a then some o else H b
def zg {H:Hp} {a:Addr} {o:HO}:upd H a o a=some o:=by unfold upd;rw [if_pos rfl]
def qz {H:Hp} {a b:Addr} {o:HO} (h:b≠a):upd H a o b=H b:=by unfold upd;rw [if_neg h]
def qF {H:Hp} {a b:Addr} {o:HO} (h:H a=some o) (h':H b=none):a≠b:=by
 intro e;subst e;rw [h] at h';cases h'
section
variable (P:Program) (w:World)
def QZ (H:Hp) (h:Heap) (a:Addr):HO->Prop
 |.lst xs=>xs.length<=sizeLine/\∃ (its:List Value) (n:Nat),zQ xs its/\h.get? a=some { cls:=.type "list",data:=.seq its.toArray n }
 |.tup xs=>xs.length<=sizeLine/\∃ its:List Value,zQ xs its/\IsTup h a its.toArray
 |.dK kvs=>kvs.length<=sizeLine/\(a==sysModules)=false/\∃ vs,KV kvs vs/\h.DictOf (M5 P w) a vs
 |.dT kvs=>kvs.length<=sizeLine/\(a==sysModules)=false/\∃ xs:List (List Key×Addr×Value),
   Paired (λ(p:List Key×V) (q:List Key×Addr×Value)=>p.1=q.1/\H q.2.1=some (.tup (p.1.map kV))/\jg p.2 q.2.2) kvs xs /\
   ∃ o es ep,h.get? a=some o/\o.ExactDict/\o.data=.dict es ep/\es.toList=xs.map (entryOfKey (tupleKind (M5 P w)))/\(xs.map (·.1)).Nodup
 |.set S n=>h.SetOf (intKind P w) a S n
 |.ins C dx fs=>H dx=some (.own a)/\fs.length<=1000/\dx≠a/\h.get? a=some (PySem.W.instObj C dx) /\
   ∃ mA,h.Ns1 dx mA/\(∀ f,qpa (fs.lookup f) (mA f))/\PySem.Within mA (fs.map (·.1))
 |.own _=>∃ o,h.get? a=some o
 |.xd fs=>∃ mA,h.Ns1 a mA/\∀ f,qpa (fs.lookup f) (mA f)
 |.rng lo hi=>∃ t u v,h.get? a=some { cls:=.type "range",data:=.fields #[.int lo t,.int hi u,.int 1 v] }
 |.frz o u=>h.get? a=some o/\QZ H h a u
 |.tbl ps=>h.get? a=some { cls:=.none,data:=.fields ps }
 |.met f x=>h.get? a=some (PySem.W.methodObj (.ref f) (.ref x))
 |.ext φ=>φ h/\(∃ o,h.get? a=some o)/\∀ h1 h2:Heap,φ h1->(∀ o,h1.get? a=some o->h2.get? a=some o)->φ h2
def HOk (H:Hp) (h:Heap):Prop:=∀ a o,H a=some o->QZ P w H h a o
end
section
variable {P:Program} {w:World} {H H':Hp} {h h':Heap} {a:Addr} {o:HO}
def QZ.lt (x:QZ P w H h a o):a<h.objs.size:=by
 cases o with
 |lst xs=>obtain ⟨_,_,_,_,e⟩:=x;exact Heap.lt_size e
 |tup xs=>obtain ⟨_,_,_,p⟩:=x;exact p.lt
 |dK kvs=>obtain ⟨_,_,_,_,o,_,_,e,_⟩:=x;exact Heap.lt_size e
 |dT kvs=>obtain ⟨_,_,_,_,o,_,_,e,_⟩:=x;exact Heap.lt_size e
 |set S n=>obtain ⟨o,_,_,_,e,_⟩:=x;exact Heap.lt_size e
 |ins C dx fs=>obtain ⟨_,_,_,e,_⟩:=x;exact Heap.lt_size e
 |own y=>obtain ⟨_,e⟩:=x;exact Heap.lt_size e
 |xd fs=>obtain ⟨_,⟨_,_,_,e,_⟩,_⟩:=x;exact Heap.lt_size e
 |rng lo hi=>obtain ⟨_,_,_,e⟩:=x;exact Heap.lt_size e
 |frz ob u=>obtain ⟨e,_⟩:=x;exact Heap.lt_size e
 |tbl ps=>exact Heap.lt_size (show h.get? a=some _ from x)
 |met f y=>exact Heap.lt_size (show h.get? a=some _ from x)
 |ext φ=>obtain ⟨_,⟨_,e⟩,_⟩:=x;exact Heap.lt_size e
def Paired.mapP {α β:Type} {F G:α->β->Prop}:∀ {l₁:List α} {l₂:List β},Paired F l₁ l₂->(∀ a b,F a b->G a b)->Paired G l₁ l₂
 |_,_,.nil,_=>.nil
 |_,_,.cons r t,f=>.cons (f _ _ r) (Paired.mapP t f)
def QZ.stay (x:QZ P w H h a o) (k:∀ b u,(b=a\/H b=some (.own a))->h.get? b=some u->h'.get? b=some u)
  (ho:∀ b,H b=some (.own a)->H' b=some (.own a)) (ht:∀ b xs,H b=some (.tup xs)->H' b=some (.tup xs)):QZ P w H' h' a o:=by
 induction o with
 |lst xs=>obtain ⟨z,its,n,r,e⟩:=x;exact ⟨z,its,n,r,k _ _ (.inl rfl) e⟩
 |tup xs=>obtain ⟨z,its,r,ob,e,c⟩:=x;exact ⟨z,its,r,ob,k _ _ (.inl rfl) e,c⟩
 |dK kvs=>obtain ⟨z,y,vs,r,ob,es,ep,e,c⟩:=x;exact ⟨z,y,vs,r,ob,es,ep,k _ _ (.inl rfl) e,c⟩
 |dT kvs=>
  obtain ⟨z,y,xs,r,ob,es,ep,e,c⟩:=x;exact ⟨z,y,xs,Paired.mapP r λp q z=>⟨z.1,ht _ _ z.2.1,z.2.2⟩,ob,es,ep,k _ _ (.inl rfl) e,c⟩
 |set S n=>obtain ⟨ob,es,ep,t,e,c⟩:=x;exact ⟨ob,es,ep,t,k _ _ (.inl rfl) e,c⟩
 |ins C dx fs=>
  obtain ⟨d,z,ne,e,mA,⟨od,es,ep,e2,c⟩,r⟩:=x;exact ⟨ho _ d,z,ne,k _ _ (.inl rfl) e,mA,⟨od,es,ep,k _ _ (.inr d) e2,c⟩,r⟩
 |own y=>obtain ⟨ob,e⟩:=x;exact ⟨ob,k _ _ (.inl rfl) e⟩
 |xd fs=>obtain ⟨mA,⟨od,es,ep,e,c⟩,r⟩:=x;exact ⟨mA,⟨od,es,ep,k _ _ (.inl rfl) e,c⟩,r⟩
 |rng lo hi=>obtain ⟨t,u,v,e⟩:=x;exact ⟨t,u,v,k _ _ (.inl rfl) e⟩
 |frz ob u ih=>obtain ⟨e,q⟩:=x;exact ⟨k _ _ (.inl rfl) e,ih q⟩
 |tbl ps=>
  have e:h.get? a=some { cls:=.none,data:=.fields ps }:=x;show h'.get? a=some { cls:=.none,data:=.fields ps };exact k a _ (.inl rfl) e
 |met f y=>
  have e:h.get? a=some (PySem.W.methodObj (.ref f) (.ref y)):=x;show h'.get? a=some (PySem.W.methodObj (.ref f) (.ref y));exact k a _ (.inl rfl) e
 |ext φ=>obtain ⟨p,⟨o,e⟩,st⟩:=x;exact ⟨st _ _ p λo q=>k _ _ (.inl rfl) q,⟨o,k _ _ (.inl rfl) e⟩,st⟩
def HOk.lt (x:HOk P w H h) (e:H a=some o):a<h.objs.size:=(x a o e).lt
def HOk.fresh (x:HOk P w H h) (e:h.objs.size<=a):H a=none:=by
 cases q:H a with
 |none=>rfl
 |some u=>exact absurd (Nat.lt_of_lt_of_le (x.lt q) e) (Nat.lt_irrefl _)
def HOk.kept (x:HOk P w H h) (k:∀ b u,h.get? b=some u->h'.get? b=some u):HOk P w H h':=λa o e=>
 (x a o e).stay (λb u _ q=>k b u q) (λ_ q=>q) λ_ _ q=>q
def HOk.laid (x:HOk P w H h) (k:∀ b u,h.get? b=some u->h'.get? b=some u) (hp:h.objs.size<=a) (new:QZ P w (upd H a o) h' a o):HOk P w (upd H a o) h':=λb u e=>by
 have hn:=x.fresh hp;by_cases hb:b=a
 ·subst hb;rw [zg] at e;cases e;exact new
 ·rw [qz hb] at e;exact (x b u e).stay (λc v _ q=>k c v q) (λc q=>by rw [qz (qF q hn)];exact q) λc xs q=>by rw [qz (qF q hn)];exact q
end
def Rd (H:Hp) (a:Addr) (u:HO):Prop:=H a=some u\/∃ o,H a=some (.frz o u)
def Rd.ok {P:Program} {w:World} {H:Hp} {h:Heap} {a:Addr} {u:HO} (r:Rd H a u) (x:HOk P w H h):QZ P w H h a u:=by
 rcases r with r|⟨o,r⟩
 ·exact x a u r
 ·obtain ⟨_,q⟩:=x a _ r;exact q
def Mut:Option HO->Prop
 |some (.lst _)=>True
 |some (.dK _)=>True
 |some (.dT _)=>True
 |some (.set _ _)=>True
 |some (.ins _ _ _)=>True
 |some (.ext _)=>True
 |_=>False
section
variable {P:Program} {w:World} {H:Hp} {h h':Heap} {x e:Addr} {o':HO}
def HOk.write (ok:HOk P w H h) (mu:Mut (H x)) (he:e=x\/H e=some (.own x)) (k:∀ b u,b≠e->h.get? b=some u->h'.get? b=some u) (heo:∃ u,h'.get? e=some u)
  (new:QZ P w (upd H x o') h' x o'):HOk P w (upd H x o') h':=λb u q=>by
 have nown:∀ c y,H c=some (.own y)->c≠x:=λc y r z=>by subst z;rw [r] at mu;exact mu
 have ntup:∀ c xs,H c=some (.tup xs)->c≠x:=λc xs r z=>by subst z;rw [r] at mu;exact mu
 by_cases hb:b=x
 ·subst hb;rw [zg] at q;cases q;exact new
 ·rw [qz hb] at q;by_cases hbe:b=e
  ·have q':H b=some (.own x):=by
    rcases he with z|z
    ·exact absurd (hbe.trans z) hb
    ·rw [hbe];exact z
   rw [q] at q';cases q';obtain ⟨v,hv⟩:=heo;exact ⟨v,by rw [hbe];exact hv⟩
  ·refine (ok b u q).stay (λc v hc r=>k c v ?_ r) (λc r=>by rw [qz (nown c b r)];exact r) λc xs r=>by rw [qz (ntup c xs r)];exact r
   rcases hc with rfl|hc
   ·exact hbe
   ·rintro rfl;rcases he with z|z
    ·exact nown c b hc z
    ·rw [hc] at z;cases z;exact hb rfl
end
structure Un (fs ex:List Addr) (H H':Hp) (h h':Heap):Prop where
 keep:∀ b o,h.get? b=some o->H b=none->b∉fs->b∉ex->h'.get? b=some o
 slot:∀ b o,h.get? b=some o->H b=none->b∈fs->b∉ex->∃ sl,h'.get? b=some { o with slots:=sl }
 free:∀ b o,h.get? b=some o->H b=none->b∉ex->H' b=none
 there:∀ b o,h.get? b=some o->b∉ex->∃ o',h'.get? b=some o'
 tups:∀ b xs,H b=some (.tup xs)->H' b=some (.tup xs)
 frzs:∀ b o u,H b=some (.frz o u)->H' b=some (.frz o u)
 tbls:∀ b ps,H b=some (.tbl ps)->∃ more,H' b=some (.tbl (ps++more))
section
variable {fs fs' ex ex':List Addr} {H H1 H2:Hp} {h h1 h2 h':Heap} {a x e:Addr} {o:HO}
def Un.any (u:Un fs ex H H1 h h1) {b:Addr} {ob:Obj} (q:h.get? b=some ob) (n:H b=none) (hx:b∉ex):∃ sl,h1.get? b=some { ob with slots:=sl }:=by
 by_cases hb:b∈fs
 ·exact u.slot b ob q n hb hx
 ·exact ⟨ob.slots,u.keep b ob q n hb hx⟩
def Un.kept (k:∀ b u,h.get? b=some u->h'.get? b=some u):Un fs ex H H h h':=
 ⟨λb ob q _ _ _=>k b ob q,λb ob q _ _ _=>⟨ob.slots,k b ob q⟩,λ_ _ _ n _=>n,λb ob q _=>⟨ob,k b ob q⟩,λ_ _ q=>q,λ_ _ _ q=>q,λ_ ps q=>⟨#[],by rw [q];simp⟩⟩
def Un.refl:Un fs ex H H h h:=Un.kept λ_ _ q=>q
def Un.laid (k:∀ b u,h.get? b=some u->h'.get? b=some u) (hp:h.objs.size<=a) (hn:H a=none):Un fs ex H (upd H a o) h h' where
 keep:=λb u q _ _ _=>k b u q
 slot:=λb u q _ _ _=>⟨u.slots,k b u q⟩
 free:=λb u q n _=>by rw [qz (Nat.ne_of_lt (Nat.lt_of_lt_of_le (Heap.lt_size q) hp))];exact n
 there:=λb u q _=>⟨u,k b u q⟩
 tups:=λb xs q=>by rw [qz (qF q hn)];exact q
 frzs:=λb u xs q=>by rw [qz (qF q hn)];exact q
 tbls:=λb ps q=>⟨#[],by rw [qz (qF q hn),q];simp⟩
def Un.write (mu:Mut (H x)) (he:e=x\/H e=some (.own x)) (k:∀ b u,b≠e->h.get? b=some u->h'.get? b=some u) (heo:∃ u,h'.get? e=some u):Un fs ex H (upd H x o) h h':=by
 have hx:∀ b,H b=none->b≠x:=λb n z=>by subst z;rw [n] at mu;exact mu
 have hb:∀ b,H b=none->b≠e:=λb n z=>by
  subst z;rcases he with r|r
  ·exact hx b n r
  ·rw [n] at r;cases r
 have hm:∀ b u,H b=some u->¬ Mut (some u)->b≠x:=λb u q nm z=>by subst z;rw [q] at mu;exact nm mu
 refine ⟨λb u q n _ _=>k b u (hb b n) q,λb u q n _ _=>⟨u.slots,k b u (hb b n) q⟩,λb u q n _=>by rw [qz (hx b n)];exact n,λb u q _=>?_,
  λb xs q=>by rw [qz (hm b _ q λz=>z)];exact q,λb u xs q=>by rw [qz (hm b _ q λz=>z)];exact q,λb ps q=>⟨#[],by rw [qz (hm b _ q λz=>z),q];simp⟩⟩
 by_cases hbe:b=e
 ·subst hbe;exact heo
 ·exact ⟨u,k b u hbe q⟩
end
def trk (h:Heap) (H:Hp):List Addr:=(List.range h.objs.size).filter λa=>(H a).isSome
def qb6 (h:Heap) (H:Hp):Heap:=PySem.W.hideAll h (trk h H)
def M2 (h:Heap) (H:Hp):(qb6 h H).objs.size=h.objs.size:=PySem.W.hideAll_size _ _
def qcf {h:Heap} {H:Hp} {b:Addr} {o:Obj} (e:h.get? b=some o) (n:H b=none):(qb6 h H).get? b=some o:=
 PySem.W.hideAll_get _ e λhm=>by
  have q:(H b).isSome=true:=(List.mem_filter.mp hm).2;rw [n] at q;simp at q
def qge {h:Heap} {H:Hp} {b:Addr} {o:Obj} (e:(qb6 h H).get? b=some o):h.get? b=some o/\H b=none:=by
 have e':h.get? b=some o:=PySem.W.of_hideAll (trk h H) e;refine ⟨e',?_⟩;cases q:H b with
 |none=>rfl
 |some x=>
  have hm:b∈trk h H:=List.mem_filter.mpr ⟨mem_range.mpr (Heap.lt_size e'),by simp [q]⟩;have z:(qb6 h H).get? b=none:=PySem.W.hideAll_none (trk h H) hm;rw [z] at e;cases e
def qfN (g h:Heap) (L:Addr):List (Addr×Obj):=(List.range h.objs.size).filterMap λa=>if a=L\/(g.get? a).isSome=true then none else (h.get? a).map λo=>(a,o)
def j8 (g h:Heap) (L d:Addr):List (Addr×Obj):=(qfN g h L).filter λp=>decide (p.1≠d)
structure Mod (K:Frg) (mg:Str->Option Value) (base:Heap):Prop where
 kin:K.In base
 glob:base.Ns mainGlobals mg
 blt:∃ mb,base.Ns builtinsNs mb/\∀ x:Str,x≠"__name__" -> mb x=bootBuiltins x
 nolimit:base.NoLimit
structure Cx where
 prog:Program
 w:World
 K:PySem.W.Frag
 mg:Str->Option Value
 base:Heap
 A:Around
 N:List Str
 s₀:Shared
 H₀:Hp
 env:Env
 outer:List Env
 stack:List Env
 ex:List Addr
 fn:Str->Bool
 calm:Bool
 pn:List (Addr×Obj)
 xe:Value->Shared->Prop
def frs (l:List Env):List Addr:=l.filterMap (·.frame)
abbrev Cx.fs (X:Cx):List Addr:=frs X.outer
def Vis (sc:Scope) (x:Str):Prop:=sc.names.lookup x=some .local\/sc.names.lookup x=some .cell\/sc.names.lookup x=some .free
def Loc (sc:Scope) (x:Str):Prop:=sc.names.lookup x=some .local\/sc.names.lookup x=some .cell
def qpm (env:Env) (h:Heap) (m:Str->Option Value) (x:Str) (u:Value):Prop:=
 (env.kindOf x=some .local/\m x=some u)\/((env.kindOf x=some .cell\/env.kindOf x=some .free)/\∃ c,env.cells.lookup x=some c/\h.IsCell c (some u))
structure Cx.Ok (X:Cx):Prop where
 mod:Mod X.K X.mg X.base
 kind:X.env.scope.kind=.function
 glob:X.env.globals=mainGlobals
 blt:X.env.builtins=builtinsNs
 above:X.s₀.heap.objs.size<=X.env.locals
 inj:∀ x y c,X.env.cells.lookup x=some c->X.env.cells.lookup y=some c->x=y
 has:∀ x,(X.env.kindOf x=some .cell\/X.env.kindOf x=some .free)->∃ c,X.env.cells.lookup x=some c
 cab:∀ x c,X.fn x=true->X.env.cells.lookup x=some c->X.s₀.heap.objs.size<=c
 hd:X.calm=true->X.A.handled=none
 frames:X.A.frames=some X.stack
 stk:X.stack=X.outer\/(X.stack=X.env::X.outer/\X.env.frame=some X.env.locals)
 exf:∀ b∈X.ex,b≠X.env.locals/\∀ x c,X.env.cells.lookup x=some c->c≠b
 bs:∀ b o,X.base.get? b=some o->X.s₀.heap.get? b=some o/\X.H₀ b=none
 bsz:X.base.objs.size<=X.s₀.heap.objs.size
 noex:∀ b o,X.base.get? b=some o->b∉X.ex
 exfs:∀ b∈X.ex,b∉X.fs
 funs:X.s₀.heap.FunFrames X.base X.outer
 frf:∀ b∈X.fs,X.H₀ b=none
structure Inv (X:Cx) (pins:List (Addr×Obj)) (σ:List (Option V)) (H:Hp) (s:Shared):Prop where
 ok:X.Ok
 os:s.os=X.s₀.os
 bare:AllBare s.gens
 base:Un X.fs X.ex X.H₀ H X.s₀.heap s.heap
 loc:∃ m,s.heap.Ns X.env.locals m/\∀ (i:Nat) (x:Str) (v:V),X.N[i]?=some x->σ[i]?=some (some v)->Vis X.env.scope x->∃ u,jg v u/\qpm X.env s.heap m x u
 cell:∀ x c,X.env.cells.lookup x=some c->∃ v,s.heap.IsCell c v
 free:H X.env.locals=none
 freeC:∀ x c,X.env.cells.lookup x=some c->H c=none
 pin:∀ p∈X.pn++pins,s.heap.get? p.1=some p.2/\H p.1=none/\p.1≠X.env.locals/\p.1∉X.fs/\∀ v,p.2.data≠.cell v
 hok:HOk X.prog X.w H s.heap
 len:σ.length=X.N.length
section
variable {X:Cx} {pins:List (Addr×Obj)} {σ:List (Option V)} {H H':Hp} {s:Shared} {h':Heap}
def Cx.Ok.nofr (ok:X.Ok) {b:Addr} {o:Obj} (e:X.base.get? b=some o):b∉X.fs:=λhb=>by
 have:=(ok.funs.mem hb).1;rw [e] at this;cases this
def Inv.bs (I:Inv X pins σ H s):∀ b o,X.base.get? b=some o->s.heap.get? b=some o/\H b=none:=λb o e=>
 ⟨I.base.keep b o (I.ok.bs b o e).1 (I.ok.bs b o e).2 (I.ok.nofr e) (I.ok.noex b o e),I.base.free b o (I.ok.bs b o e).1 (I.ok.bs b o e).2 (I.ok.noex b o e)⟩
def Inv.bk (I:Inv X pins σ H s):∀ b o,X.base.get? b=some o->s.heap.get? b=some o:=λb o e=>(I.bs b o e).1
def Inv.mod (I:Inv X pins σ H s):Mod X.K X.mg X.base:=I.ok.mod
def Inv.kIn (I:Inv X pins σ H s):X.K.In s.heap:=I.ok.mod.kin.keeps I.bk
def Inv.nolimit (I:Inv X pins σ H s):s.heap.NoLimit:=I.ok.mod.nolimit.keeps I.bk
def Inv.fr (I:Inv X pins σ H s):∃ m,Fr X.base X.env.locals s.heap m:=
 let ⟨m,hn,_⟩:=I.loc
 ⟨m,hn,I.bk,Nat.le_trans I.ok.bsz I.ok.above⟩
def Inv.lt (I:Inv X pins σ H s):X.env.locals<s.heap.objs.size:=let ⟨_,hn,_⟩:=I.loc;hn.lt
def Inv.sz (I:Inv X pins σ H s):X.s₀.heap.objs.size<=s.heap.objs.size:=Nat.le_trans I.ok.above (Nat.le_of_lt I.lt)
def Inv.nofs (I:Inv X pins σ H s) {a:Addr} (h:s.heap.objs.size<=a):a∉X.fs:=λhb=>by
 obtain ⟨_,o,ho,_⟩:=I.ok.funs.mem hb;exact absurd (Nat.lt_of_lt_of_le (Heap.lt_size ho) (Nat.le_trans I.sz h)) (Nat.lt_irrefl _)
def Inv.cne (I:Inv X pins σ H s):∀ x c,X.env.cells.lookup x=some c->c≠X.env.locals:=λx c e z=>by
 obtain ⟨v,o,ho,hd⟩:=I.cell x c e;obtain ⟨m,⟨o',es,ep,ho',hd',_⟩,_⟩:=I.loc;rw [z,ho'] at ho;cases ho;rw [hd'] at hd;cases hd
def Inv.funs (I:Inv X pins σ H s):s.heap.FunFrames X.base X.outer:=by
 have all:∀ (l:List Env),(∀ b∈frs l,b∈X.fs)->X.s₀.heap.FunFrames X.base l->s.heap.FunFrames X.base l:=by
  intro l;induction l with
  |nil=>intro _ _;trivial
  |cons env r ih=>
   intro hs hl;obtain ⟨hk,⟨L,o,hf,hn,ho,hd⟩,hr⟩:=hl;have hL:L∈X.fs:=hs L (by unfold frs;rw [List.filterMap_cons,hf];exact List.mem_cons_self);obtain ⟨sl,e⟩:=I.base.slot L o ho (I.ok.frf L hL) hL λz=>I.ok.exfs L z hL;exact ⟨hk,⟨L,_,hf,hn,e,hd⟩,ih (λb hb=>hs b (by unfold frs;rw [List.filterMap_cons,hf];exact List.mem_cons_of_mem _ hb)) hr⟩
 exact all X.outer (λ_ hb=>hb) I.ok.funs
def Inv.stack (I:Inv X pins σ H s):s.heap.FunFrames X.base X.stack:=by
 rcases I.ok.stk with e|⟨e,hf⟩
 ·rw [e];exact I.funs
 ·rw [e];obtain ⟨m,hn,_⟩:=I.loc;refine .cons (by rw [I.ok.kind];decide) hf hn ?_ I.funs;exact Heap.get?_none_of_le (Nat.le_trans I.ok.bsz I.ok.above)
def Inv.stkSub (I:Inv X pins σ H s):∀ b∈frs X.stack,b∈X.env.locals::X.fs:=λb hb=>by
 rcases I.ok.stk with e|⟨e,hf⟩
 ·rw [e] at hb;exact List.mem_cons_of_mem _ hb
 ·rw [e] at hb;unfold frs at hb;rw [List.filterMap_cons,hf] at hb;exact hb
def Inv.stkFree (I:Inv X pins σ H s):∀ b∈frs X.stack,H b=none:=λb hb=>by
 rcases mem_cons.mp (I.stkSub b hb) with e|hb
 ·rw [e];exact I.free
 ·obtain ⟨_,o,ho,_⟩:=I.ok.funs.mem hb;exact I.base.free b o ho (I.ok.frf b hb) λz=>I.ok.exfs b z hb
def Inv.step {g':Array GenState} {t':Nat} {d':Drawn} {ch:List Addr} (I:Inv X pins σ H s)
  (hch:∀ b∈ch,(b∈X.ex\/X.s₀.heap.objs.size<=b)/\b≠X.env.locals/\(∀ x c,X.env.cells.lookup x=some c->c≠b)/\∀ p∈X.pn++pins,p.1≠b)
  (keep:∀ b o,b≠X.env.locals->b∉X.fs->b∉ch->s.heap.get? b=some o->H b=none->h'.get? b=some o)
  (slot:∀ b o,b≠X.env.locals->b∈X.fs->b∉ch->s.heap.get? b=some o->H b=none->∃ sl,h'.get? b=some { o with slots:=sl }) (free:∀ b o,b∉ch->s.heap.get? b=some o->H b=none->H' b=none)
  (there:∀ b o,b∉ch->s.heap.get? b=some o->∃ o',h'.get? b=some o')
  (tups:∀ b xs,H b=some (.tup xs)->H' b=some (.tup xs)) (frzs:∀ b o u,H b=some (.frz o u)->H' b=some (.frz o u)) (tbls:∀ b ps,H b=some (.tbl ps)->∃ more,H' b=some (.tbl (ps++more)))
  (ns:∀ m,s.heap.Ns X.env.locals m->h'.Ns X.env.locals m) (hok:HOk X.prog X.w H' h') (hg:AllBare g') :
  Inv X pins σ H' { s with heap:=h',gens:=g',drawn:=d',toks:=t' }:=by
 have neL:∀ b o,X.s₀.heap.get? b=some o->b≠X.env.locals:=λb o e=>Nat.ne_of_lt (Nat.lt_of_lt_of_le (Heap.lt_size e) I.ok.above);have neC:∀ b o,X.s₀.heap.get? b=some o->b∉X.ex->b∉ch:=λb o e hx hb=>by
  rcases (hch b hb).1 with z|z
  ·exact hx z
  ·exact absurd (Nat.lt_of_lt_of_le (Heap.lt_size e) z) (Nat.lt_irrefl _)
 have cellK:∀ x c,X.env.cells.lookup x=some c->∀ v,s.heap.IsCell c v->h'.IsCell c v:=λx c e v ⟨o,ho,hd⟩=>by
  have nch:c∉ch:=λz=>(hch c z).2.2.1 x c e rfl;by_cases hc:c∈X.fs
  ·obtain ⟨sl,q⟩:=slot c o (I.cne x c e) hc nch ho (I.freeC x c e);exact ⟨_,q,hd⟩
  ·exact ⟨o,keep c o (I.cne x c e) hc nch ho (I.freeC x c e),hd⟩
 refine ⟨I.ok,I.os,hg,⟨λb o e n hb hx=>?_,λb o e n hb hx=>?_,λb o e n hx=>?_,λb o e hx=>?_,λb xs e=>tups b xs (I.base.tups b xs e),λb o xs e=>frzs b o xs (I.base.frzs b o xs e),λb ps e=>?_⟩,?_,λx c e=>?_,?_,λx c e=>?_,λp hp=>?_,hok,I.len⟩
 ·exact keep b o (neL b o e) hb (neC b o e hx) (I.base.keep b o e n hb hx) (I.base.free b o e n hx)
 ·obtain ⟨sl,e1⟩:=I.base.slot b o e n hb hx;obtain ⟨sl',e2⟩:=slot b _ (neL b o e) hb (neC b o e hx) e1 (I.base.free b o e n hx);exact ⟨sl',e2⟩
 ·obtain ⟨o',e1⟩:=I.base.there b o e hx;exact free b o' (neC b o e hx) e1 (I.base.free b o e n hx)
 ·obtain ⟨o',e1⟩:=I.base.there b o e hx;exact there b o' (neC b o e hx) e1
 ·obtain ⟨m1,e1⟩:=I.base.tbls b ps e;obtain ⟨m2,e2⟩:=tbls b _ e1;exact ⟨m1++m2,by rw [e2,Array.append_assoc]⟩
 ·obtain ⟨m,hn,hl⟩:=I.loc;refine ⟨m,ns m hn,λi x v e1 e2 e3=>?_⟩;obtain ⟨u,r,l⟩:=hl i x v e1 e2 e3;refine ⟨u,r,?_⟩;rcases l with l|⟨k,c,e,z⟩
  ·exact .inl l
  ·exact .inr ⟨k,c,e,cellK x c e _ z⟩
 ·obtain ⟨v,z⟩:=I.cell x c e;exact ⟨v,cellK x c e v z⟩
 ·obtain ⟨m,⟨o,_,_,ho,_⟩,_⟩:=I.loc;exact free _ o (λz=>(hch _ z).2.1 rfl) ho I.free
 ·obtain ⟨v,o,ho,hd⟩:=I.cell x c e;exact free c o (λz=>(hch c z).2.2.1 x c e rfl) ho (I.freeC x c e)
 ·obtain ⟨e,n,ne,nf,d⟩:=I.pin p hp;have nch:p.1∉ch:=λz=>(hch p.1 z).2.2.2 p hp rfl;exact ⟨keep p.1 p.2 ne nf nch e n,free p.1 p.2 nch e n,ne,nf,d⟩
def Inv.un {t':Nat} (I:Inv X pins σ H s) (u:Un X.fs [] H H' s.heap h') (hok:HOk X.prog X.w H' h'):Inv X pins σ H' { s with heap:=h',toks:=t' }:=by
 obtain ⟨m,⟨o,es,ep,ho,r⟩,_⟩:=id I.loc;obtain ⟨sl,hL⟩:=u.any ho I.free (by simp);exact I.step (g':=s.gens) (d':=s.drawn) (ch:=[]) (λ_ z=>nomatch z) (λb o _ hb _ e n=>u.keep b o e n hb (by simp)) (λb o _ hb _ e n=>u.slot b o e n hb (by simp)) (λb o _ e n=>u.free b o e n (by simp)) (λb o _ e=>u.there b o e (by simp)) u.tups u.frzs u.tbls (λm' hm=>by
  obtain ⟨o',es',ep',ho',r'⟩:=hm;rw [ho] at ho';cases ho';exact ⟨_,es',ep',hL,r'⟩) hok I.bare
def Inv.call {g':Array GenState} {t':Nat} {d':Drawn} {ch:List Addr} (I:Inv X pins σ H s) (u:Un (frs X.stack) ch H H' s.heap h') (hok:HOk X.prog X.w H' h') (hg:AllBare g')
  (hch:∀ b∈ch,(b∈X.ex\/X.s₀.heap.objs.size<=b)/\b≠X.env.locals/\(∀ x c,X.env.cells.lookup x=some c->c≠b)/\∀ p∈X.pn++pins,p.1≠b) :
  Inv X pins σ H' { s with heap:=h',gens:=g',drawn:=d',toks:=t' }:=by
 obtain ⟨m,⟨o,es,ep,ho,r⟩,_⟩:=id I.loc;obtain ⟨sl,hL⟩:=u.any ho I.free λz=>(hch _ z).2.1 rfl;exact I.step (ch:=ch) hch (λb o hL hb hc e n=>u.keep b o e n (λz=>(mem_cons.mp (I.stkSub b z)).elim hL hb) hc) (λb o _ _ hc e n=>u.any e n hc) (λb o hc e n=>u.free b o e n hc) (λb o hc e=>u.there b o e hc) u.tups u.frzs u.tbls (λm' hm=>by
  obtain ⟨o',es',ep',ho',r'⟩:=hm;rw [ho] at ho';cases ho';exact ⟨_,es',ep',hL,r'⟩) hok hg
def Inv.turned {t':Nat} {it:Addr} (I:Inv X pins σ H s) (k:∀ b o,b≠it->s.heap.get? b=some o->h'.get? b=some o) (hn:H it=none) (hL:it≠X.env.locals)
  (h1:it∈X.ex\/X.s₀.heap.objs.size<=it) (h2:∀ x c,X.env.cells.lookup x=some c->c≠it) (h3:∀ p∈X.pn++pins,p.1≠it):Inv X pins σ H { s with heap:=h',toks:=t' }:=by
 have nit:∀ b u,H b=some u->b≠it:=λb u e z=>by rw [z,hn] at e;cases e
 refine I.step (g':=s.gens) (d':=s.drawn) (ch:=[it]) (λb hb=>?_) (λb o _ _ hc e _=>k b o (λz=>hc (by simp [z])) e) (λb o _ _ hc e _=>⟨o.slots,k b o (λz=>hc (by simp [z])) e⟩) (λ_ _ _ _ n=>n)
  (λb o hc e=>⟨o,k b o (λz=>hc (by simp [z])) e⟩) (λ_ _ e=>e) (λ_ _ _ e=>e) (λb ps e=>⟨#[],by rw [e];simp⟩) (λm hm=>?_) (λb u e=>?_) I.bare
 ·have e:b=it:=by simpa using hb
  subst e;exact ⟨h1,hL,h2,h3⟩
 ·obtain ⟨o,es,ep,ho,r⟩:=hm;exact ⟨o,es,ep,k _ o (Ne.symm hL) ho,r⟩
 ·refine (I.hok b u e).stay (λc v hc q=>k c v ?_ q) (λ_ q=>q) λ_ _ q=>q;rcases hc with z|z
  ·rw [z];exact nit b u e
  ·exact nit c _ z
def Inv.tok (I:Inv X pins σ H s) (t:Nat):Inv X pins σ H { s with toks:=t }:=I.un (h':=s.heap) (t':=t) Un.refl I.hok
def Inv.kept {t':Nat} (I:Inv X pins σ H s) (k:∀ b u,s.heap.get? b=some u->h'.get? b=some u):Inv X pins σ H { s with heap:=h',toks:=t' }:=I.un (Un.kept k) (I.hok.kept k)
def Inv.laid {a:Addr} {o:HO} {t':Nat} (I:Inv X pins σ H s) (k:∀ b u,s.heap.get? b=some u->h'.get? b=some u) (hp:s.heap.objs.size<=a) (new:QZ X.prog X.w (upd H a o) h' a o) :
  Inv X pins σ (upd H a o) { s with heap:=h',toks:=t' }:=I.un (Un.laid k hp (I.hok.fresh hp)) (I.hok.laid k hp new)
def Inv.write {x e:Addr} {o:HO} {t':Nat} (I:Inv X pins σ H s) (mu:Mut (H x)) (he:e=x\/H e=some (.own x)) (k:∀ b u,b≠e->s.heap.get? b=some u->h'.get? b=some u) (heo:∃ u,h'.get? e=some u)
  (new:QZ X.prog X.w (upd H x o) h' x o):Inv X pins σ (upd H x o) { s with heap:=h',toks:=t' }:=I.un (Un.write mu he k heo) (I.hok.write mu he k heo new)
def Inv.pins_of {pins':List (Addr×Obj)} (I:Inv X pins σ H s) (h:∀ p∈pins',s.heap.get? p.1=some p.2/\H p.1=none/\p.1≠X.env.locals/\p.1∉X.fs/\∀ v,p.2.data≠.cell v):Inv X pins' σ H s:=
 ⟨I.ok,I.os,I.bare,I.base,I.loc,I.cell,I.free,I.freeC,λp hp=>(List.mem_append.mp hp).elim (λz=>I.pin p (List.mem_append_left _ z)) (h p),I.hok,I.len⟩
def K5 {N:List Str} (hN:N.Nodup) {i j:Nat} {x:Str} (a:N[i]?=some x) (b:N[j]?=some x):i=j:=by
 obtain ⟨h1,e1⟩:=List.getElem?_eq_some_iff.mp a;obtain ⟨h2,e2⟩:=List.getElem?_eq_some_iff.mp b;exact (List.getElem_inj hN).mp (e1.trans e2.symm)
def R9 {M:Model} {A:Around} {E:Value->Shared->Prop} {i:Nat} {x:Str} {v:V} {u:Value} {Q:Unit->Shared->Prop} (I:Inv X pins σ H s) (hN:X.N.Nodup) (hi:X.N[i]?=some x) (hx:Loc X.env.scope x) (r:jg v u)
  (h:∀ s',Inv X pins (σ.set i (some v)) H s'->(∃ a,Heap.SameBut a s.heap s'.heap/\(a=X.env.locals\/X.env.cells.lookup x=some a))->Q () s') (hf:X.fn x=true\/X.env.scope.names.lookup x=some .local:=by first|exact .inl rfl|exact .inr rfl|assumption):wpAny M A (storeName X.env x u) Q E s:=by
 obtain ⟨m,hn,hl⟩:=id I.loc;have hcls:(X.env.scope.kind==.class||(X.env.scope.kind==.module&&X.env.locals != X.env.globals))=false:=by rw [I.ok.kind];rfl
 have hiσ:i<σ.length:=by rw [I.len];exact (List.getElem?_eq_some_iff.mp hi).1
 have cne:=I.cne;have tracked:∀ {a:Addr} {h':Heap},(∃ o,s.heap.get? a=some o/\H a=none)->Heap.SameBut a s.heap h'->HOk X.prog X.w H h':=λ{a h'} ha hs b ob e=>by
  obtain ⟨_,_,hfree⟩:=ha;refine (I.hok b ob e).stay (λc w' hc q=>(hs.2 c ?_).trans q) (λ_ q=>q) λ_ _ q=>q;rintro rfl;rcases hc with rfl|hc
  ·rw [hfree] at e;cases e
  ·rw [hfree] at hc;cases hc
 rcases hx with hk|hk
 ·refine wpAny_storeName_local hk hn (λh' hn' hs=>?_) hcls;obtain ⟨oL,_,_,hoL,_⟩:=id hn;refine h _ ⟨I.ok,I.os,I.bare,⟨λb o e n hb hx=>?_,λb o e n hb hx=>?_,I.base.free,λb o e hx=>?_,I.base.tups,I.base.frzs,I.base.tbls⟩,⟨_,hn',λj y v' e1 e2 e3=>?_⟩,λy c e=>?_,I.free,I.freeC,λp hp=>?_,tracked ⟨oL,hoL,I.free⟩ hs,by simpa using I.len⟩ ⟨_,hs,.inl rfl⟩
  ·exact (hs.2 b (Nat.ne_of_lt (Nat.lt_of_lt_of_le (Heap.lt_size e) I.ok.above))).trans (I.base.keep b o e n hb hx)
  ·obtain ⟨sl,e1⟩:=I.base.slot b o e n hb hx;exact ⟨sl,(hs.2 b (Nat.ne_of_lt (Nat.lt_of_lt_of_le (Heap.lt_size e) I.ok.above))).trans e1⟩
  ·obtain ⟨o',e1⟩:=I.base.there b o e hx;exact ⟨o',(hs.2 b (Nat.ne_of_lt (Nat.lt_of_lt_of_le (Heap.lt_size e) I.ok.above))).trans e1⟩
  ·by_cases hj:j=i
   ·subst hj;rw [hi] at e1;cases e1;rw [List.getElem?_set_self hiσ] at e2;cases e2;exact ⟨u,r,.inl ⟨hk,by simp⟩⟩
   ·rw [List.getElem?_set_ne (Ne.symm hj)] at e2;obtain ⟨u',r',q⟩:=hl j y v' e1 e2 e3;refine ⟨u',r',?_⟩;rcases q with ⟨k,e⟩|⟨k,c,e,z⟩
    ·refine .inl ⟨k,?_⟩;have:y≠x:=λe=>hj (K5 hN e1 (e▸hi));simp [this,e]
    ·exact .inr ⟨k,c,e,z.sameBut hs (cne y c e)⟩
  ·obtain ⟨w',z⟩:=I.cell y c e;exact ⟨w',z.sameBut hs (cne y c e)⟩
  ·obtain ⟨e,n,ne,nf,d⟩:=I.pin p hp;exact ⟨(hs.2 p.1 ne).trans e,n,ne,nf,d⟩
 ·have hfn:X.fn x=true:=by
   rcases hf with z|z
   ·exact z
   ·rw [z] at hk;cases hk
  obtain ⟨c,hc⟩:=I.ok.has x (.inl hk);obtain ⟨w',z⟩:=I.cell x c hc;refine wpAny_storeName_cell I.ok.kind hk hc z (λh' hc' hs=>?_);obtain ⟨oc,hoc,hocd⟩:=id z;refine h { s with heap:=h' } ⟨I.ok,I.os,I.bare,⟨λb o e n hb hx=>?_,λb o e n hb hx=>?_,I.base.free,λb o e hx=>?_,I.base.tups,I.base.frzs,I.base.tbls⟩,⟨m,hn.sameBut hs (Ne.symm (cne x c hc)),λj y v' e1 e2 e3=>?_⟩,λy c' e=>?_,I.free,I.freeC,λp hp=>?_,tracked ⟨oc,hoc,I.freeC x c hc⟩ hs,by simpa using I.len⟩ ⟨c,hs,.inr hc⟩
  ·exact (hs.2 b (Nat.ne_of_lt (Nat.lt_of_lt_of_le (Heap.lt_size e) (I.ok.cab x c hfn hc)))).trans (I.base.keep b o e n hb hx)
  ·obtain ⟨sl,e1⟩:=I.base.slot b o e n hb hx;exact ⟨sl,(hs.2 b (Nat.ne_of_lt (Nat.lt_of_lt_of_le (Heap.lt_size e) (I.ok.cab x c hfn hc)))).trans e1⟩
  ·obtain ⟨o',e1⟩:=I.base.there b o e hx;exact ⟨o',(hs.2 b (Nat.ne_of_lt (Nat.lt_of_lt_of_le (Heap.lt_size e) (I.ok.cab x c hfn hc)))).trans e1⟩
  ·by_cases hj:j=i
   ·subst hj;rw [hi] at e1;cases e1;rw [List.getElem?_set_self hiσ] at e2;cases e2;exact ⟨u,r,.inr ⟨.inl hk,c,hc,hc'⟩⟩
   ·rw [List.getElem?_set_ne (Ne.symm hj)] at e2;obtain ⟨u',r',q⟩:=hl j y v' e1 e2 e3;refine ⟨u',r',?_⟩;rcases q with q|⟨k,c',e,z'⟩
    ·exact .inl q
    ·refine .inr ⟨k,c',e,z'.sameBut hs ?_⟩;rintro rfl;exact hj (K5 hN e1 (I.ok.inj _ _ _ e hc▸hi))
  ·by_cases hcc:c'=c
   ·subst hcc;exact ⟨_,hc'⟩
   ·obtain ⟨w2,z2⟩:=I.cell y c' e;exact ⟨w2,z2.sameBut hs hcc⟩
  ·obtain ⟨e,n,ne,nf,d⟩:=I.pin p hp;refine ⟨(hs.2 p.1 ?_).trans e,n,ne,nf,d⟩;intro q;rw [q,hoc] at e;have q':oc=p.2:=Option.some.inj e;exact d w' (by rw [← q'];exact hocd)
def Y0 {M:Model} {A:Around} {E:Value->Shared->Prop} {i:Nat} {x:Str} {v:V} {u:Value} {Q:Unit->Shared->Prop} (I:Inv X pins σ H s) (hN:X.N.Nodup) (hi:X.N[i]?=some x) (hx:Loc X.env.scope x) (r:jg v u)
  (h:∀ s',Inv X pins (σ.set i (some v)) H s'->Q () s') (hf:X.fn x=true\/X.env.scope.names.lookup x=some .local:=by first|exact .inl rfl|exact .inr rfl|assumption):wpAny M A (storeName X.env x u) Q E s:=
 R9 I hN hi hx r (λs' I' _=>h s' I') hf
def Inv.call' {s':Shared} {ch:List Addr} (I:Inv X pins σ H s) (ho:s'.os=s.os) (u:Un (frs X.stack) ch H H' s.heap s'.heap) (hok:HOk X.prog X.w H' s'.heap) (hg:AllBare s'.gens)
  (hch:∀ b∈ch,(b∈X.ex\/X.s₀.heap.objs.size<=b)/\b≠X.env.locals/\(∀ x c,X.env.cells.lookup x=some c->c≠b)/\∀ p∈X.pn++pins,p.1≠b):Inv X pins σ H' s':=by
 obtain ⟨h',g',d',t',o'⟩:=s';have e:o'=s.os:=ho;subst e;exact I.call (g':=g') (t':=t') (d':=d') u hok hg hch
end
abbrev XK:=Value->Option Addr->Hp->Prop
abbrev St:=List (Option V)
abbrev VK:=V->Hp->Prop
abbrev TE:=St->Hp->VK->Prop
abbrev TT:=St->Hp->(Bool->Hp->Prop)->Prop
abbrev TA:=St->Hp->(List V->Hp->Prop)->Prop
structure Ends where
 nx:St->Hp->Prop
 rt:VK
 bk:St->Hp->Prop:=λ_ _=>False
 ct:St->Hp->Prop:=λ_ _=>False
abbrev TS:=Ends->St->Hp->Prop
def EP (X:Cx) (pins:List (Addr×Obj)) (σ:St) (Q:VK) (u:Value) (s':Shared):Prop:=∃ v H',Inv X pins σ H' s'/\jg v u/\Q v H'
def TP (X:Cx) (pins:List (Addr×Obj)) (σ:St) (Q:Bool->Hp->Prop) (b:Bool) (s':Shared):Prop:=∃ H',Inv X pins σ H' s'/\Q b H'
def AP (X:Cx) (pins:List (Addr×Obj)) (σ:St) (Q:List V->Hp->Prop) (us:List Value) (s':Shared):Prop:=∃ vs H',Inv X pins σ H' s'/\zQ vs us/\Q vs H'
def SP (X:Cx) (pins:List (Addr×Obj)) (D:Ends) (f:Flow) (s':Shared):Prop:=
 match f with
 |.next=>∃ σ' H',Inv X pins σ' H' s'/\D.nx σ' H'
 |.brk=>∃ σ' H',Inv X pins σ' H' s'/\D.bk σ' H'
 |.cont=>∃ σ' H',Inv X pins σ' H' s'/\D.ct σ' H'
 |.ret u=>∃ v σ' H',Inv X pins σ' H' s'/\jg v u/\D.rt v H'
def PE (X:Cx) (e:Expr) (t:TE):Prop:=
 ∀ (pins:List (Addr×Obj)) (s:Shared) (σ:St) (H:Hp) (Q:VK),Inv X pins σ H s->t σ H Q->wpAny (model X.prog X.w) X.A (eval e X.env) (EP X pins σ Q) X.xe s
def PT (X:Cx) (e:Expr) (t:TT):Prop:=
 ∀ (pins:List (Addr×Obj)) (s:Shared) (σ:St) (H:Hp) (Q:Bool->Hp->Prop),Inv X pins σ H s->t σ H Q->wpAny (model X.prog X.w) X.A (isTrue e X.env (eval e X.env)) (TP X pins σ Q) X.xe s
def PW (X:Cx) (e:Expr) (t:TT):Prop:=
 ∀ (whole:Sem Value) (pins:List (Addr×Obj)) (s:Shared) (σ:St) (H:Hp) (Q:Bool->Hp->Prop),Inv X pins σ H s->t σ H Q->wpAny (model X.prog X.w) X.A (isTrue e X.env whole) (TP X pins σ Q) X.xe s
def PW.pt {X:Cx} {e:Expr} {t:TT} (h:PW X e t):PT X e t:=h _
def PA (X:Cx) (es:List Expr) (t:TA):Prop:=
 ∀ (pos:Pos) (pins:List (Addr×Obj)) (s:Shared) (σ:St) (H:Hp) (Q:List V->Hp->Prop),Inv X pins σ H s->t σ H Q->wpAny (model X.prog X.w) X.A (spliced (backTo pos (starEach es X.env))) (AP X pins σ Q) X.xe s
def PS (X:Cx) (st:Stmt) (t:TS):Prop:=
 ∀ (pins:List (Addr×Obj)) (s:Shared) (σ:St) (H:Hp) (D:Ends),Inv X pins σ H s->t D σ H->wpAny (model X.prog X.w) X.A (exec st X.env) (SP X pins D) X.xe s
def PSs (X:Cx) (st:List Stmt) (t:TS):Prop:=
 ∀ (pins:List (Addr×Obj)) (s:Shared) (σ:St) (H:Hp) (D:Ends),Inv X pins σ H s->t D σ H->wpAny (model X.prog X.w) X.A (execs st X.env) (SP X pins D) X.xe s
def thn {α:Type} {t:Sem α} {Q Q':α->Shared->Prop} {M:Model} {A:Around} {E:Value->Shared->Prop} {s:Shared} (h:wpAny M A t Q E s) (hQ:∀ a s,Q a s->Q' a s):wpAny M A t Q' E s:=wpAny_mono h hQ λ_ _ x=>x
section
variable {X:Cx}
def qpM (i:Nat):TE:=λσ H Q=>∃ v,σ[i]?=some (some v)/\Q v H
def tC (v:V):TE:=λ_ H Q=>Q v H
def qjD {i:Nat} {x:Str} {pos:Pos} (hN:X.N[i]?=some x) (hv:Vis X.env.scope x) (hd:(x==("__debug__" : Str))=false:=by decide) (hcd:(x==("__classdict__" : Str))=false:=by decide):PE X (.Name x pos) (qpM i):=by
 intro pins s σ H Q I h;obtain ⟨v,e,h⟩:=h;obtain ⟨m,hn,hl⟩:=I.loc;obtain ⟨u,r,l⟩:=hl i x v hN e hv;have fin:EP X pins σ Q u s:=⟨v,H,I,r,h⟩
 rcases l with ⟨hk,hm⟩|⟨hk,c,hc,hcell⟩
 ·exact wpAny_Name (wpAny_loadName_local I.ok.kind hk hn hm fin) hd
 ·rcases hk with hk|hk
  ·exact wpAny_Name (wpAny_loadName_cell I.ok.kind hk hc hcell fin) hd
  ·exact wpAny_Name (wpAny_loadName_free I.ok.kind hk hc hcell fin hcd) hd
def qlr {i j pos}:PE X (.Constant (.int i) j pos) (tC (.int i)):=λ_ _ _ H _ I h=>wpAny_Constant_int ⟨.int i,H,I.tok _,⟨_,rfl⟩,h⟩
def qoe {b j pos}:PE X (.Constant (.bool b) j pos) (tC (.bl b)):=λ_ _ _ H _ I h=>Constant_bool ⟨.bl b,H,I,rfl,h⟩
def qie {j pos}:PE X (.Constant .none j pos) (tC .non):=λ_ _ _ H _ I h=>Constant_none ⟨.non,H,I,rfl,h⟩
def qdu {x j pos}:PE X (.Constant (.str x) j pos) (tC (.str x)):=λ_ _ _ H _ I h=>Calls.Constant_str ⟨.str x,H,I.tok _,⟨_,rfl⟩,h⟩
def Gl (X:Cx) (x:Str):Prop:=X.env.kindOf x=some .globalImplicit
def DU {E:Value->Shared->Prop} {pins:List (Addr×Obj)} {s:Shared} {σ:St} {H:Hp} {x:Str} {u:Value} {pos:Pos} {Q:Value->Shared->Prop} (I:Inv X pins σ H s) (hg:Gl X x) (hm:X.mg x=some u) (h:Q u s)
  (hd:(x==("__debug__" : Str))=false:=by decide):wpAny (model X.prog X.w) X.A (eval (.Name x pos) X.env) Q E s:=
 Calls.Name_function_global I.ok.kind hg (Calls.loadGlobal_global (by rw [I.ok.glob];exact I.mod.glob.keeps I.bk) hm h) hd
def WW {E:Value->Shared->Prop} {pins:List (Addr×Obj)} {s:Shared} {σ:St} {H:Hp} {x:Str} {u:Value} {pos:Pos} {Q:Value->Shared->Prop} (I:Inv X pins σ H s) (hg:Gl X x) (hm:X.mg x=none) (hv:bootBuiltins x=some u) (h:Q u s)
  (hn:x≠"__name__" := by decide) (hd:(x==("__debug__" : Str))=false:=by decide):wpAny (model X.prog X.w) X.A (eval (.Name x pos) X.env) Q E s:=by
 obtain ⟨mb,h1,h2⟩:=I.mod.blt;exact Calls.Name_function_global I.ok.kind hg (Calls.loadGlobal_builtin (by rw [I.ok.glob];exact I.mod.glob.keeps I.bk) hm (by rw [I.ok.blt];exact h1.keeps I.bk) ((h2 x hn).trans hv) h) hd
def qac {x:Str} {v:V} {u:Value} {pos:Pos} (hg:Gl X x) (hm:X.mg x=some u) (r:jg v u) (hd:(x==("__debug__" : Str))=false:=by decide):PE X (.Name x pos) (tC v):=
 λ_ _ _ H _ I h=>DU I hg hm ⟨v,H,I,r,h⟩ hd
def NS {x:Str} {v:V} {u:Value} {pos:Pos} (hg:Gl X x) (hm:X.mg x=none) (hv:bootBuiltins x=some u) (r:jg v u) (hn:x≠"__name__" := by decide) (hd:(x==("__debug__" : Str))=false:=by decide):PE X (.Name x pos) (tC v):=
 λ_ _ _ H _ I h=>WW I hg hm hv ⟨v,H,I,r,h⟩ hn hd
variable {a b:Expr} {ta tb:TE} {pos:Pos}
def tB (t:TE):TT:=λσ H Q=>t σ H λx H1=>∃ c,x=.bl c/\Q c H1
def qh4 {e:Expr} {t:TE} (h:PE X e t) (he:∀ whole,isTrue e X.env whole=(do let v←whole;standAt e.pos;holding [v] (truthy v)):=by intro _;rfl):PT X e (tB t):=by
 intro pins s σ H Q I hw;refine isTrue_plain (thn (h pins s σ H _ I hw) λv s1 ⟨x,H1,I1,r1,q1⟩=>?_) (he _);obtain ⟨d,rfl,q⟩:=q1;cases r1;exact wpAny_truthy_bool ⟨H1,I1,q⟩
variable {tA tB':TT} {j8:List Expr}
def qpY (t u:TT):TT:=λσ H Q=>t σ H λc H1=>if c=true then u σ H1 Q else Q false H1
def tOr (t u:TT):TT:=λσ H Q=>t σ H λc H1=>if c=true then Q true H1 else u σ H1 Q
def qpr (t:TT):TT:=λσ H Q=>t σ H λc H1=>Q (!c) H1
def qf2 (ha:PT X a tA):PW X (.BoolOp .And [a] pos) tA:=by
 intro wh pins s σ H Q I h;refine isTrue_and (thn (ha pins s σ H Q I h) λc s1 e=>?_);cases c with
 |true=>exact isTrue_and_nil e
 |false=>exact e
def qkL (ha:PT X a tA):PW X (.BoolOp .Or [a] pos) tA:=by
 intro wh pins s σ H Q I h;refine isTrue_or (thn (ha pins s σ H Q I h) λc s1 e=>?_);cases c with
 |false=>exact isTrue_or_nil e
 |true=>exact e
def qk6 (ha:PT X a tA) (hb:PW X (.BoolOp .And (b::j8) pos) tB'):PW X (.BoolOp .And (a::b::j8) pos) (qpY tA tB'):=by
 intro wh pins s σ H Q I h;refine isTrue_and (thn (ha pins s σ H _ I h) λc s1 ⟨H1,I1,q1⟩=>?_);cases c with
 |true=>exact hb wh pins s1 σ H1 Q I1 q1
 |false=>exact ⟨H1,I1,q1⟩
def qom (ha:PT X a tA) (hb:PW X (.BoolOp .Or (b::j8) pos) tB'):PW X (.BoolOp .Or (a::b::j8) pos) (tOr tA tB'):=by
 intro wh pins s σ H Q I h;refine isTrue_or (thn (ha pins s σ H _ I h) λc s1 ⟨H1,I1,q1⟩=>?_);cases c with
 |true=>exact ⟨H1,I1,q1⟩
 |false=>exact hb wh pins s1 σ H1 Q I1 q1
def qjP (ha:PT X a tA):PT X (.UnaryOp .Not a pos) (qpr tA):=by
 intro pins s σ H Q I h;exact isTrue_not (ha pins s σ H (λc H1=>Q (!c) H1) I h)
def qnt (ta tb:TE):TE:=λσ H Q=>ta σ H λx H1=>∃ c,x=.bl c/\if c=true then tb σ H1 Q else Q (.bl false) H1
def qmZ (ta:TE):TE:=λσ H Q=>ta σ H λx H1=>∃ c,x=.bl c/\Q (.bl (!c)) H1
def qjB {op} {t:TE} (h:PE X a t):PE X (.BoolOp op [a] pos) t:=λpins s σ H Q I hw=>BoolOp_one (h pins s σ H Q I hw)
def qlN (ha:PE X a ta) (hb:PE X (.BoolOp .And (b::j8) pos) tb):PE X (.BoolOp .And (a::b::j8) pos) (qnt ta tb):=by
 intro pins s σ H Q I h;refine BoolOp_and (thn (ha pins s σ H _ I h) λv s1 ⟨x,H1,I1,r1,q1⟩=>?_);obtain ⟨c,rfl,q1⟩:=q1;cases r1;refine wpAny_truthy_bool ?_;cases c with
 |true=>exact hb pins s1 σ H1 Q I1 q1
 |false=>exact ⟨.bl false,H1,I1,rfl,q1⟩
def qiL (ha:PE X a ta):PE X (.UnaryOp .Not a pos) (qmZ ta):=by
 intro pins s σ H Q I h;refine UnaryOp_ (thn (ha pins s σ H _ I h) λv s1 ⟨x,H1,I1,r1,q1⟩=>?_);obtain ⟨c,rfl,q1⟩:=q1;cases r1;exact not_of (wpAny_truthy_bool ⟨.bl (!c),H1,I1,rfl,q1⟩)
def tIf (t:TT) (ta tb:TE):TE:=λσ H Q=>t σ H λc H1=>if c=true then ta σ H1 Q else tb σ H1 Q
def qb1 {c:Expr} (hc:PT X c tA) (ha:PE X a ta) (hb:PE X b tb):PE X (.IfExp c a b pos) (tIf tA ta tb):=by
 intro pins s σ H Q I h;refine wpAny_IfExp (thn (hc pins s σ H _ I h) λd s1 ⟨H1,I1,q1⟩=>?_);cases d with
 |true=>exact ha pins s1 σ H1 Q I1 q1
 |false=>exact hb pins s1 σ H1 Q I1 q1
end
def SqL (K:Frg) (H:Hp) (a:Addr) (xs:List V):Prop:=
 Rd H a (.lst xs) ∨
  ∃ (o:Obj) (its:Array Value) (n:Nat),K.lookup a=some o/\o.cls=.type "list"/\o.dict=none/\o.data=.seq its n/\its.size<=sizeLine/\zQ xs its.toList
def SqT (K:Frg) (H:Hp) (a:Addr) (xs:List V):Prop:=
 Rd H a (.tup xs) ∨
  ∃ (o:Obj) (its:Array Value) (n:Nat),K.lookup a=some o/\o.cls=.type "tuple"/\o.data=.seq its n/\its.size<=sizeLine/\zQ xs its.toList
def qps:Value->Option V
 |.none=>some .non
 |.bool b=>some (.bl b)
 |.int i _=>some (.int i)
 |.str x _=>some (.str x)
 |.bytes b _=>some (.byt b)
 |.float b _=>some (.flt b)
 |.ref a=>some (.ref a)
 |.type n=>some (.ty n)
 |_=>none
def jg.abs {x:V} {u:Value} (r:jg x u):qps u=some x:=by
 cases x with
 |non=>cases r;rfl
 |bl _=>cases r;rfl
 |int _=>obtain ⟨t,rfl⟩:=r;rfl
 |str _=>obtain ⟨t,rfl⟩:=r;rfl
 |byt _=>obtain ⟨t,rfl⟩:=r;rfl
 |flt _=>obtain ⟨t,rfl⟩:=r;rfl
 |ref _=>cases r;rfl
 |ty _=>cases r;rfl
def jg.inj {x y:V} {u:Value} (r:jg x u) (q:jg y u):x=y:=Option.some.inj (r.abs.symm.trans q.abs)
def zQ.inj:∀ {xs ys:List V} {us:List Value},zQ xs us->zQ ys us->xs=ys
 |_,_,_,.nil,.nil=>rfl
 |_,_,_,.cons r t,.cons r' t'=>by rw [r.inj r',zQ.inj t t']
section
variable {X:Cx} {pins:List (Addr×Obj)} {σ:St} {H:Hp} {s:Shared} {a:Addr} {xs ys:List V}
def SqL.of {K:Frg} (h:H a=some (.lst xs)):SqL K H a xs:=.inl (.inl h)
def SqT.of {K:Frg} (h:H a=some (.tup xs)):SqT K H a xs:=.inl (.inl h)
def Inv.list (I:Inv X pins σ H s) (h:SqL X.K H a xs):∃ its:List Value,zQ xs its/\PlainL s.heap a its.toArray/\xs.length<=sizeLine:=by
 rcases h with h|⟨o,its,n,hk,hc,hd,hs,hz,r⟩
 ·obtain ⟨z,its,n,r,e⟩:=h.ok I.hok;exact ⟨its,r,⟨_,n,e,rfl,rfl,rfl⟩,z⟩
 ·refine ⟨its.toList,r,⟨o,n,I.kIn a o hk,hc,hd,by simpa using hs⟩,?_⟩;have e:=r.length;simp only [Array.length_toList] at e;omega
def Inv.tuple (I:Inv X pins σ H s) (h:SqT X.K H a xs):∃ its:List Value,zQ xs its/\IsTup s.heap a its.toArray/\xs.length<=sizeLine:=by
 rcases h with h|⟨o,its,n,hk,hc,hs,hz,r⟩
 ·obtain ⟨z,its,r,p⟩:=h.ok I.hok;exact ⟨its,r,p,z⟩
 ·refine ⟨its.toList,r,⟨o,I.kIn a o hk,hc,n,by simpa using hs⟩,?_⟩;have e:=r.length;simp only [Array.length_toList] at e;omega
def Inv.list_inj (I:Inv X pins σ H s) (h:SqL X.K H a xs) (h':SqL X.K H a ys):xs=ys:=by
 obtain ⟨its,r,⟨o,n,e,_,_,d⟩,_⟩:=I.list h;obtain ⟨its',r',⟨o',n',e',_,_,d'⟩,_⟩:=I.list h';rw [e] at e';cases e';rw [d] at d';injection d' with d1 _;have:its=its':=by simpa using congrArg Array.toList d1
 subst this;exact r.inj r'
def Inv.tuple_inj (I:Inv X pins σ H s) (h:SqT X.K H a xs) (h':SqT X.K H a ys):xs=ys:=by
 obtain ⟨its,r,⟨o,e,_,n,d⟩,_⟩:=I.tuple h;obtain ⟨its',r',⟨o',e',_,n',d'⟩,_⟩:=I.tuple h';rw [e] at e';cases e';rw [d] at d';injection d' with d1 _;have:its=its':=by simpa using congrArg Array.toList d1
 subst this;exact r.inj r'
end
abbrev Cx.wish (X:Cx) (E:Value->Shared->Prop):Cx:={ X with xe:=E }
abbrev Cx.nox (X:Cx):Cx:=X.wish λ_ _=>False
def Cx.Ok.wish {X:Cx} (ok:X.Ok) (E:Value->Shared->Prop):(X.wish E).Ok:=
 ⟨ok.mod,ok.kind,ok.glob,ok.blt,ok.above,ok.inj,ok.has,ok.cab,ok.hd,ok.frames,ok.stk,ok.exf,ok.bs,ok.bsz,ok.noex,ok.exfs,ok.funs,ok.frf⟩
def Cx.Ok.unwish {X:Cx} {E:Value->Shared->Prop} (ok:(X.wish E).Ok):X.Ok:=
 ⟨ok.mod,ok.kind,ok.glob,ok.blt,ok.above,ok.inj,ok.has,ok.cab,ok.hd,ok.frames,ok.stk,ok.exf,ok.bs,ok.bsz,ok.noex,ok.exfs,ok.funs,ok.frf⟩
section
variable {X:Cx} {pins:List (Addr×Obj)} {σ:St} {H:Hp} {s:Shared} {E:Value->Shared->Prop}
def Inv.wish (I:Inv X pins σ H s) (E:Value->Shared->Prop):Inv (X.wish E) pins σ H s:=⟨I.ok.wish E,I.os,I.bare,I.base,I.loc,I.cell,I.free,I.freeC,I.pin,I.hok,I.len⟩
def Inv.unwish (I:Inv (X.wish E) pins σ H s):Inv X pins σ H s:=⟨I.ok.unwish,I.os,I.bare,I.base,I.loc,I.cell,I.free,I.freeC,I.pin,I.hok,I.len⟩
def SP.unwish {D:Ends} {f:Flow} {s':Shared} (h:SP (X.wish E) pins D f s'):SP X pins D f s':=by
 cases f with
 |next=>obtain ⟨σ',H',I,q⟩:=h;exact ⟨σ',H',I.unwish,q⟩
 |brk=>obtain ⟨σ',H',I,q⟩:=h;exact ⟨σ',H',I.unwish,q⟩
 |cont=>obtain ⟨σ',H',I,q⟩:=h;exact ⟨σ',H',I.unwish,q⟩
 |ret u=>obtain ⟨v,σ',H',I,r,q⟩:=h;exact ⟨v,σ',H',I.unwish,r,q⟩
def PSs.nox {st:List Stmt} {t:TS} (h:PSs X.nox st t):PSs X st t:=λpins s σ H D I hw=>
 wpAny_mono (h pins s σ H D (I.wish _) hw) (λ_ _ q=>q.unwish) λ_ _ z=>False.elim z
end
section
variable {X:Cx} {st:Stmt} {j8:List Stmt} {t u:TS} {e:Expr} {te:TE} {pos:Pos}
def qnW:TS:=λD σ H=>D.nx σ H
def qpx (t u:TS):TS:=λD σ H=>t { D with nx:=u D } σ H
def qe3:PSs X [] qnW:=λ_ _ σ H _ I h=>wpAny_execs_nil ⟨σ,H,I,h⟩
def qcb (h1:PS X st t) (h2:PSs X j8 u):PSs X (st::j8) (qpx t u):=by
 intro pins s σ H D I h;refine wpAny_execs_cons (thn (h1 pins s σ H { D with nx:=u D } I h) λf s1 q=>?_);cases f with
 |next=>
  obtain ⟨σ',H',I',q⟩:=q;exact h2 pins s1 σ' H' D I' q
 |ret v=>exact q
 |brk=>exact q
 |cont=>exact q
def N8 (h1:PS X st t):PSs X [st] t:=by
 intro pins s σ H D I h;refine wpAny_execs_cons (thn (h1 pins s σ H D I h) λf s1 q=>?_);cases f with
 |next=>exact wpAny_execs_nil q
 |ret v=>exact q
 |brk=>exact q
 |cont=>exact q
def Inv.quiet {pins:List (Addr×Obj)} {σ:St} {H:Hp} {s:Shared} (I:Inv X pins σ H s):interactive X.env=false:=by simp [interactive,I.ok.kind]
def qnO (te:TE):TS:=λD σ H=>te σ H λ_ H1=>D.nx σ H1
def qf5 (he:PE X e te) (hs:swapsWith e none pos.line X.env=pure false:=by rfl):PS X (.Expr e pos) (qnO te):=by
 intro pins s σ H D I h;exact wpAny_Expr_any (thn (he pins s σ H _ I h) λv s1 ⟨x,H1,I1,r1,q1⟩=>⟨σ,H1,I1,q1⟩) I.quiet hs
def qpD (te:TE):TS:=λD σ H=>te σ H D.rt
def ql3 (he:PE X e te):PS X (.Return (some e) pos) (qpD te):=by
 intro pins s σ H D I h;exact wpAny_Return_some (thn (he pins s σ H _ I h) λv s1 ⟨x,H1,I1,r1,q1⟩=>⟨x,σ,H1,I1,r1,q1⟩)
def qpl (c:TT) (t u:TS):TS:=λD σ H=>c σ H λb H1=>if b=true then t D σ H1 else u D σ H1
def qoo {c:Expr} {a b:List Stmt} {tc:TT} (hc:PT X c tc) (ha:PSs X a t) (hb:PSs X b u):PS X (.If c a b pos) (qpl tc t u):=by
 intro pins s σ H D I h;refine wpAny_If (thn (hc pins s σ H _ I h) λd s1 ⟨H1,I1,q1⟩=>?_);cases d with
 |true=>exact ha pins s1 σ H1 D I1 q1
 |false=>exact hb pins s1 σ H1 D I1 q1
end
abbrev TG:=V->St->Hp->(St->Hp->Prop)->Prop
abbrev TGs:=List V->St->Hp->(St->Hp->Prop)->Prop
def PG (X:Cx) (target:Expr) (t:TG):Prop:=
 ∀ (pins:List (Addr×Obj)) (s:Shared) (σ:St) (H:Hp) (v:V) (u:Value) (Q:St->Hp->Prop),Inv X pins σ H s->jg v u->t v σ H Q ->
  wpAny (model X.prog X.w) X.A (assign target X.env u) (λ_ s'=>∃ σ' H',Inv X pins σ' H' s'/\Q σ' H') X.xe s
def PGs (X:Cx) (ts:List Expr) (t:TGs):Prop:=
 ∀ (pins:List (Addr×Obj)) (s:Shared) (σ:St) (H:Hp) (vs:List V) (us:List Value) (Q:St->Hp->Prop),Inv X pins σ H s->zQ vs us->t vs σ H Q ->
  wpAny (model X.prog X.w) X.A (assignInOrder ((assignEach ts X.env).map (·.2)) us) (λ_ s'=>∃ σ' H',Inv X pins σ' H' s'/\Q σ' H') X.xe s
abbrev qnu:=V->V->V->Hp->(Hp->Prop)->Prop
def qoI (X:Cx) (t:qnu):Prop:=
 ∀ (pins:List (Addr×Obj)) (s:Shared) (σ:St) (H:Hp) (o i v:V) (ov iv u:Value) (Q:Hp->Prop),Inv X pins σ H s->jg o ov->jg i iv->jg v u->t o i v H Q ->
  wpAny (model X.prog X.w) X.A (setItem ov iv u) (λ_ s'=>∃ H',Inv X pins σ H' s'/\Q H') X.xe s
section
variable {X:Cx} {pos:Pos}
def qfV (i:Nat):TG:=λv σ H Q=>Q (σ.set i (some v)) H
def qfc {i:Nat} {x:Str} (hN:X.N.Nodup) (hi:X.N[i]?=some x) (hx:Loc X.env.scope x) (hf:X.fn x=true\/X.env.scope.names.lookup x=some .local:=by first|exact .inl rfl|exact .inr rfl|assumption):PG X (.Name x pos) (qfV i):=by
 intro pins s σ H v u Q I r h;exact wpAny_assign_Name (Y0 I hN hi hx r (λs' I'=>⟨_,H,I',h⟩) hf)
def MZ:TGs:=λvs σ H Q=>vs=[]/\Q σ H
def jS (t:TG) (u:TGs):TGs:=λvs σ H Q=>∃ v r,vs=v::r/\t v σ H λσ' H'=>u r σ' H' Q
def qfu:PGs X [] MZ:=by
 intro pins s σ H vs us Q I r h;obtain ⟨e,h⟩:=h;subst e;cases r;exact assignInOrder_nil ⟨σ,H,I,h⟩
def qce {e:Expr} {es:List Expr} {t:TG} {u:TGs} (h1:PG X e t) (h2:PGs X es u)
  (hs:(assignEach (e::es) X.env).map (·.2)=assign e X.env::(assignEach es X.env).map (·.2):=by rfl):PGs X (e::es) (jS t u):=by
 intro pins s σ H vs us Q I r h;obtain ⟨v,vr,e1,h⟩:=h;subst e1;cases r with
 |cons r rr=>
  rw [hs];refine assignInOrder_cons (thn (h1 pins s σ H _ _ _ I r h) λ_ s1 ⟨σ1,H1,I1,q1⟩=>?_);exact h2 pins s1 σ1 H1 _ _ Q I1 rr q1
def M0 (K:Frg) (n:Nat) (t:TGs):TG:=λv σ H Q=>∃ a xs,v=.ref a/\SqT K H a xs/\xs.length=n/\t xs σ H Q
def qlv {es:List Expr} {k:Nat} {t:TGs} {n:Nat} (hc:X.calm=true) (h:PGs X es t)
  (hn:(assignEach es X.env).length=n:=by rfl) (hst:(assignEach es X.env).findIdx? (·.1)=none:=by rfl):PG X (.Tuple es k pos) (M0 X.K n t):=by
 intro pins s σ H v u Q I r hw;obtain ⟨a,xs,e1,hq,hl,hw⟩:=hw;subst e1;cases r;obtain ⟨its,rv,ht,hz⟩:=I.tuple hq;refine assign_Tuple_tuple (I.ok.hd hc) ht (by simp [hn,← hl,rv.length]) hst λh' hx=>?_;have I1:Inv X pins σ H { s with heap:=h' }:=I.kept (t':=s.toks) λb o e=>hx b o (Nat.ne_of_lt (Heap.lt_size e)) e;exact h pins _ σ H xs _ Q I1 (by simpa using rv) hw
def qpt (to ti:TE) (t:qnu):TG:=λv σ H Q=>to σ H λo H1=>ti σ H1 λi H2=>t o i v H2 λH3=>Q σ H3
def qkv {o i:Expr} {to ti:TE} {t:qnu} (ho:PE X o to) (hi:PE X i ti) (hs:qoI X t)
  (ha:∀ v,assign (.Subscript o i pos) X.env v=(do
   let ov←holding [v] (eval o X.env)
   let iv←holding [v,ov] (eval i X.env)
   standAt pos
   holding [v,ov,iv] (setItem ov iv v)
   release [v,ov,iv] []):=by intro _;rfl):PG X (.Subscript o i pos) (qpt to ti t):=by
 intro pins s σ H v u Q I r h;rw [ha];refine wpAny_bind (wpAny_holding (thn (ho pins s σ H _ I h) λov s1 ⟨x,H1,I1,r1,q1⟩=>?_));refine wpAny_bind (wpAny_holding (thn (hi pins s1 σ H1 _ I1 q1) λiv s2 ⟨y,H2,I2,r2,q2⟩=>?_));refine wpAny_bind (wpAny_standAt (wpAny_bind (wpAny_holding (thn (hs pins s2 σ H2 x y v ov iv u _ I2 r1 r2 r q2) λ_ s3 ⟨H3,I3,q3⟩=>?_))));exact wpAny_release ⟨σ,H3,I3,q3⟩
def qnK (te:TE) (g:TG):TS:=λD σ H=>te σ H λx H1=>g x σ H1 D.nx
def qg5 {tg e:Expr} {te:TE} {g:TG} (he:PE X e te) (hg:PG X tg g) (hs:swapsWithSole [tg] e pos.line X.env=pure false:=by rfl) (hw:swappedStores [tg] e X.env=pure none:=by rfl)
  (h1:(assignEach [tg] X.env).map (·.2)=[assign tg X.env]:=by rfl):PS X (.Assign [tg] e pos) (qnK te g):=by
 intro pins s σ H D I h;refine wpAny_Assign_stores (thn (he pins s σ H _ I h) λv s1 ⟨x,H1,I1,r1,q1⟩=>?_) hs hw;rw [h1];exact thn (hg pins s1 σ H1 x v _ I1 r1 q1) λ_ s2 q=>q
def qcs {i:Nat} {x:Str} {e:Expr} {te:TE} {pos':Pos} (hN:X.N.Nodup) (hi:X.N[i]?=some x) (hx:Loc X.env.scope x) (he:PE X e te) (hs:swapsWith e (some (.Name x pos')) pos.line X.env=pure false:=by rfl) (hf:X.fn x=true\/X.env.scope.names.lookup x=some .local:=by first|exact .inl rfl|exact .inr rfl|assumption) :
  PS X (.Assign [.Name x pos'] e pos) (qnK te (qfV i)):=by
 intro pins s σ H D I h;refine wpAny_Assign_Name (thn (he pins s σ H _ I h) λv s1 ⟨y,H1,I1,r1,q1⟩=>?_) hs;exact Y0 I1 hN hi hx r1 (λs2 I2=>⟨_,H1,I2,q1⟩) hf
def qpV (i j:Nat) (ta:TA):TS:=λD σ H=>ta σ H λvs H1=>∃ v w,vs=[v,w]/\D.nx ((σ.set i (some v)).set j (some w)) H1
def qiM {i j:Nat} {x y:Str} {a b:Expr} {ta:TA} {px py pt:Pos} {kt k2 pt2} (hc:X.calm=true) (hN:X.N.Nodup) (hi:X.N[i]?=some x) (hj:X.N[j]?=some y) (hij:i≠j)
  (hx:X.env.scope.names.lookup x=some .local) (hy:X.env.scope.names.lookup y=some .local) (ha:PA X [a,b] ta)
  (hw:swappedStores [.Tuple [.Name x px,.Name y py] kt pt] (.Tuple [a,b] k2 pt2) X.env=pure (some [x,y]))
  (hs:swapsWithSole [.Tuple [.Name x px,.Name y py] kt pt] (.Tuple [a,b] k2 pt2) pos.line X.env=pure false:=by rfl) :
  PS X (.Assign [.Tuple [.Name x px,.Name y py] kt pt] (.Tuple [a,b] k2 pt2) pos) (qpV i j ta):=by
 intro pins s σ H D I h;rw [exec_Assign_arm];refine wpAny_bind (wpAny_standAt ?_);rw [hs];refine wpAny_bind (wpAny_pure ?_);rw [if_neg (by decide)];refine wpAny_bind (Tuple_ (thn (ha _ pins s σ H _ I h) λus s1 ⟨vs,H1,I1,r1,q1⟩=>?_));obtain ⟨v,w,e1,q1⟩:=q1;subst e1;obtain ⟨u1,u2,rfl,rv,rw'⟩:∃ u1 u2,us=[u1,u2]/\jg v u1/\jg w u2:=by
  cases r1 with
  |cons p q=>
   cases q with
   |cons p' q'=>
    cases q';exact ⟨_,_,rfl,p,p'⟩
 refine wpAny_newObj_type ?_ (by show 2<=sizeLine;decide);have I2:Inv X pins σ H1 { s1 with heap:=s1.heap.push { cls:=.type "tuple",data:=.seq [u1,u2].toArray } }:=I1.kept (t':=s1.toks) λb o e=>Heap.get?_push_of_some _ e;rw [hw];refine wpAny_bind (wpAny_pure ?_);show wpAny (model X.prog X.w) X.A (do rule "assign.swapped-stores";let items←unpackItems (.ref s1.heap.objs.size) 2 none;assignInOrder [λv=>bindName X.env y v,λv=>bindName X.env x v] items.reverse;pure Flow.next) _ _ _;refine wpAny_bind (wpAny_rule (wpAny_bind (unpackItems_tuple (items:=#[u1,u2]) (I.ok.hd hc) (IsTup.new s1.heap _) λh' hx'=>?_)));have I3:=I2.kept (h':=h') (t':=s1.toks) λb o e=>hx' b o (Nat.ne_of_lt (Heap.lt_size e)) e;show wpAny _ _ (assignInOrder [λv=>bindName X.env y v,λv=>bindName X.env x v] [u2,u1] >>= λ_=>pure Flow.next) _ _ _;refine wpAny_bind (assignInOrder_cons (wpAny_bindName (Y0 I3 hN hj (.inl hy) rw' (λs2 I4=>?_) (.inr hy))));refine assignInOrder_cons (wpAny_bindName (Y0 I4 hN hi (.inl hx) rv (λs3 I5=>assignInOrder_nil (wpAny_pure ?_)) (.inr hx)));rw [List.set_comm _ _ (Ne.symm hij)] at I5;exact ⟨_,H1,I5,q1⟩
end
section
variable {X:Cx} {pos:Pos}
def qkK (c:TT) (tb:TS):TS:=λD σ H=>∃ W:Nat->St->Hp->Prop,(∃ m,W m σ H)/\∀ m σ H,W m σ H ->
 c σ H λb H1=>if b=true then ∃ N:St->Hp->Prop,(∀ σ' H',N σ' H'->∃ m',m'<m/\W m' σ' H')/\tb { D with nx:=N,ct:=N,bk:=D.nx } σ H1 else D.nx σ H1
def qb0 {c:Expr} {body:List Stmt} {tc:TT} {tb:TS} (hp:PassesOwn (model X.prog X.w) X.A X.env X.xe) (hc:PT X c tc) (hb:PSs X body tb):PS X (.While c body [] pos) (qkK tc tb):=by
 intro pins s σ H D I h;obtain ⟨W,⟨m0,w0⟩,turn⟩:=h;refine wpAny_While (codeAny_whileLoop (λn s'=>∃ σ' H',Inv X pins σ' H' s'/\W n σ' H') ?_ m0 ⟨σ,H,I,w0⟩);rintro n s1 ⟨σ1,H1,I1,w1⟩;refine wpAny_passesOwn hp (thn (hc pins s1 σ1 H1 _ I1 (turn n σ1 H1 w1)) λb s2 ⟨H2,I2,q2⟩=>?_);cases b with
 |true=>
  obtain ⟨N,hN,q2⟩:=q2;rw [if_pos rfl];refine wpAny_passesOwn hp (thn (hb pins s2 σ1 H2 _ I2 q2) λf s3 q3=>?_);cases f with
  |next=>
   obtain ⟨σ3,H3,I3,n3⟩:=q3;obtain ⟨m',hm,w3⟩:=hN σ3 H3 n3;exact ⟨m',hm,σ3,H3,I3,w3⟩
  |cont=>
   obtain ⟨σ3,H3,I3,n3⟩:=q3;obtain ⟨m',hm,w3⟩:=hN σ3 H3 n3;exact ⟨m',hm,σ3,H3,I3,w3⟩
  |brk=>exact q3
  |ret v=>exact q3
 |false=>
  rw [if_neg Bool.false_ne_true];exact wpAny_execs_nil ⟨σ1,H2,I2,q2⟩
end
structure It where
 go:Nat->Hp->Prop
 yld:Nat->Hp->V->Hp->Prop
 stop:Nat->Hp->Prop
def RO (X:Cx) (pins:List (Addr×Obj)) (H:Hp) (b:Addr):Prop:=
 H b=none/\b≠X.env.locals/\b∉X.fs/\(b∈X.ex\/X.s₀.heap.objs.size<=b)/\(∀ x c,X.env.cells.lookup x=some c->c≠b)/\∀ p∈X.pn++pins,p.1≠b
def Inv.fpOk {X:Cx} {pins:List (Addr×Obj)} {σ:St} {H H':Hp} {s:Shared} {b:Addr} (I:Inv X pins σ H s) (hb:s.heap.objs.size<=b) (hn:H' b=none):RO X pins H' b:=by
 refine ⟨hn,Nat.ne_of_gt (Nat.lt_of_lt_of_le I.lt hb),I.nofs hb,.inr (Nat.le_trans I.sz hb),λx c e z=>?_,λp hp z=>?_⟩
 ·obtain ⟨v,q⟩:=I.cell x c e;exact absurd (Nat.lt_of_lt_of_le q.lt (by rw [z];exact hb)) (Nat.lt_irrefl _)
 ·exact absurd (Nat.lt_of_lt_of_le (Heap.lt_size (I.pin p hp).1) (by rw [z];exact hb)) (Nat.lt_irrefl _)
structure Turn (P:Program) (w:World) (K:Frg) (tg:Expr) (J:It) (fp:List Addr) (it:Addr) (tn:Nat->Heap->Prop):Prop where
 mem:it∈fp
 obj:∀ i h,tn i h->∀ b∈fp,∃ o,h.get? b=some o/\∀ v,o.data≠.cell v
 keep:∀ i h h',tn i h->(∀ b∈fp,∀ o,h.get? b=some o->h'.get? b=some o)->tn i h'
 item:∀ (X:Cx),X.prog=P->X.w=w->X.K=K->X.calm=true->∀ (i:Nat) (pins:List (Addr×Obj)) (s:Shared) (σ:St) (H:Hp) (E:Value->Shared->Prop),Inv X pins σ H s->(∀ b∈fp,RO X pins H b)->tn i s.heap->J.go i H ->
  wpAny (model P w) X.A (pyNext (.ref it)) (λr s1=>∃ u,r=some u /\
   wpAny (model P w) X.A (letOwnedTupleGo tg (.ref it) u) (λ_ s2=>∃ x H',Inv X pins σ H' s2/\jg x u/\J.yld i H x H'/\tn (i+1) s2.heap/\∀ b∈fp,H' b=none) E s1) E s
 done:∀ (X:Cx),X.prog=P->X.w=w->X.K=K->X.calm=true->∀ (i:Nat) (pins:List (Addr×Obj)) (s:Shared) (σ:St) (H:Hp) (E:Value->Shared->Prop),Inv X pins σ H s->(∀ b∈fp,RO X pins H b)->tn i s.heap->J.stop i H ->
  wpAny (model P w) X.A (pyNext (.ref it)) (λr s1=>r=none/\Inv X pins σ H s1) E s
 self:∀ (A:Around) (i:Nat) (s:Shared) (Q:Value->Shared->Prop) (E:Value->Shared->Prop),tn i s.heap->Q (.ref it) s->wpAny (model P w) A (pyIter (.ref it)) Q E s
abbrev TI:=St->Hp->(It->Hp->Prop)->Prop
def PIE (X:Cx) (pins:List (Addr×Obj)) (σ:St) (tg:Expr) (R:It->Hp->Prop) (itv:Value) (s2:Shared):Prop:=
 ∃ (it:Addr) (fp:List Addr) (tn:Nat->Heap->Prop) (J:It) (H':Hp),itv=.ref it/\Inv X pins σ H' s2/\Turn X.prog X.w X.K tg J fp it tn/\tn 0 s2.heap/\(∀ b∈fp,RO X pins H' b)/\R J H'
def PI (X:Cx) (tg iter:Expr) (wi:TI):Prop:=
 ∀ (pins:List (Addr×Obj)) (s:Shared) (σ:St) (H:Hp) (R:It->Hp->Prop),Inv X pins σ H s->wi σ H R ->
  wpAny (model X.prog X.w) X.A (eval iter X.env) (λv s1=>wpAny (model X.prog X.w) X.A (pyIter v) (PIE X pins σ tg R) X.xe s1) X.xe s
def qfx {M:Model} {A:Around} {E:Value->Shared->Prop} {s:Shared} {tg:Expr} {it:Addr} {u:Value} {o:Obj} {n:String} {vs:Array Value} {Q:Unit->Shared->Prop} (ho:s.heap.get? it=some o) (hc:o.cls=.type n) (hd:o.data=.fields vs)
    (hn:["enumerate","zip","dict_itemiterator","dict_reverseitemiterator","odict_iterator","itertools.zip_longest","itertools.pairwise"].contains n=false) (hQ:Q () s):wpAny M A (letOwnedTupleGo tg (.ref it) u) Q E s:=by
  unfold letOwnedTupleGo;cases tg<;>first
    |exact wpAny_pure hQ
    | (cases u<;>first
        |exact wpAny_pure hQ
        | (refine wpAny_bind (wpAny_load ho ?_)
           rw [hc,hd];show wpAny M A (if (["enumerate","zip","dict_itemiterator","dict_reverseitemiterator","odict_iterator","itertools.zip_longest","itertools.pairwise"].contains n&&vs[0]?==some (rawInt _))=true then _ else _) Q E s;rw [if_neg (by intro h;rw [hn,Bool.false_and] at h;cases h)];exact wpAny_pure hQ))
def Itl (K:Frg) (a:Addr):It:=
 ⟨λi H=>∃ xs x,SqL K H a xs/\xs[i]?=some x,λi H x H'=>H'=H/\∀ xs,SqL K H a xs->xs[i]?=some x,λi H=>∃ xs,SqL K H a xs/\xs.length<=i⟩
def Itt (K:Frg) (a:Addr):It:=
 ⟨λi H=>∃ xs x,SqT K H a xs/\xs[i]?=some x,λi H x H'=>H'=H/\∀ xs,SqT K H a xs->xs[i]?=some x,λi H=>∃ xs,SqT K H a xs/\xs.length<=i⟩
def Itr (lo:Int) (n:Nat):It:=⟨λi _=>i<n,λi H x H'=>H'=H/\x=.int (lo+i),λi _=>n<=i⟩
def NA {P:Program} {w:World} {K:Frg} {tg:Expr} (a it:Addr):Turn P w K tg (Itl K a) [it] it (λi h=>h.IsListIter it a i) where
 mem:=by simp
 obj:=λi h st b hb=>by
  have e:b=it:=by simpa using hb
  subst e;obtain ⟨o,e,c,d⟩:=st;exact ⟨o,e,λv z=>by rw [d] at z;cases z⟩
 keep:=λi h h' st k=>st.at λo e=>k it (by simp) o e
 item:=by
  intro X hP hw hK hc i pins s σ H E I hf st hg;subst hP hw hK;obtain ⟨xs,x,hq,hx⟩:=hg;obtain ⟨its,rv,p,hz⟩:=I.list hq;obtain ⟨u,hu,ru⟩:=rv.get hx;obtain ⟨f0,f1,f2,f3,f4,f5⟩:=hf it (by simp);refine wpAny_pyNext_list_item st p.isList (x:=u) (by simpa using hu) λh' st' sb=>?_;have I1:Inv X pins σ H { s with heap:=h' }:=I.turned (t':=s.toks) (λb o hb e=>(sb.2 b hb).trans e) f0 f1 f3 f4 f5;obtain ⟨o,e,c,d⟩:=id st';exact ⟨u,rfl,qfx (s:={ s with heap:=h' }) e c d (by decide) ⟨x,H,I1,ru,⟨rfl,λys hy=>by rw [I.list_inj hy hq];exact hx⟩,st',λb hb=>(hf b hb).1⟩⟩
 done:=by
  intro X hP hw hK hc i pins s σ H E I hf st hg;subst hP hw hK;obtain ⟨xs,hq,hx⟩:=hg;obtain ⟨its,rv,p,hz⟩:=I.list hq;obtain ⟨f0,f1,f2,f3,f4,f5⟩:=hf it (by simp);have hl:=rv.length;exact wpAny_pyNext_list_end (I.ok.hd hc) st p.isList (by simp;omega) λh' eb=>⟨rfl,I.turned (t':=s.toks) (λb o hb e=>eb b o hb e) f0 f1 f3 f4 f5⟩
 self:=λ_ _ _ _ _ st h=>wpAny_pyIter_listiter st h
def MK {P:Program} {w:World} {K:Frg} {tg:Expr} (a it:Addr):Turn P w K tg (Itt K a) [it] it (λi h=>h.IsTupleIter it a i) where
 mem:=by simp
 obj:=λi h st b hb=>by
  have e:b=it:=by simpa using hb
  subst e;obtain ⟨o,e,c,d⟩:=st;exact ⟨o,e,λv z=>by rw [d] at z;cases z⟩
 keep:=λi h h' st k=>st.at λo e=>k it (by simp) o e
 item:=by
  intro X hP hw hK hc i pins s σ H E I hf st hg;subst hP hw hK;obtain ⟨xs,x,hq,hx⟩:=hg;obtain ⟨its,rv,p,hz⟩:=I.tuple hq;obtain ⟨u,hu,ru⟩:=rv.get hx;obtain ⟨f0,f1,f2,f3,f4,f5⟩:=hf it (by simp);refine wpAny_pyNext_tuple_item st (show s.heap.IsTuple a its.toArray from p) (x:=u) (by simpa using hu) λh' st' sb=>?_;have I1:Inv X pins σ H { s with heap:=h' }:=I.turned (t':=s.toks) (λb o hb e=>(sb.2 b hb).trans e) f0 f1 f3 f4 f5;obtain ⟨o,e,c,d⟩:=id st';exact ⟨u,rfl,qfx (s:={ s with heap:=h' }) e c d (by decide) ⟨x,H,I1,ru,⟨rfl,λys hy=>by rw [I.tuple_inj hy hq];exact hx⟩,st',λb hb=>(hf b hb).1⟩⟩
 done:=by
  intro X hP hw hK hc i pins s σ H E I hf st hg;subst hP hw hK;obtain ⟨xs,hq,hx⟩:=hg;obtain ⟨its,rv,p,hz⟩:=I.tuple hq;obtain ⟨f0,f1,f2,f3,f4,f5⟩:=hf it (by simp);have hl:=rv.length;exact wpAny_pyNext_tuple_end (I.ok.hd hc) st (show s.heap.IsTuple a its.toArray from p) (by simp;omega) λh' eb=>⟨rfl,I.turned (t':=s.toks) (λb o hb e=>eb b o hb e) f0 f1 f3 f4 f5⟩
 self:=λ_ _ _ _ _ st h=>wpAny_pyIter_tupleiter st h
def ML {P:Program} {w:World} {K:Frg} {tg:Expr} (it:Addr) (lo:Int) (n:Nat):Turn P w K tg (Itr lo n) [it] it (λi h=>IsRangeIter h it (lo+(i:Nat)*1) ((n:Int)-(i:Nat)) 1) where
 mem:=by simp
 obj:=λi h st b hb=>by
  have e:b=it:=by simpa using hb
  subst e;exact ⟨_,st,λv z=>by
   have z':Data.fields _=Data.cell v:=z;cases z'⟩
 keep:=λi h h' st k=>k it (by simp) _ st
 item:=by
  intro X hP hw hK hc i pins s σ H E I hf st hg;subst hP hw hK;obtain ⟨f0,f1,f2,f3,f4,f5⟩:=hf it (by simp);have W:=Walks.range (prog:=X.prog) (w:=X.w) (I.ok.hd hc) it lo 1 n;refine W.item i s _ _ hg st λv h' tk hv st' kk=>?_;obtain ⟨t,rfl⟩:=hv;have I1:Inv X pins σ H { s with heap:=h',toks:=tk }:=I.turned (λb o hb e=>kk b o (by simpa using hb) e) f0 f1 f3 f4 f5;refine ⟨_,rfl,qfx (s:={ s with heap:=h',toks:=tk }) (n:="range_iterator") st' rfl rfl (by decide) ⟨.int (lo+i),H,I1,⟨t,?_⟩,⟨rfl,rfl⟩,st',λb hb=>(hf b hb).1⟩⟩;rw [Int.mul_one]
 done:=by
  intro X hP hw hK hc i pins s σ H E I hf st hg;subst hP hw hK;obtain ⟨f0,f1,f2,f3,f4,f5⟩:=hf it (by simp);exact wpAny_pyNext_range_end (I.ok.hd hc) st (by have:n<=i:=hg;omega) λh' eb=>⟨rfl,I.turned (t':=s.toks) (λb o hb e=>eb b o hb e) f0 f1 f3 f4 f5⟩
 self:=λ_ _ _ _ _ st h=>wpAny_pyIter_rangeiter st h
section
variable {X:Cx} {tg:Expr}
def KY {pins:List (Addr×Obj)} {σ:St} {H:Hp} {s:Shared} {R:It->Hp->Prop} {E:Value->Shared->Prop} {lo hi:Int} {t u v:Tok} {tk:Nat} (I:Inv X pins σ H s) (h1:-(2 ^ 62)<=lo) (h2:lo<2 ^ 62) (h3:-(2 ^ 62)<=hi) (h4:hi<2 ^ 62)
  (q:R (Itr lo (hi-lo).toNat) H):wpAny (model X.prog X.w) X.A (pyIter (.ref s.heap.objs.size)) (PIE X pins σ tg R) E { s with heap:=s.heap.push { cls:=.type "range",data:=.fields #[.int lo t,.int hi u,.int 1 v] },toks:=tk }:=by
 refine wpAny_pyIter_range (IsRange.new ..) (small_one h1 h2 h3 h4) ?_;have I1:Inv X pins σ H { s with heap:=s.heap.push { cls:=.type "range",data:=.fields #[.int lo t,.int hi u,.int 1 v] },toks:=tk }:=I.kept λb o e=>Heap.get?_push_of_some _ e;refine ⟨(s.heap.push { cls:=.type "range",data:=.fields #[.int lo t,.int hi u,.int 1 v] }).objs.size,[(s.heap.push { cls:=.type "range",data:=.fields #[.int lo t,.int hi u,.int 1 v] }).objs.size],_,_,H,rfl,
  I1.kept (t':=tk) λb o e=>Heap.get?_push_of_some _ e,ML _ lo (hi-lo).toNat,?_,λb hb=>?_,q⟩
 ·have e1:lo+((0:Nat):Int)*1=lo:=by simp
  have e2:(((hi-lo).toNat:Nat):Int)-((0:Nat):Int)=Builtin.Range.rangeSize lo hi 1:=by rw [rangeSize_one];split<;>omega
  show IsRangeIter _ _ (lo+((0:Nat):Int)*1) ((((hi-lo).toNat:Nat):Int)-((0:Nat):Int)) 1;rw [e1,e2];exact Heap.get?_push_size _ rfl
 ·have e:b=(s.heap.push { cls:=.type "range",data:=.fields #[.int lo t,.int hi u,.int 1 v] }).objs.size:=by simpa using hb
  subst e;exact I1.fpOk (Nat.le_refl _) (I1.hok.fresh (Nat.le_refl _))
def qnN (ta:TA):TI:=λσ H R=>ta σ H λvs H1=>∃ j:Int,vs=[.int j]/\-(2 ^ 62)<=j/\j<2 ^ 62/\R (Itr 0 j.toNat) H1
def qmL (ta:TA):TI:=λσ H R=>ta σ H λvs H1=>∃ i j:Int,vs=[.int i,.int j]/\(-(2 ^ 62)<=i/\i<2 ^ 62/\-(2 ^ 62)<=j/\j<2 ^ 62)/\R (Itr i (j-i).toNat) H1
def qaV {a:Expr} {ta:TA} {p pos:Pos} (hg:Gl X "range") (hm:X.mg "range" = none) (ha:PA X [a] ta) (hs:starEach [a] X.env=[(false,eval a X.env)]:=by rfl):PI X tg (.Call (.Name "range" p) [a] [] pos) (qnN ta):=by
 intro pins s σ H R I h;refine Call_ (WW I hg hm boot_range (PyProof.Rows.callWith_type1 (thn (ha pos pins s σ H _ I h) λus s1 ⟨vs,H1,I1,r1,q1⟩=>?_) hs rfl));obtain ⟨j,e,q1,q2,q⟩:=q1;subst e;cases r1 with
 |cons r rr=>
  cases rr;obtain ⟨t,rfl⟩:=r;exact call_range_1 (KY I1 (by omega) (by omega) q1 q2 (by simpa using q))
def qaK {a b:Expr} {ta:TA} {p pos:Pos} (hg:Gl X "range") (hm:X.mg "range" = none) (ha:PA X [a,b] ta) (hs:starEach [a,b] X.env=[(false,eval a X.env),(false,eval b X.env)]:=by rfl) (hs2:starEach [b] X.env=[(false,eval b X.env)]:=by rfl) :
  PI X tg (.Call (.Name "range" p) [a,b] [] pos) (qmL ta):=by
 intro pins s σ H R I h;refine Call_ (WW I hg hm boot_range (PyProof.Rows.callWith_type1 (thn (ha pos pins s σ H _ I h) λus s1 ⟨vs,H1,I1,r1,q1⟩=>?_) (by rw [hs,hs2]) (by rw [hs2];rfl)));obtain ⟨i,j,e,⟨q1,q2,q3,q4⟩,q⟩:=q1;subst e;cases r1 with
 |cons r rr=>
  cases rr with
  |cons r' rr=>
   cases rr;obtain ⟨t,rfl⟩:=r;obtain ⟨t',rfl⟩:=r';exact call_range_2 (KY I1 q1 q2 q3 q4 q)
def qpS (wi:TI) (g:TG) (tb:TS):TS:=λD σ H=>wi σ H λJ H1=>∃ W:Nat->Nat->St->Hp->Prop,(∃ m,W 0 m σ H1)/\∀ i m σ H,W i m σ H ->
 (J.stop i H/\D.nx σ H)\/(J.go i H/\∃ N:St->Hp->Prop,(∀ σ' H',N σ' H'->∃ m',m'<m/\W (i+1) m' σ' H')/\∀ x H',J.yld i H x H'->g x σ H' λσ2 H2=>tb { D with nx:=N,ct:=N,bk:=D.nx } σ2 H2)
def UP (fp:List Addr) (h:Heap):List (Addr×Obj):=fp.filterMap λb=>(h.get? b).map λo=>(b,o)
def zy {fp:List Addr} {h:Heap} {b:Addr} {o:Obj} (hb:b∈fp) (e:h.get? b=some o):(b,o)∈UP fp h:=List.mem_filterMap.mpr ⟨b,hb,by rw [e];rfl⟩
def qae {fp:List Addr} {h:Heap} {p:Addr×Obj} (hp:p∈UP fp h):p.1∈fp/\h.get? p.1=some p.2:=by
 obtain ⟨b,hb,e⟩:=List.mem_filterMap.mp hp;cases q:h.get? b with
 |none=>rw [q] at e;cases e
 |some o=>
  rw [q] at e;have e':(b,o)=p:=Option.some.inj e;subst e';exact ⟨hb,q⟩
def Inv.pinned {pins:List (Addr×Obj)} {σ:St} {H:Hp} {s:Shared} {fp:List Addr} (I:Inv X pins σ H s) (hf:∀ b∈fp,RO X pins H b) (ho:∀ b∈fp,∃ o,s.heap.get? b=some o/\∀ v,o.data≠.cell v):Inv X (pins++UP fp s.heap) σ H s:=
 I.pins_of λp hp=>(List.mem_append.mp hp).elim (λz=>I.pin p (mem_append_right _ z)) λz=>by
  obtain ⟨hb,e⟩:=qae z;obtain ⟨f0,f1,f2,_⟩:=hf p.1 hb;obtain ⟨o,e',d⟩:=ho p.1 hb;rw [e] at e';cases e';exact ⟨e,f0,f1,f2,d⟩
def Inv.unpinned {pins pl:List (Addr×Obj)} {σ:St} {H:Hp} {s:Shared} (I:Inv X (pins++pl) σ H s):Inv X pins σ H s:=I.pins_of λp hp=>I.pin p (mem_append_right _ (List.mem_append_left _ hp))
def qls {iter:Expr} {body:List Stmt} {wi:TI} {g:TG} {tb:TS} {pos:Pos} (hp:PassesOwn (model X.prog X.w) X.A X.env X.xe) (hc:X.calm=true) (hi:PI X tg iter wi) (hg:PG X tg g) (hb:PSs X body tb)
  (hs:∀ x,foldedSetIterable iter X.env x=pure x:=by intro _;rfl):PS X (.For tg iter body [] pos) (qpS wi g tb):=by
 intro pins s σ H D I h;refine wpAny_For (thn (hi pins s σ H _ I h) λv s1 h1=>thn h1 λitv s2 h2=>?_) hs;obtain ⟨it,fp,tn,J,H2,e,I2,T,st2,f2,W,⟨m0,w0⟩,turn⟩:=h2;subst e
 -- what stays true of the iterator's objects through the loop
 have stat:∀ {H':Hp},(∀ b∈fp,H' b=none)->∀ b∈fp,RO X pins H' b:=λhn b hb=>⟨hn b hb,(f2 b hb).2⟩
 refine codeAny_forLoop_any (λn s'=>∃ i σ' H',Inv X pins σ' H' s'/\tn i s'.heap/\(∀ b∈fp,H' b=none)/\W i n σ' H') ?_ m0 ⟨0,σ,H2,I2,st2,λb hb=>(f2 b hb).1,w0⟩;rintro n s3 ⟨i,σ3,H3,I3,st3,fr3,w3⟩;rcases turn i n σ3 H3 w3 with ⟨stop,qn⟩|⟨go,N,hN,step⟩
 ·refine wpAny_passesOwn hp (thn (T.done X rfl rfl rfl hc i pins s3 σ3 H3 X.xe I3 (stat fr3) st3 stop) λr s4 ⟨hr,I4⟩=>?_);subst hr;exact wpAny_execs_nil ⟨σ3,H3,I4,qn⟩
 ·refine wpAny_passesOwn hp (thn (T.item X rfl rfl rfl hc i pins s3 σ3 H3 X.xe I3 (stat fr3) st3 go) λr s4 ⟨u,hr,h4⟩=>?_);subst hr;refine wpAny_passesOwn hp (thn h4 λ_ s5 ⟨x,H5,I5,r5,y5,st5,fr5⟩=>?_);have I5':=I5.pinned (stat fr5) (T.obj _ _ st5);refine wpAny_passesOwn hp (thn (hg _ s5 σ3 H5 x u _ I5' r5 (step x H5 y5)) λ_ s6 ⟨σ6,H6,I6,q6⟩=>?_);refine wpAny_passesOwn hp (thn (hb _ s6 σ6 H6 _ I6 q6) λf s7 q7=>?_);have again:∀ {σ7:St} {H7:Hp},Inv X (pins++UP fp s5.heap) σ7 H7 s7->N σ7 H7->∃ m,m<n/\∃ i σ' H',Inv X pins σ' H' s7/\tn i s7.heap/\(∀ b∈fp,H' b=none)/\W i m σ' H':=λ{σ7 H7} I7 n7=>by
   obtain ⟨m',hm,w7⟩:=hN σ7 H7 n7;refine ⟨m',hm,i+1,σ7,H7,I7.unpinned,T.keep _ _ _ st5 λb hb o e=>(I7.pin (b,o) (mem_append_right _ (mem_append_right _ (zy hb e)))).1,λb hb=>?_,w7⟩;obtain ⟨o,e,d⟩:=T.obj _ _ st5 b hb;exact (I7.pin (b,o) (mem_append_right _ (mem_append_right _ (zy hb e)))).2.1
  cases f with
  |next=>obtain ⟨σ7,H7,I7,n7⟩:=q7;exact again I7 n7
  |cont=>obtain ⟨σ7,H7,I7,n7⟩:=q7;exact again I7 n7
  |brk=>obtain ⟨σ7,H7,I7,q7⟩:=q7;exact ⟨σ7,H7,I7.unpinned,q7⟩
  |ret v=>obtain ⟨x7,σ7,H7,I7,r7,q7⟩:=q7;exact ⟨x7,σ7,H7,I7.unpinned,r7,q7⟩
end
abbrev R2:=V->V->Hp->VK->Prop
def OpR (X:Cx) (f:Value->Value->Sem Value) (r:R2):Prop:=
 ∀ (pins:List (Addr×Obj)) (s:Shared) (σ:St) (H:Hp) (x y:V) (v u:Value) (Q:VK),Inv X pins σ H s->jg x v->jg y u->r x y H Q ->
  wpAny (model X.prog X.w) X.A (f v u) (EP X pins σ Q) X.xe s
def UnR (X:Cx) (f:Value->Sem Value) (r:V->Hp->VK->Prop):Prop:=
 ∀ (pins:List (Addr×Obj)) (s:Shared) (σ:St) (H:Hp) (x:V) (v:Value) (Q:VK),Inv X pins σ H s->jg x v->r x H Q ->
  wpAny (model X.prog X.w) X.A (f v) (EP X pins σ Q) X.xe s
def J6 (X:Cx) (f:Value) (r:List V->Hp->VK->Prop):Prop:=
 ∀ (pins:List (Addr×Obj)) (s:Shared) (σ:St) (H:Hp) (xs:List V) (us:List Value) (Q:VK),Inv X pins σ H s->zQ xs us->r xs H Q ->
  wpAny (model X.prog X.w) X.A (call f us) (EP X pins σ Q) X.xe s
def tOp (r:R2) (ta tb:TE):TE:=λσ H Q=>ta σ H λx H1=>tb σ H1 λy H2=>r x y H2 Q
def tUn (r:V->Hp->VK->Prop) (ta:TE):TE:=λσ H Q=>ta σ H λx H1=>r x H1 Q
def rI (C:Int->Int->Prop) (g:Int->Int->V):R2:=λx y H Q=>∃ i j,x=.int i/\y=.int j/\C i j/\Q (g i j) H
def rI0 (g:Int->Int->V):R2:=λx y H Q=>∃ i j,x=.int i/\y=.int j/\Q (g i j) H
def rU (g:Int->V):V->Hp->VK->Prop:=λx H Q=>∃ i,x=.int i/\Q (g i) H
section
variable {X:Cx} {a b c:Expr} {ta tb tc:TE} {pos:Pos}
def qmT (ha:PE X a ta) (hb:PE X b tb) {pins:List (Addr×Obj)} {s:Shared} {σ:St} {H:Hp} {R:V->V->Hp->Prop} (I:Inv X pins σ H s)
  (h:ta σ H λx H1=>tb σ H1 λy H2=>R x y H2) {Q:Value->Shared->Prop} {f:Value->Value->Sem Value}
  (hf:∀ v u s2 x y H2,Inv X pins σ H2 s2->jg x v->jg y u->R x y H2->wpAny (model X.prog X.w) X.A (f v u) Q X.xe s2) :
  wpAny (model X.prog X.w) X.A (eval a X.env) (λv s₁=>wpAny (model X.prog X.w) X.A (eval b X.env) (λu s₂=>wpAny (model X.prog X.w) X.A (f v u) Q X.xe s₂) X.xe s₁) X.xe s:=by
 refine thn (ha pins s σ H _ I h) λv s1 ⟨x,H1,I1,r1,q1⟩=>?_;refine thn (hb pins s1 σ H1 _ I1 q1) λu s2 ⟨y,H2,I2,r2,q2⟩=>?_;exact hf v u s2 x y H2 I2 r1 r2 q2
def qok {op:Operator} {r:R2} (ho:OpR X (binaryOp op) r) (ha:PE X a ta) (hb:PE X b tb):PE X (.BinOp a op b pos) (tOp r ta tb):=by
 intro pins s σ H Q I h;exact wpAny_BinOp (qmT ha hb I h λv u s2 x y H2 I2 rx ry q=>ho pins s2 σ H2 x y v u Q I2 rx ry q)
def qnw {op:UnaryOp} {r:V->Hp->VK->Prop} (ho:UnR X (unaryOp op) r) (ha:PE X a ta):PE X (.UnaryOp op a pos) (tUn r ta):=by
 intro pins s σ H Q I h;exact UnaryOp_ (thn (ha pins s σ H _ I h) λv s1 ⟨x,H1,I1,r1,q1⟩=>ho pins s1 σ H1 x v Q I1 r1 q1)
def opI {f:Value->Value->Sem Value} {C:Int->Int->Prop} {g:Int->Int->Int}
  (rule:∀ (i j:Int) (t u:Tok) (s:Shared) (Q:Value->Shared->Prop) (E:Value->Shared->Prop),C i j->Q (.int (g i j) s.toks) { s with toks:=s.toks+1 }->wpAny (model X.prog X.w) X.A (f (.int i t) (.int j u)) Q E s) :
  OpR X f (rI C λi j=>.int (g i j)):=by
 intro pins s σ H x y v u Q I rx ry h;obtain ⟨i,j,rfl,rfl,hc,q⟩:=h;obtain ⟨t,rfl⟩:=rx;obtain ⟨t',rfl⟩:=ry;exact rule i j t t' s _ _ hc ⟨.int (g i j),H,I.tok _,⟨_,rfl⟩,q⟩
def qoC {f:Value->Value->Sem Value} {g:Int->Int->Int}
  (rule:∀ (i j:Int) (t u:Tok) (s:Shared) (Q:Value->Shared->Prop) (E:Value->Shared->Prop),Q (.int (g i j) s.toks) { s with toks:=s.toks+1 }->wpAny (model X.prog X.w) X.A (f (.int i t) (.int j u)) Q E s) :
  OpR X f (rI0 λi j=>.int (g i j)):=by
 intro pins s σ H x y v u Q I rx ry h;obtain ⟨i,j,rfl,rfl,q⟩:=h;obtain ⟨t,rfl⟩:=rx;obtain ⟨t',rfl⟩:=ry;exact rule i j t t' s _ _ ⟨.int (g i j),H,I.tok _,⟨_,rfl⟩,q⟩
def ql9 {f:Value->Value->Sem Value} {g:Int->Int->Bool}
  (rule:∀ (i j:Int) (t u:Tok) (s:Shared) (Q:Value->Shared->Prop) (E:Value->Shared->Prop),Q (.bool (g i j)) s->wpAny (model X.prog X.w) X.A (f (.int i t) (.int j u)) Q E s) :
  OpR X f (rI0 λi j=>.bl (g i j)):=by
 intro pins s σ H x y v u Q I rx ry h;obtain ⟨i,j,rfl,rfl,q⟩:=h;obtain ⟨t,rfl⟩:=rx;obtain ⟨t',rfl⟩:=ry;exact rule i j t t' s _ _ ⟨.bl (g i j),H,I,rfl,q⟩
def qcJ (i j:Int):Prop:=0<j/\j<1073741824
def MV (i j:Int):Prop:=0<=j/\j<=1000000/\i.natAbs<2 ^ 64
def JD (i j:Int):Prop:=(-(2 ^ 64)<i/\i<2 ^ 64)\/(-(2 ^ 64)<j/\j<2 ^ 64)
def JD.ok {i j:Int} (h:JD i j):IntMulOk i j:=by
 rcases h with ⟨h1,h2⟩|⟨h1,h2⟩
 ·exact .of_left (intBits_le_64 h1 h2)
 ·exact .of_right (intBits_le_64 h1 h2)
def qhX:OpR X (binaryOp .Add) (rI0 λi j=>.int (i+j)):=qoC λ_ _ _ _ _ _ _ q=>add_int q
def qj1:OpR X (binaryOp .Sub) (rI0 λi j=>.int (i-j)):=qoC λ_ _ _ _ _ _ _ q=>sub_int q
def qjV:OpR X (binaryOp .Mult) (rI JD λi j=>.int (i*j)):=opI λ_ _ _ _ _ _ _ hc q=>mul_int q hc.ok
def qgu:OpR X (binaryOp .FloorDiv) (rI qcJ λi j=>.int (i/j)):=opI λi j _ _ _ _ _ hc q=>by
 have h1:(0:Int)<j:=hc.1;have h2:j<1073741824:=hc.2;exact floordiv_int (by omega) (by rw [Int.fdiv_eq_ediv_of_nonneg i (by omega)];exact q) (.inl (PyProof.noPylong_small (by omega)))
def qgV:OpR X (binaryOp .Mod) (rI (λ_ j=>0<j) λi j=>.int (i%j)):=opI λi j _ _ _ _ _ hc q=>by
 have h1:(0:Int)<j:=hc;exact mod_int' (by omega) (by rw [Int.fmod_eq_emod_of_nonneg i (by omega)];exact q)
def qj8:OpR X (binaryOp .Pow) (rI MV λi j=>.int (i ^ j.toNat)):=opI λ_ _ _ _ _ _ _ hc q=>pow_int_small hc.1 hc.2.1 hc.2.2 q
def qiZ:OpR X (binaryOp .LShift) (rI MV λi j=>.int (i*2 ^ j.toNat)):=opI λ_ _ _ _ _ _ _ hc q=>lshift_int_small hc.1 hc.2.1 hc.2.2 q
def unI {f:Value->Sem Value} {g:Int->Int}
  (rule:∀ (i:Int) (t:Tok) (s:Shared) (Q:Value->Shared->Prop) (E:Value->Shared->Prop),Q (.int (g i) s.toks) { s with toks:=s.toks+1 }->wpAny (model X.prog X.w) X.A (f (.int i t)) Q E s) :
  UnR X f (rU λi=>.int (g i)):=by
 intro pins s σ H x v Q I rx h;obtain ⟨i,rfl,q⟩:=h;obtain ⟨t,rfl⟩:=rx;exact rule i t s _ _ ⟨.int (g i),H,I.tok _,⟨_,rfl⟩,q⟩
def qkf:UnR X (unaryOp .USub) (rU λi=>.int (-i)):=unI λ_ _ _ _ _ q=>neg_int q
end
def qn8:V->V->Bool
 |.non,.non=>true|.non,.int _=>true|.int _,.non=>true|.non,.bl _=>true|.bl _,.non=>true|.non,.str _=>true|.str _,.non=>true
 |.int _,.int _=>true|.bl _,.bl _=>true|.str _,.str _=>true|.byt _,.byt _=>true
 |.int _,.str _=>true|.str _,.int _=>true|.bl _,.str _=>true|.str _,.bl _=>true
 |_,_=>false
def rEq:R2:=λx y H Q=>qn8 x y=true/\Q (.bl (decide (x=y))) H
def rNe:R2:=λx y H Q=>qn8 x y=true/\Q (.bl (!decide (x=y))) H
def qa3 {i j:Int}:decide (V.int i=V.int j)=(i==j):=by
 rw [Bool.eq_iff_iff];simp
def qez {i j:Bool}:decide (V.bl i=V.bl j)=(i==j):=by
 rw [Bool.eq_iff_iff];simp
def qaH {i j:Str}:decide (V.str i=V.str j)=(i==j):=by
 rw [Bool.eq_iff_iff];simp
def qaB {i j:Array UInt8}:decide (V.byt i=V.byt j)=(i.toList==j.toList):=by
 rw [Bool.eq_iff_iff];cases i;cases j;simp
section
variable {X:Cx} {a b c:Expr} {ta tb tc:TE} {pos:Pos}
def qZ {pins:List (Addr×Obj)} {σ:St} {H:Hp} {s:Shared} {Q:VK} {k k':Bool} (I:Inv X pins σ H s) (q:Q (.bl k) H) (e:k=k'):EP X pins σ Q (.bool k') s:=by
 subst e;exact ⟨.bl k,H,I,rfl,q⟩
def qnI:OpR X (compareOp .Eq) rEq:=by
 intro pins s σ H x y v u Q I rx ry h;obtain ⟨hs,q⟩:=h;cases x with
 |non=>
  cases rx;cases y with
  |non=>cases ry;exact PySem.EqNone.eq_none_none (qZ I q (by simp))
  |bl j=>cases ry;exact PySem.EqNone.eq_none_bool (qZ I q (by simp))
  |int j=>obtain ⟨t',rfl⟩:=ry;exact PySem.EqNone.eq_none_int (qZ I q (by simp))
  |str j=>obtain ⟨t',rfl⟩:=ry;exact PySem.EqNone.eq_none_str (qZ I q (by simp))
  |_=>exact absurd (show false=true from hs) Bool.false_ne_true
 |bl i=>
  cases rx;cases y with
  |non=>cases ry;exact PySem.EqNone.eq_bool_none (qZ I q (by simp))
  |bl j=>cases ry;exact eq_bool (qZ I q qez)
  |str j=>obtain ⟨t',rfl⟩:=ry;exact PySem.EqMixed.eq_bool_str (qZ I q (by simp))
  |_=>exact absurd (show false=true from hs) Bool.false_ne_true
 |int i=>
  obtain ⟨t,rfl⟩:=rx;cases y with
  |non=>cases ry;exact PySem.EqNone.eq_int_none (qZ I q (by simp))
  |int j=>obtain ⟨t',rfl⟩:=ry;exact eq_int (qZ I q qa3)
  |str j=>obtain ⟨t',rfl⟩:=ry;exact PySem.EqMixed.eq_int_str (qZ I q (by simp))
  |_=>exact absurd (show false=true from hs) Bool.false_ne_true
 |str i=>
  obtain ⟨t,rfl⟩:=rx;cases y with
  |non=>cases ry;exact PySem.EqNone.eq_str_none (qZ I q (by simp))
  |bl j=>cases ry;exact PySem.EqMixed.eq_str_bool (qZ I q (by simp))
  |int j=>obtain ⟨t',rfl⟩:=ry;exact PySem.EqMixed.eq_str_int (qZ I q (by simp))
  |str j=>obtain ⟨t',rfl⟩:=ry;exact eq_str (qZ I q qaH)
  |_=>exact absurd (show false=true from hs) Bool.false_ne_true
 |byt i=>
  obtain ⟨t,rfl⟩:=rx;cases y with
  |byt j=>obtain ⟨t',rfl⟩:=ry;exact PySem.W.eq_bytes (qZ I q qaB)
  |_=>exact absurd (show false=true from hs) Bool.false_ne_true
 |_=>cases y<;>exact absurd (show false=true from hs) Bool.false_ne_true
def qnC:OpR X (compareOp .NotEq) rNe:=by
 intro pins s σ H x y v u Q I rx ry h;obtain ⟨hs,q⟩:=h;cases x with
 |non=>
  cases rx;cases y with
  |non=>cases ry;exact PySem.EqNone.ne_none_none (qZ I q (by simp))
  |bl j=>cases ry;exact PySem.EqNone.ne_none_bool (qZ I q (by simp))
  |int j=>obtain ⟨t',rfl⟩:=ry;exact PySem.EqNone.ne_none_int (qZ I q (by simp))
  |str j=>obtain ⟨t',rfl⟩:=ry;exact PySem.EqNone.ne_none_str (qZ I q (by simp))
  |_=>exact absurd (show false=true from hs) Bool.false_ne_true
 |bl i=>
  cases rx;cases y with
  |non=>cases ry;exact PySem.EqNone.ne_bool_none (qZ I q (by simp))
  |bl j=>cases ry;exact ne_bool (qZ I q (congrArg not qez))
  |str j=>obtain ⟨t',rfl⟩:=ry;exact PySem.EqMixed.ne_bool_str (qZ I q (by simp))
  |_=>exact absurd (show false=true from hs) Bool.false_ne_true
 |int i=>
  obtain ⟨t,rfl⟩:=rx;cases y with
  |non=>cases ry;exact PySem.EqNone.ne_int_none (qZ I q (by simp))
  |int j=>obtain ⟨t',rfl⟩:=ry;exact ne_int (qZ I q (congrArg not qa3))
  |str j=>obtain ⟨t',rfl⟩:=ry;exact PySem.EqMixed.ne_int_str (qZ I q (by simp))
  |_=>exact absurd (show false=true from hs) Bool.false_ne_true
 |str i=>
  obtain ⟨t,rfl⟩:=rx;cases y with
  |non=>cases ry;exact PySem.EqNone.ne_str_none (qZ I q (by simp))
  |bl j=>cases ry;exact PySem.EqMixed.ne_str_bool (qZ I q (by simp))
  |int j=>obtain ⟨t',rfl⟩:=ry;exact PySem.EqMixed.ne_str_int (qZ I q (by simp))
  |str j=>obtain ⟨t',rfl⟩:=ry;exact ne_str (qZ I q (congrArg not qaH))
  |_=>exact absurd (show false=true from hs) Bool.false_ne_true
 |byt i=>
  obtain ⟨t,rfl⟩:=rx;cases y with
  |byt j=>obtain ⟨t',rfl⟩:=ry;exact PySem.W.ne_bytes (qZ I q (congrArg not qaB))
  |_=>exact absurd (show false=true from hs) Bool.false_ne_true
 |_=>cases y<;>exact absurd (show false=true from hs) Bool.false_ne_true
def SX:OpR X (compareOp .Lt) (rI0 λi j=>.bl (decide (i<j))):=ql9 λ_ _ _ _ _ _ _ q=>lt_int q
def qlR:OpR X (compareOp .LtE) (rI0 λi j=>.bl (decide (i<=j))):=ql9 λ_ _ _ _ _ _ _ q=>le_int q
def qbQ:OpR X (compareOp .Gt) (rI0 λi j=>.bl (decide (j<i))):=ql9 λ_ _ _ _ _ _ _ q=>gt_int q
def qow:OpR X (compareOp .GtE) (rI0 λi j=>.bl (decide (j<=i))):=ql9 λ_ _ _ _ _ _ _ q=>ge_int q
def qlg:OpR X (compareOp .Is) (λx y H Q=>y=.non/\Q (.bl (decide (x=.non))) H):=by
 intro pins s σ H x y v u Q I rx ry h;obtain ⟨rfl,q⟩:=h;cases ry;refine is_none_gen (qZ I q ?_);cases x<;>first
  | (cases rx;rfl)
  | (obtain ⟨t,rfl⟩:=rx;rfl)
def OpR.or {f:Value->Value->Sem Value} {r r':R2} (h:OpR X f r) (h':OpR X f r'):OpR X f (λx y H Q=>r x y H Q\/r' x y H Q):=by
 intro pins s σ H x y v u Q I rx ry q;rcases q with q|q
 ·exact h pins s σ H x y v u Q I rx ry q
 ·exact h' pins s σ H x y v u Q I rx ry q
def qK (b:Expr) {op:CmpOp} (h:op≠.In:=by decide) (h2:op≠.NotIn:=by decide):behindInMarks op b=false:=by
 have e1:(op==CmpOp.In)=false:=by cases op<;>first|rfl|exact absurd rfl h
 have e2:(op==CmpOp.NotIn)=false:=by cases op<;>first|rfl|exact absurd rfl h2
 cases b<;>simp [behindInMarks,e1,e2]
def qgl {op:CmpOp} {r:R2} (ho:OpR X (compareOp op) r) (ha:PE X a ta) (hb:PE X b tb) (hm:behindInMarks op b=false):PE X (.Compare a [op] [b] pos) (tOp r ta tb):=by
 intro pins s σ H Q I h;exact wpAny_Compare1 (qmT ha hb I h λv u s2 x y H2 I2 rx ry q=>ho pins s2 σ H2 x y v u Q I2 rx ry q) hm
def qh7 (t:TE):TT:=λσ H Q=>t σ H λx H'=>∃ k,x=.bl k/\Q k H'
def qfG {op:CmpOp} {r:R2} (ho:OpR X (compareOp op) r) (ha:PE X a ta) (hb:PE X b tb) (hm:behindInMarks op b=false):PT X (.Compare a [op] [b] pos) (qh7 (tOp r ta tb)):=by
 intro pins s σ H Q I h;refine wpAny_isTrue_Compare1 (thn (ha pins s σ H _ I h) λv s1 ⟨x,H1,I1,r1,q1⟩=>thn (hb pins s1 σ H1 _ I1 q1) λu s2 ⟨y,H2,I2,r2,q2⟩=>
  thn (ho pins s2 σ H2 x y v u _ I2 r1 r2 q2) λc s3 ⟨z,H3,I3,r3,k,e,q3⟩=>?_) hm
 subst e;cases r3;exact wpAny_truthy_bool ⟨H3,I3,q3⟩
def qcL (r r':R2) (ta tb tc:TE):TE:=λσ H Q=>ta σ H λx H1=>tb σ H1 λy H2=>r x y H2 λz H3=>∃ k,z=.bl k /\
 (if k=true then tc σ H3 λw' H4=>r' y w' H4 Q else Q (.bl false) H3)
def qcj {op op':CmpOp} {r r':R2} (ho:OpR X (compareOp op) r) (ho':OpR X (compareOp op') r') (ha:PE X a ta) (hb:PE X b tb) (hc:PE X c tc)
  (hm:lastMarks [op,op'] [b,c]=false:=by with_unfolding_all rfl):PE X (.Compare a [op,op'] [b,c] pos) (qcL r r' ta tb tc):=by
 intro pins s σ H Q I h;refine Compare_chain (thn (ha pins s σ H _ I h) λv s1 ⟨x,H1,I1,r1,q1⟩=>chain_link (thn (hb pins s1 σ H1 _ I1 q1) λu s2 ⟨y,H2,I2,r2,q2⟩=>
  thn (ho pins s2 σ H2 x y v u _ I2 r1 r2 q2) λd s3 ⟨z,H3,I3,r3,k,e,q3⟩=>?_)) hm
 subst e;cases r3;refine wpAny_truthy_bool ?_;cases k with
 |false=>exact ite_ff ⟨.bl false,H3,I3,rfl,q3⟩
 |true=>exact ite_tt (chain_last (thn (hc pins s3 σ H3 _ I3 q3) λw' s4 ⟨z',H4,I4,r4,q4⟩=>ho' pins s4 σ H4 y z' u w' Q I4 r2 r4 q4))
def RU:(sizeLine:Nat)<2 ^ 63:=by rw [sizeLine_eq];decide
def XJ {x:V} {us:List Value} (r:zQ [x] us):∃ u,us=[u]/\jg x u:=by
 cases r with
 |cons r1 r2=>cases r2;exact ⟨_,rfl,r1⟩
def N6 {x y:V} {us:List Value} (r:zQ [x,y] us):∃ u w',us=[u,w']/\jg x u/\jg y w':=by
 cases r with
 |cons r1 r2=>
  cases r2 with
  |cons r3 r4=>cases r4;exact ⟨_,_,rfl,r1,r3⟩
def LC:J6 X (.builtin "abs") (λxs H Q=>∃ i,xs=[.int i]/\Q (.int (if i<0 then -i else i)) H):=by
 intro pins s σ H xs us Q I r h;obtain ⟨i,rfl,q⟩:=h;obtain ⟨u,rfl,t,rfl⟩:=XJ r;exact call_abs_int λu tk=>⟨.int (if i<0 then -i else i),H,I.tok _,⟨_,rfl⟩,q⟩
def qal (hc:X.calm=true):J6 X (.builtin "min") (λxs H Q=>∃ i j,xs=[.int i,.int j]/\Q (.int (if j<i then j else i)) H):=by
 intro pins s σ H xs us Q I r h;obtain ⟨i,j,rfl,q⟩:=h;obtain ⟨u,w',rfl,⟨t,rfl⟩,⟨t',rfl⟩⟩:=N6 r;refine min_two_ints (I.ok.hd hc) λh' tk k=>⟨_,H,I.kept k,?_,q⟩
 by_cases hj:j<i
 ·rw [if_pos hj,if_pos hj];exact ⟨_,rfl⟩
 ·rw [if_neg hj,if_neg hj];exact ⟨_,rfl⟩
def Y8:J6 X (.type "int") (λxs H Q=>(∃ i,xs=[.int i]/\Q (.int i) H)\/∃ k,xs=[.bl k]/\Q (.int (if k then 1 else 0)) H):=by
 intro pins s σ H xs us Q I r h;rcases h with ⟨i,rfl,q⟩|⟨k,rfl,q⟩
 ·obtain ⟨u,rfl,t,rfl⟩:=XJ r;exact call_int_int ⟨.int i,H,I,⟨_,rfl⟩,q⟩
 ·obtain ⟨u,rfl,r1⟩:=XJ r;cases r1;exact call_int_bool ⟨.int (if k then 1 else 0),H,I.tok _,⟨_,rfl⟩,q⟩
def qo6 (K:Frg) (x:V) (H:Hp) (n:Nat):Prop:=
 match x with
 |.str y=>y.length<=sizeLine/\n=y.length
 |.byt y=>y.size<=sizeLine/\n=y.size
 |.ref p=>(∃ xs,SqL K H p xs/\n=xs.length)\/∃ xs,SqT K H p xs/\n=xs.length
 |_=>False
def jp:J6 X (.builtin "len") (λxs H Q=>∃ x n,xs=[x]/\qo6 X.K x H n/\Q (.int n) H):=by
 intro pins s σ H xs us Q I r h;obtain ⟨x,n,rfl,e,q⟩:=h;obtain ⟨u,rfl,rx⟩:=XJ r;have hl:=RU;have hs:sizeLine=16777216:=sizeLine_eq;cases x with
 |str y=>
  obtain ⟨t,rfl⟩:=rx;obtain ⟨hy,e'⟩:y.length<=sizeLine/\n=y.length:=e;subst e';exact len_str (by omega) ⟨.int _,H,I.tok _,⟨_,rfl⟩,q⟩
 |byt y=>
  obtain ⟨t,rfl⟩:=rx;obtain ⟨hy,e'⟩:y.size<=sizeLine/\n=y.size:=e;subst e';exact PySem.W.len_bytes (by omega) ⟨.int _,H,I.tok _,⟨_,rfl⟩,q⟩
 |ref p=>
  cases rx;have e':(∃ xs,SqL X.K H p xs/\n=xs.length)\/∃ xs,SqT X.K H p xs/\n=xs.length:=e;rcases e' with ⟨xs,hx,e'⟩|⟨xs,hx,e'⟩
  ·subst e';obtain ⟨its,r',pl,hz⟩:=I.list hx;have hlen:=r'.length;exact Calls.call_len_list pl.isList (by simp only [size_toArray];omega) ⟨.int xs.length,H,I.tok _,⟨_,by simp only [size_toArray];rw [hlen]⟩,q⟩
  ·subst e';obtain ⟨its,r',pl,hz⟩:=I.tuple hx;have hlen:=r'.length;exact len_tuple pl (by simp only [size_toArray];omega) ⟨.int xs.length,H,I.tok _,⟨_,by simp only [size_toArray];rw [hlen]⟩,q⟩
 |_=>exact (show False from e).elim
end
section
variable {prog:Program} {w:World} {A:Around} {E:Value->Shared->Prop} {s:Shared} {K:Frg} {x dx C f:Addr} {mA:Str->Option Value} {name:Str} {v:Value}
end
section
variable {P:Program} {w:World} {H H':Hp} {h h':Heap} {a C dx:Addr} {fs fs':List (Str×V)}
end
section
variable {X:Cx} {pins:List (Addr×Obj)} {σ:St} {H:Hp} {s:Shared} {a C dx:Addr} {fs:List (Str×V)} {f:Str} {v:V} {A:Around} {E:Value->Shared->Prop}
end
section
variable {X:Cx} {o e value:Expr} {f:Str} {pos pos' tpos:Pos} {ta tv:TE}
end
section
variable {X:Cx} {pins:List (Addr×Obj)} {σ:St} {H:Hp} {s:Shared} {A:Around} {E:Value->Shared->Prop} {Q:Value->Shared->Prop} {c:Value} {b:Bool}
end
structure Room (k:Nat) (A:Around):Prop where
 hd:A.handled=none
 dp:A.depth+3*k+5<recursionLimit
 un:A.units+16*k+200<cLine
 gd:A.guards=some []
def Room.mono {j k:Nat} {A:Around} (r:Room k A) (h:j<=k):Room j A:=⟨r.hd,by have:=r.dp;omega,by have:=r.un;omega,r.gd⟩
def Room.deeper {k:Nat} {A:Around} (r:Room (k+1) A) (env:Env):Room k (A.deeper env):=
 ⟨r.hd,by have:=r.dp;show A.depth+1+3*k+5<_;omega,by have:=r.un;show A.units+3+16*k+200<_;omega,r.gd⟩
def Room.in1 {k:Nat} {A:Around} (r:Room (k+1) A):Room k A.in1:=
 ⟨r.hd,by have:=r.dp;show A.depth+3*k+5<_;omega,by have:=r.un;show A.units+1+16*k+200<_;omega,r.gd⟩
def Room.depth {k:Nat} {A:Around} (r:Room k A):A.depth<recursionLimit:=by have:=r.dp;omega
def Room.units {k:Nat} {A:Around} (r:Room k A):A.units+64<cLine:=by have:=r.un;omega
def qpj:TA:=λ_ H Q=>Q [] H
def qnc (ta:TE) (tr:TA):TA:=λσ H Q=>ta σ H λx H1=>tr σ H1 λxs H2=>Q (x::xs) H2
section
variable {X:Cx} {e:Expr} {es:List Expr} {te:TE} {t:TA} {pos:Pos}
def RK:PA X [] qpj:=λ_ _ _ _ H Q I h=>Calls.spliced_nil ⟨[],H,I,.nil,h⟩
def JJ (ha:PE X e te) (hr:PA X es t) (hs:starEach (e::es) X.env=(false,eval e X.env)::starEach es X.env:=by rfl):PA X (e::es) (qnc te t):=by
 intro pos pins s σ H Q I h;rw [hs];show wpAny _ _ (spliced ((false,eval e X.env)::backTo pos (starEach es X.env))) _ _ s;refine Calls.spliced_cons (thn (ha pins s σ H _ I h) λu s1 ⟨x,H1,I1,r1,q1⟩=>?_);exact thn (hr pos pins s1 σ H1 _ I1 q1) λus s2 ⟨xs,H2,I2,r2,q2⟩=>⟨x::xs,H2,I2,.cons r1 r2,q2⟩
def qpo (t:TA):TE:=λσ H Q=>t σ H λxs H1=>xs.length<=sizeLine/\∀ p,H1 p=none->Q (.ref p) (upd H1 p (.tup xs))
def qpq (t:TA):TE:=λσ H Q=>t σ H λxs H1=>xs.length<=sizeLine/\∀ p,H1 p=none->Q (.ref p) (upd H1 p (.lst xs))
def qdr {x1} (h:PA X es t):PE X (.Tuple es x1 pos) (qpo t):=by
 intro pins s σ H Q I hq;refine wpAny_Tuple_spliced (thn (h pos pins s σ H _ I hq) λus s1 ⟨xs,H1,I1,r,z,q⟩=>⟨by rw [← r.length];exact z,?_⟩);have hf:H1 s1.heap.objs.size=none:=I1.hok.fresh (Nat.le_refl _);refine ⟨.ref s1.heap.objs.size,upd H1 s1.heap.objs.size (.tup xs),I1.laid (t':=s1.toks) (λb u e=>Heap.get?_push_of_some _ e) (Nat.le_refl _) ?_,rfl,q _ hf⟩;exact ⟨z,us,r,⟨_,Heap.get?_push_size _ rfl,rfl,_,rfl⟩⟩
def qlq (h:PA X es t):PE X (.List es pos) (qpq t):=by
 intro pins s σ H Q I hq;refine wpAny_List_spliced (thn (h pos pins s σ H _ I hq) λus s1 ⟨xs,H1,I1,r,z,q⟩=>⟨by rw [← r.length];exact z,?_⟩);have hf:H1 s1.heap.objs.size=none:=I1.hok.fresh (Nat.le_refl _);refine ⟨.ref s1.heap.objs.size,upd H1 s1.heap.objs.size (.lst xs),I1.laid (t':=s1.toks) (λb u e=>Heap.get?_push_of_some _ e) (Nat.le_refl _) ?_,rfl,q _ hf⟩;exact ⟨z,us,0,r,Heap.get?_push_size _ rfl⟩
end
abbrev Sp:=List V->Hp->VK->XK->Prop
abbrev CXT:=List Env->Hp->Shared->XK->Value->Shared->Prop
structure Env0 (P:Program) (w:World) (K:Frg) (mg:Str->Option Value) (base:Heap) (A:Around) (outer:List Env) (s:Shared) (H:Hp):Prop where
 frames:A.frames=some outer
 mod:Mod K mg base
 bs:∀ b o,base.get? b=some o->s.heap.get? b=some o/\H b=none
 bsz:base.objs.size<=s.heap.objs.size
 funs:s.heap.FunFrames base outer
 frf:∀ b∈frs outer,H b=none
 hok:HOk P w H s.heap
 bare:AllBare s.gens
def CE (outer:List Env) (P:Program) (w:World) (H:Hp) (s:Shared) (Q:VK) (u:Value) (s':Shared):Prop:=
 ∃ v H',s'.os=s.os/\AllBare s'.gens/\Un (frs outer) [] H H' s.heap s'.heap/\HOk P w H' s'.heap/\jg v u/\Q v H'
def CR (CX:CXT) (outer:List Env) (P:Program) (w:World) (H:Hp) (s:Shared) (Q:VK) (E:XK) (r:Result) (s':Shared):Prop:=
 match r with
 |.ok (.ret u)=>CE outer P w H s Q u s'
 |.ok _=>False
 |.error e=>CX outer H s E e s'
structure FnOk (P:Program) (w:World) (K:Frg) (mg:Str->Option Value) (base:Heap) (CX:CXT) (k:Nat) (f:Addr) (fd:FuncData) (ps:List Str) (sp:Sp):Prop where
 len:∀ vs H Q E,sp vs H Q E->vs.length=ps.length
 run:∀ (A:Around) (outer:List Env) (s:Shared) (H:Hp) (args:Args) (us:List Value) (vs:List V) (Q:VK) (E:XK),Room k A->Env0 P w K mg base A outer s H->BindsTo s fd args (ps.zip us)->zQ vs us->sp vs H Q E ->
  codeAny (model P w) A (.call (.ref f) args) (CR CX outer P w H s Q E) s
def FnOk.mono {P:Program} {w:World} {K:Frg} {mg:Str->Option Value} {base:Heap} {CX:CXT} {j k:Nat} {f:Addr} {fd:FuncData} {ps:List Str} {sp:Sp} (F:FnOk P w K mg base CX j f fd ps sp) (h:j<=k) :
  FnOk P w K mg base CX k f fd ps sp:=⟨F.len,λA outer s H args us vs Q E hr=>F.run A outer s H args us vs Q E (hr.mono h)⟩
def Env0.in1 {P:Program} {w:World} {K:Frg} {mg:Str->Option Value} {base:Heap} {A:Around} {outer:List Env} {s:Shared} {H:Hp} (e:Env0 P w K mg base A outer s H) :
  Env0 P w K mg base A.in1 outer s H:=⟨e.frames,e.mod,e.bs,e.bsz,e.funs,e.frf,e.hok,e.bare⟩
section
variable {X:Cx} {pins:List (Addr×Obj)} {σ:St} {H:Hp} {s s':Shared}
def Inv.env0 (I:Inv X pins σ H s):Env0 X.prog X.w X.K X.mg X.base X.A X.stack s H:=
 ⟨I.ok.frames,I.ok.mod,I.bs,Nat.le_trans I.ok.bsz I.sz,I.stack,I.stkFree,I.hok,I.bare⟩
def Inv.after {Q:VK} {u:Value} (I:Inv X pins σ H s) (h:CE X.stack X.prog X.w H s Q u s'):EP X pins σ Q u s':=by
 obtain ⟨v,H',os,bare,un,hok,r,q⟩:=h;obtain ⟨hh,g,d,t,os'⟩:=s';obtain rfl:os'=s.os:=os;exact ⟨v,H',I.call (h':=hh) (g':=g) (d':=d) (t':=t) (ch:=[]) un hok bare (λb z=>absurd z (by simp)),r,q⟩
end
def qmC (sp:Sp) (dvs:List V) (E:XK) (t:TA):TE:=λσ H Q=>t σ H λvs H1=>sp (vs++dvs) H1 Q E
def zm (K:Frg) (fd:FuncData) (ps:List Str) (ds:List Value):Prop:=
 ∀ (s:Shared) (us:List Value),K.In s.heap->(us++ds).length=ps.length->BindsTo s fd ⟨us,[]⟩ (ps.zip (us++ds))
def zm.all {K:Frg} {fd:FuncData} {ps:List Str} (h:∀ us:List Value,us.length=ps.length->bindArgs fd ⟨us,[]⟩=pure (ps.zip us)):zm K fd ps []:=λs us _ hl=>by
 rw [List.append_nil] at hl ⊢;exact .of_eq (h us hl)
def qag (CX:CXT) (X:Cx) (E:XK):Prop:=∀ (pins:List (Addr×Obj)) (σ:St) (H:Hp) (s:Shared) (e:Value) (s':Shared),Inv X pins σ H s->CX X.stack H s E e s'->X.xe e s'
section
variable {X:Cx} {CX:CXT} {k:Nat} {f C:Addr} {fd:FuncData} {ps:List Str} {sp:Sp} {dvs:List V} {ds:List Value} {E:XK} {x m:Str} {p pos apos:Pos} {e o:Expr} {es:List Expr} {ta:TE} {t:TA}
def qhg {pins:List (Addr×Obj)} {σ:St} {H:Hp} {s:Shared} {Q:VK} {us:List Value} {vs:List V} (F:FnOk X.prog X.w X.K X.mg X.base CX k f fd ps sp) (hr:Room k X.A) (hb:zm X.K fd ps ds) (hd:zQ dvs ds) (hx:qag CX X E)
  (I:Inv X pins σ H s) (r:zQ vs us) (h:sp (vs++dvs) H Q E):wpAny (model X.prog X.w) X.A (call (.ref f) us) (EP X pins σ Q) X.xe s:=by
 have r2:zQ (vs++dvs) (us++ds):=r.append hd;have hl:(us++ds).length=ps.length:=by rw [← r2.length];exact F.len _ _ _ _ h
 refine wpAny_call (codeAny_mono (F.run X.A X.stack s H ⟨us,[]⟩ (us++ds) (vs++dvs) Q E hr I.env0 (hb s us I.kIn hl) r2 h) λr s' hq=>?_);cases r with
 |error e=>exact hx pins σ H s e s' I hq
 |ok fl=>
  cases fl with
  |ret u=>exact I.after hq
  |next=>exact False.elim hq
  |brk=>exact False.elim hq
  |cont=>exact False.elim hq
def qfJ (F:FnOk X.prog X.w X.K X.mg X.base CX k f fd ps sp) (hr:Room k X.A) (hg:Gl X x) (hm:X.mg x=some (.ref f)) (hk:PySem.W.keepIn X.K (.ref f)=true) (hb:zm X.K fd ps ds) (hd:zQ dvs ds) (hx:qag CX X E)
  (ha:PA X (e::es) t) (hdb:(x==("__debug__" : Str))=false:=by decide) (he:starEach (e::es) X.env=(false,eval e X.env)::starEach es X.env:=by rfl) (hpl:(backTo pos (starEach es X.env)).any (·.1)=false:=by rfl) :
  PE X (.Call (.Name x p) (e::es) [] pos) (qmC sp dvs E t):=by
 intro pins s σ H Q I h;refine wpAny_Call_Name_kw (DU I hg hm ?_ hdb);refine PySem.W.callWith_K (h₀:=X.base) I.ok.mod.kin hk (thn (ha pos pins s σ H _ I h) λus s1 ⟨vs,H1,I1,r,q⟩=>⟨I1.kIn,?_⟩) he hpl;exact qhg F hr hb hd hx I1 r q
end
section
variable {X:Cx} {CX:CXT} {k:Nat} {f C:Addr} {fd:FuncData} {ps ks:List Str} {sp:Sp} {E:XK} {x m:Str} {p pos apos kpos:Pos} {e o:Expr} {es:List Expr} {kws:List Keyword} {te ta:TE} {t tk:TA} {nm:Option Str}
variable {g:List Value->List Value->List Value} {gV:List V->List V->List V}
end
structure FnScope (N P:List Str) (sc:Scope):Prop where
 kind:sc.kind=.function
 co:sc.isCoroutine=false
 gen:sc.isGenerator=false
 nd:N.Nodup
 pre:N.take P.length=P
 par:∀ x∈P,sc.names.lookup x=some .local\/sc.names.lookup x=some .cell
 nofree:∀ y∈sc.names,y.2≠.free
def R5 {kindOf:Str->Option NameKind} {x:Str}:∀ {binds:List (Str×Value)} {m:Str->Option Value},(∀ v,(x,v)∉binds)->bindL kindOf binds m x=m x
 |[],_,_=>rfl
 | (n,v)::r,m,h=>by
  unfold bindL;rw [R5 λw hw=>h w (List.mem_cons_of_mem _ hw)];split
  ·have:x≠n:=by rintro rfl;exact h v List.mem_cons_self
   simp [this]
  ·rfl
def RH {kindOf:Str->Option NameKind} {x:Str}:∀ {binds:List (Str×Value)} {m:Str->Option Value},(∀ v,(x,v)∉binds)->bindC kindOf binds m x=m x
 |[],_,_=>rfl
 | (n,v)::r,m,h=>by
  unfold bindC;rw [RH λw hw=>h w (List.mem_cons_of_mem _ hw)];split
  ·rfl
  ·have:x≠n:=by rintro rfl;exact h v List.mem_cons_self
   simp [this]
def R0 {kindOf:Str->Option NameKind} {x:Str} {v:Value}:∀ {P:List Str} {vs:List Value} {i:Nat} {m:Str->Option Value},P.Nodup->P[i]?=some x->vs[i]?=some v->kindOf x=some .local ->
  bindL kindOf (P.zip vs) m x=some v
 |[],_,_,_,_,h,_,_=>by simp at h
 |_::_,[],_,_,_,_,h,_=>by simp at h
 |p::P,w::vs,0,m,nd,h1,h2,hk=>by
  simp at h1 h2;subst h1;subst h2;show bindL kindOf ((p,w)::P.zip vs) m p=_;unfold bindL;rw [R5 λv hv=>(List.nodup_cons.mp nd).1 (List.of_mem_zip hv).1,if_pos hk];simp
 |p::P,w::vs,i+1,m,nd,h1,h2,hk=>by
  show bindL kindOf ((p,w)::P.zip vs) m x=_;unfold bindL;exact R0 (i:=i) (List.nodup_cons.mp nd).2 (by simpa using h1) (by simpa using h2) hk
def RR {kindOf:Str->Option NameKind} {x:Str} {v:Value}:∀ {P:List Str} {vs:List Value} {i:Nat} {m:Str->Option Value},P.Nodup->P[i]?=some x->vs[i]?=some v->kindOf x≠some .local ->
  bindC kindOf (P.zip vs) m x=some v
 |[],_,_,_,_,h,_,_=>by simp at h
 |_::_,[],_,_,_,_,h,_=>by simp at h
 |p::P,w::vs,0,m,nd,h1,h2,hk=>by
  simp at h1 h2;subst h1;subst h2;show bindC kindOf ((p,w)::P.zip vs) m p=_;unfold bindC;rw [RH λv hv=>(List.nodup_cons.mp nd).1 (List.of_mem_zip hv).1,if_neg hk];simp
 |p::P,w::vs,i+1,m,nd,h1,h2,hk=>by
  show bindC kindOf ((p,w)::P.zip vs) m x=_;unfold bindC;exact RR (i:=i) (List.nodup_cons.mp nd).2 (by simpa using h1) (by simpa using h2) hk
def DR (N:List Str) (vs:List V):St:=vs.map some++List.replicate (N.length-vs.length) none
def U2 (CX:CXT) (P:Program) (w:World) (K:Frg) (mg:Str->Option Value) (base:Heap) (N:List Str) (qual:Str) (scope:Scope) (f:Addr) (cd:Value) (A:Around) (outer:List Env) (s:Shared) (H:Hp) (E:XK):Cx where
 prog:=P
 w:=w
 K:=K
 mg:=mg
 base:=base
 A:=A.deeper (envOfC qual scope s.heap.objs.size f cd)
 N:=N
 s₀:=s
 H₀:=H
 env:=envOfC qual scope s.heap.objs.size f cd
 outer:=outer
 stack:=envOfC qual scope s.heap.objs.size f cd::outer
 ex:=[]
 calm:=true
 fn:=λ_=>true
 pn:=[]
 xe:=λe s'=>wpAny (model P w) (A.deeper (envOfC qual scope s.heap.objs.size f cd)) (leaving (envOfC qual scope s.heap.objs.size f cd) e) (λ_ s''=>CX outer H s E e s'') (λe' s''=>CX outer H s E e' s'') s'
def KS {sc:Scope} {n:Nat} {x:Str} (h:sc.names.lookup x=some .cell):∃ c,(cellsFrom n sc.names []).lookup x=some c:=by
 have q:=PySem.W.cellsFrom_some sc.names n [] (.inl h);exact Option.isSome_iff_exists.mp q
def M8 {CX:CXT} {P:Program} {w:World} {K:Frg} {mg:Str->Option Value} {base:Heap} {N ps:List Str} {qual:Str} {scope:Scope} {f:Addr} {cd:Value} {A:Around} {outer:List Env} {s s1:Shared} {H:Hp} {E:XK} {us:List Value} {vs:List V}
  (S:FnScope N ps scope) (hd:A.handled=none) (e0:Env0 P w K mg base A outer s H) (hl:vs.length=ps.length) (r:zQ vs us)
  (x:InCallC s s.heap.objs.size (bindL (envOfC qual scope s.heap.objs.size f cd).kindOf (ps.zip us) λ_=>none) (cellsFrom (s.heap.objs.size+1) scope.names []) (bindC (envOfC qual scope s.heap.objs.size f cd).kindOf (ps.zip us) λ_=>none) s1) :
  Inv (U2 CX P w K mg base N qual scope f cd A outer s H E) [] (DR N vs) H s1:=by
 have hpl:ps.length<=N.length:=by have:=congrArg List.length S.pre;rw [List.length_take] at this;omega
 obtain ⟨h1,tk,rfl,hk⟩:=x.done;have noA:∀ b:Addr,b∉(U2 CX P w K mg base N qual scope f cd A outer s H E).ex:=λb z=>absurd (show b∈([]:List Addr) from z) (by simp);refine ⟨⟨e0.mod,S.kind,rfl,rfl,Nat.le_refl _,λy z c h1 h2=>?_,λy hy=>?_,λy c _ h=>?_,λ_=>hd,Around.frames_deeper e0.frames,.inr ⟨rfl,rfl⟩,λb z=>absurd z (noA b),e0.bs,e0.bsz,λb _ _=>noA b,λb z=>absurd z (noA b),e0.funs,e0.frf⟩,
  rfl,e0.bare,Un.kept hk,⟨_,x.toInCall.ns,λi y v h1 h2 h3=>?_⟩,λy c h=>⟨_,x.cell y c h⟩,e0.hok.fresh (Nat.le_refl _),λy c h=>?_,λp hp=>absurd (show p∈([]:List (Addr×Obj)) from hp) (by simp),e0.hok.kept hk,?_⟩
 ·exact name_of_addr x.apart (PySem.mem_of_lookup h1) (PySem.mem_of_lookup h2)
 ·have hy:scope.names.lookup y=some .cell\/scope.names.lookup y=some .free:=hy;rcases hy with hy|hy
  ·exact KS hy
  ·exact absurd rfl (S.nofree _ (PySem.mem_of_lookup hy))
 ·exact Nat.le_of_lt (x.above y c (PySem.mem_of_lookup h))
 ·have hi:i<vs.length:=by
   unfold DR at h2;by_cases hi:i<vs.length
   ·exact hi
   ·rw [List.getElem?_append_right (by simpa using hi)] at h2;rw [List.getElem?_replicate] at h2;split at h2<;>cases h2
  have ha:vs[i]?=some v:=by
   unfold DR at h2;rw [List.getElem?_append_left (by simpa using hi),getElem?_map] at h2;cases e:vs[i]? with
   |none=>rw [e] at h2;cases h2
   |some a=>rw [e] at h2;cases h2;rfl
  obtain ⟨u,hu,rv⟩:=r.get ha;have hp:ps[i]?=some y:=by
   rw [← S.pre,List.getElem?_take_of_lt (by omega)];exact h1
  have ndP:ps.Nodup:=by rw [← S.pre];exact S.nd.sublist (List.take_sublist _ _)
  refine ⟨u,rv,?_⟩;rcases S.par y (mem_of_getElem? hp) with k|k
  ·exact .inl ⟨k,R0 ndP hp hu k⟩
  ·obtain ⟨c,e⟩:=KS (n:=s.heap.objs.size+1) k;refine .inr ⟨.inl k,c,e,?_⟩;have q:=x.cell y c e;rw [RR ndP hp hu (by show scope.names.lookup y≠_;rw [k];decide)] at q;exact q
 ·exact e0.hok.fresh (Nat.le_of_lt (x.above y c (PySem.mem_of_lookup h)))
 ·unfold DR;show _=N.length;rw [length_append,length_map,List.length_replicate];omega
def qhf {CX:CXT} {P:Program} {w:World} {K:Frg} {mg:Str->Option Value} {base:Heap} {k:Nat} {f:Addr} {name qual:Str} {params:Arguments} {body:List Stmt} {scope:Scope} {dV kV doc pm cdv ct oc:Value} {an od:Option Addr}
  {osl:Array (Option Value)} {N ps:List Str} {sp:Sp} (lk:K.lookup f=some ⟨oc,od,.func (PySem.W.fnOf name qual params body scope dV kV doc pm an cdv ct),osl⟩) (hcd:PySem.W.codeIn K cdv qual=true) (S:FnScope N ps scope)
  (len:∀ vs H Q E,sp vs H Q E->vs.length=ps.length)
  (hbody:∀ (A:Around) (outer:List Env) (s:Shared) (H:Hp) (vs:List V) (Q:VK) (E:XK),Room k (A.deeper (envOfC qual scope s.heap.objs.size f cdv))->sp vs H Q E ->
   ∃ t,PSs (U2 CX P w K mg base N qual scope f cdv A outer s H E) body t/\t { nx:=λ_ H'=>Q .non H',rt:=Q } (DR N vs) H) :
  FnOk P w K mg base CX (k+1) f (PySem.W.fnOf name qual params body scope dV kV doc pm an cdv ct) ps sp:=by
 refine ⟨len,λA outer s H args us vs Q E hr e0 hb r hsp=>?_⟩;have hl:=len _ _ _ _ hsp;have KX:K.In s.heap:=e0.mod.kin.keeps λb o e=>(e0.bs b o e).1;have lim:s.heap.NoLimit:=e0.mod.nolimit.keeps λb o e=>(e0.bs b o e).1;have hkind:∀ y∈ps.zip us,scope.names.lookup y.1=some .local\/(scope.names.lookup y.1=some .cell/\((cellsFrom (s.heap.objs.size+1) scope.names []).lookup y.1).isSome=true):=λ⟨n,v⟩ hy=>by
  rcases S.par n (List.of_mem_zip hy).1 with q|q
  ·exact .inl q
  ·exact .inr ⟨q,PySem.W.cellsFrom_some _ _ _ (.inl q)⟩
 refine codeAny_call_function hr.depth (KX _ _ lk) rfl S.co S.gen rfl (PySem.W.codeRec_of KX hcd) (hb _ _ _ _ ?_);refine wpAny_newFunctionEnv_cells S.kind hkind λenv he s1 x=>?_;subst he;refine ⟨lim.keeps x.toInCall.keep,codeAny_func ?_⟩;obtain ⟨t,ht,hq⟩:=hbody A outer s H vs Q E (hr.deeper _) hsp;have I:Inv (U2 CX P w K mg base N qual scope f cdv A outer s H E) [] (DR N vs) H s1:=M8 S hr.hd e0 hl r x;refine wpAny_mono (ht [] s1 (DR N vs) H _ I hq) (λfl s' hs=>?_) λe s' hs=>hs;have fin:∀ {σ':St} {H':Hp} {v:V} {u:Value},Inv (U2 CX P w K mg base N qual scope f cdv A outer s H E) [] σ' H' s'->jg v u->Q v H'->CE outer P w H s Q u s':=
  λ{σ' H' v u} J rv q=>⟨v,H',J.os,J.bare,J.base,J.hok,rv,q⟩
 cases fl with
 |ret u=>
  obtain ⟨v,σ',H',J,rv,q⟩:=hs;exact fin J rv q
 |next=>
  obtain ⟨σ',H',J,q⟩:=hs;exact fin (v:=V.non) (u:=Value.none) J rfl q
 |brk=>
  obtain ⟨_,_,_,q⟩:=hs;exact False.elim q
 |cont=>
  obtain ⟨_,_,_,q⟩:=hs;exact False.elim q
section
variable {X:Cx} {x:Str} {p pos:Pos} {e:Expr} {es:List Expr} {t:TA} {id T:String} {r:List V->Hp->VK->Prop}
def tCB (r:List V->Hp->VK->Prop) (t:TA):TE:=λσ H Q=>t σ H λvs H1=>r vs H1 Q
def U3 (hc:J6 X (.builtin id) r) (hg:Gl X x) (hm:X.mg x=none) (hv:bootBuiltins x=some (.builtin id)) (ha:PA X (e::es) t) (hn:x≠"__name__" := by decide) (hdb:(x==("__debug__" : Str))=false:=by decide)
  (he:starEach (e::es) X.env=(false,eval e X.env)::starEach es X.env:=by rfl) (hpl:(backTo pos (starEach es X.env)).any (·.1)=false:=by rfl):PE X (.Call (.Name x p) (e::es) [] pos) (tCB r t):=by
 intro pins s σ H Q I h;refine wpAny_Call_Name_kw (WW I hg hm hv ?_ hn hdb);exact PyProof.Rows.callWith_builtin1 (thn (ha pos pins s σ H _ I h) λus s1 ⟨vs,H1,I1,r1,q1⟩=>hc pins s1 σ H1 vs us Q I1 r1 q1) he hpl
def NQ (hc:J6 X (.type T) r) (hg:Gl X x) (hm:X.mg x=none) (hv:bootBuiltins x=some (.type T)) (ha:PA X (e::es) t) (hn:x≠"__name__" := by decide) (hdb:(x==("__debug__" : Str))=false:=by decide)
  (he:starEach (e::es) X.env=(false,eval e X.env)::starEach es X.env:=by rfl) (hpl:(backTo pos (starEach es X.env)).any (·.1)=false:=by rfl):PE X (.Call (.Name x p) (e::es) [] pos) (tCB r t):=by
 intro pins s σ H Q I h;refine wpAny_Call_Name_kw (WW I hg hm hv ?_ hn hdb);exact PyProof.Rows.callWith_type1 (thn (ha pos pins s σ H _ I h) λus s1 ⟨vs,H1,I1,r1,q1⟩=>hc pins s1 σ H1 vs us Q I1 r1 q1) he hpl
end
end L2
namespace HT
open PySem PyProof.Rows
section
open PySem.SeqAt
open PySem.MeetsSeq PySem.MeetsSeq2 PySem.MeetsSeq3
end
section
variable {prog:Program} {w:World} {A:Around} {E:Value->Shared->Prop} {s:Shared}
def qfz {t b:Addr} {vs ws:List Value} {Q:Value->Shared->Prop} (ht:IsTup s.heap t vs.toArray) (hb:IsTup s.heap b ws.toArray) (hv:vs≠[])
  (h1:ws=[]->Q (.ref t) s) (h2:ws≠[]->Q (.ref s.heap.objs.size) { s with heap:=s.heap.push { cls:=.type "tuple",data:=.seq (vs++ws).toArray } })
  (hsz:vs.length+ws.length<=sizeLine):wpAny (model prog w) A (binaryOp .Add (.ref t) (.ref b)) Q E s:=by
 obtain ⟨⟨cls,dd,data,sl⟩,ho,hc,n,hd⟩:=id ht;obtain ⟨⟨cls2,dd2,data2,sl2⟩,ho2,hc2,n2,hd2⟩:=id hb;simp only at hc hd hc2 hd2;subst hc hd hc2 hd2;have e:vs.toArray++ws.toArray=(vs++ws).toArray:=by simp
 by_cases hw:ws=[]
 ·exact concat_meets ⟨_,ho,rfl⟩ ⟨_,ho2,rfl⟩ noFill_tuple_add seq_tuple_add PySem.F.slot_tuple_add PySem.F.entry_tuple_add (PySem.F.args_tuple_add_2 _ _)
   (tuple_addW1 t b vs.toArray ws.toArray n n2 dd dd2 sl sl2 (by simpa using hv) (by simp [hw])) ⟨ho,ho2,h1 hw⟩
 ·refine concat_meets ⟨_,ho,rfl⟩ ⟨_,ho2,rfl⟩ noFill_tuple_add seq_tuple_add PySem.F.slot_tuple_add PySem.F.entry_tuple_add (PySem.F.args_tuple_add_2 _ _)
   (tuple_addW2 t b vs.toArray ws.toArray n n2 dd dd2 sl sl2 (by simpa using hv) (by simpa using hw) (by rw [size_toArray,size_toArray];exact hsz)) ⟨ho,ho2,?_⟩
  rw [e];exact h2 hw
def sIx (n d:Nat):Option Int->Nat
 |none=>d
 |some v=>if v<0 then (v+(n:Int)).toNat else min v.toNat n
def qhH (n d:Nat) (hd:d<=n) (o:Option Int):sIx n d o<=n:=by
 cases o with
 |none=>exact hd
 |some v=>
  show (if v<0 then (v+(n:Int)).toNat else min v.toNat n)<=n;by_cases hv:v<0
  ·rw [if_pos hv];omega
  ·rw [if_neg hv];exact Nat.min_le_right _ _
def qak (v:Int) (n d:Nat):(if v<0 then max (v+(n:Int)) 0 else min v (n:Int))=((sIx n d (some v):Nat):Int):=by
 show (if v<0 then max (v+(n:Int)) 0 else min v (n:Int))=(((if v<0 then (v+(n:Int)).toNat else min v.toNat n):Nat):Int);by_cases hv:v<0
 ·simp only [if_pos hv];omega
 ·simp only [if_neg hv];omega
def MO (lo hi:Option Int) (n:Nat):Builtin.Slice.sliceAdjust lo hi 1 (n:Int)=(((sIx n 0 lo:Nat):Int),((sIx n n hi:Nat):Int)):=by
 have h1:¬ ((1:Int)<0):=by omega
 unfold Builtin.Slice.sliceAdjust;simp only [h1,if_false];refine Prod.ext ?_ ?_
 ·cases lo with
  |none=>rfl
  |some v=>exact qak v n 0
 ·cases hi with
  |none=>rfl
  |some v=>exact qak v n n
def LZ (i j:Nat):Builtin.Slice.slicePlaces (i:Int) (j:Int) 1=j-i:=by
 unfold Builtin.Slice.slicePlaces;have h1:(1:Int) > 0:=by omega
 simp only [h1,if_true,Int.ediv_one];split<;>omega
def WP {v:Value} {o:Option Int} {Q:Option Int->Shared->Prop} (p:IsPart v o) (h:Q o s):wpAny (model prog w) A (Builtin.Slice.slicePartIndex v) Q E s:=by
 cases p with
 |none=>exact slicePart_none h
 |int i t=>exact slicePart_int h
def UY {sl:Addr} {vl vu:Value} {lo hi:Option Int} {n:Nat} {Q:Int×Int×Nat->Shared->Prop} (hs:s.heap.IsSliceOf sl vl vu .none) (pl:IsPart vl lo) (pu:IsPart vu hi)
  (h:Q (((sIx n 0 lo:Nat):Int),1,sIx n n hi-sIx n 0 lo) s):wpAny (model prog w) A (Builtin.Slice.sliceApplied (.ref sl) (pure (n:Int))) Q E s:=by
 obtain ⟨os,hos,hcs,hds⟩:=id hs;unfold Builtin.Slice.sliceApplied Builtin.Slice.sliceFields;refine wpAny_bind (wpAny_bind (wpAny_field hos hds (x:=vl) rfl (wpAny_bind (wpAny_field hos hds (x:=vu) rfl (wpAny_bind (wpAny_field hos hds (x:=.none) rfl (wpAny_pure ?_)))))));refine wpAny_bind (slicePart_none ?_);show wpAny _ _ (if ((1:Int)==0)=true then _ else _) _ _ s;rw [if_neg (by decide)];refine wpAny_bind (WP pl (wpAny_bind (WP pu (wpAny_bind (wpAny_pure ?_)))));show wpAny _ _ (match Builtin.Slice.sliceAdjust lo hi 1 (n:Int) with|(lo,hi)=>pure (lo,(1:Int),Builtin.Slice.slicePlaces lo hi 1)) _ _ s;rw [MO lo hi n];show wpAny _ _ (pure (((sIx n 0 lo:Nat):Int),(1:Int),Builtin.Slice.slicePlaces ((sIx n 0 lo:Nat):Int) ((sIx n n hi:Nat):Int) 1)) _ _ s;rw [LZ];exact wpAny_pure h
def qbU (xs:Array Value) (i k:Nat):((List.range k).filterMap λ(m:Nat)=>xs[((i:Int)+(m:Int)*1).toNat]?).toArray=((xs.toList.drop i).take k).toArray:=by
 have e:(λ(m:Nat)=>xs[((i:Int)+(m:Int)*1).toNat]?)=λm=>xs[i+m]?:=by
  funext m;have:((i:Int)+(m:Int)*1).toNat=i+m:=by omega
  rw [this]
 rw [e];have:=pick_run xs i k;rw [List.filterMap_map] at this;have e2:((λx=>xs[x]?)∘λx=>i+x)=λm=>xs[i+m]?:=rfl;rw [e2] at this;rw [this]
def V1 {t sl:Addr} {items:Array Value} {vl vu:Value} {lo hi:Option Int} {Q:Value->Shared->Prop} (ht:IsTup s.heap t items) (hs:s.heap.IsSliceOf sl vl vu .none) (pl:IsPart vl lo) (pu:IsPart vu hi)
  (hw:¬ (sIx items.size 0 lo=0/\sIx items.size items.size hi=items.size))
  (h:Q (.ref s.heap.objs.size) { s with heap:=s.heap.push { cls:=.type "tuple",data:=.seq ((items.toList.drop (sIx items.size 0 lo)).take (sIx items.size items.size hi-sIx items.size 0 lo)).toArray } })
  (hsz:items.size<=sizeLine):wpAny (model prog w) A (getItem (.ref t) (.ref sl)) Q E s:=by
 have htake:sizeOk (.seq ((items.toList.drop (sIx items.size 0 lo)).take (sIx items.size items.size hi-sIx items.size 0 lo)).toArray):=by
  show ((items.toList.drop (sIx items.size 0 lo)).take (sIx items.size items.size hi-sIx items.size 0 lo)).toArray.size<=sizeLine;rw [size_toArray,List.length_take,List.length_drop,Array.length_toList];omega
 have hj:sIx items.size items.size hi<=items.size:=qhH _ _ (Nat.le_refl _) hi;obtain ⟨os,hos,hcs,hds⟩:=id hs;have hTs:s.TypeIs (.ref sl) "slice" := ⟨os,hos,hcs⟩
 unfold getItem
 try with_reducible refine wpAny_holding ?_
 first|refine wpAny_bind (wpAny_pure ?_)|skip
 refine wpAny_bind (wpAny_sequenceKey ht.typeIs (by decide) ?_);refine wpAny_bind (wpAny_callSpecial?_slot (name:=Str.ofString "__getitem__") ht.typeIs PyProof.Rows.slot_tuple_getitem
  (wpAny_call_entry PyProof.Rows.slot_tuple_getitem ht.typeIs entry_tuple_getitem ?_ (args_tuple_getitem _ _)))
 show wpAny _ _ (Builtin.Tuple.tupleItemsOf (.ref t) >>= _) _ _ s;refine wpAny_bind (tupleItemsOf_ ht ?_);refine wpAny_bind (wpAny_typeOf hTs ?_);rw [if_pos (by decide)];refine wpAny_bind (UY hs pl pu ?_);have hno:¬ ((((sIx items.size 0 lo:Nat):Int)==0&&(1:Int)==1&&(sIx items.size items.size hi-sIx items.size 0 lo)==items.size)=true):=by
  intro q;rw [Bool.and_eq_true,Bool.and_eq_true] at q;have q1:((sIx items.size 0 lo:Nat):Int)=0:=eq_of_beq q.1.1;have q2:sIx items.size items.size hi-sIx items.size 0 lo=items.size:=eq_of_beq q.2;exact hw ⟨by omega,by omega⟩
 show wpAny _ _ (if (((sIx items.size 0 lo:Nat):Int)==0&&(1:Int)==1&&(sIx items.size items.size hi-sIx items.size 0 lo)==items.size)=true then _ else _) _ _ s;rw [if_neg hno,qbU]
 first
  |exact wpAny_bind (m:=Builtin.Tuple.tupleExact _) (wpAny_newObj_type (wpAny_pure ⟨_,rfl,wpAny_pure h⟩) htake)
  |exact wpAny_bind (m:=Builtin.Tuple.tupleExact _) (wpAny_newObj_type (wpAny_bind (wpAny_pure (wpAny_pure ⟨_,rfl,wpAny_pure h⟩))) htake)
  |exact wpAny_bind (wpAny_bind (m:=Builtin.Tuple.tupleExact _) (wpAny_newObj_type (wpAny_pure (wpAny_pure ⟨_,rfl,wpAny_pure h⟩)) htake))
  |exact wpAny_bind (wpAny_bind (m:=Builtin.Tuple.tupleExact _) (wpAny_newObj_type (wpAny_pure ⟨_,rfl,wpAny_pure h⟩) htake))
end
end HT
namespace L2
open PySem PySem.Spec PyProof.Rows
abbrev TO:=St->Hp->(Option Int->Hp->Prop)->Prop
def PO (X:Cx) (e:Option Expr) (t:TO):Prop:=
 ∀ (pins:List (Addr×Obj)) (s:Shared) (σ:St) (H:Hp) (Q:Option Int->Hp->Prop),Inv X pins σ H s->t σ H Q ->
  wpAny (model X.prog X.w) X.A (evalPart e X.env) (λu s'=>∃ o H',Inv X pins σ H' s'/\IsPart u o/\Q o H') X.xe s
def qm5 (t:TE):TO:=λσ H Q=>t σ H λx H1=>∃ i,x=.int i/\Q (some i) H1
section
variable {X:Cx} {e:Expr} {te:TE} {lo hi:Option Expr} {tl th:TO} {pos p2:Pos}
def qgp (h:PE X e te):PO X (some e) (qm5 te):=by
 intro pins s σ H Q I hw;rw [evalPart_some];refine thn (h pins s σ H _ I hw) λu s1 ⟨x,H1,I1,r1,q1⟩=>?_;obtain ⟨i,rfl,q⟩:=q1;obtain ⟨t,rfl⟩:=r1;exact ⟨some i,H1,I1,.int i t,q⟩
def SlR (X:Cx) (r:V->Option Int->Option Int->Hp->VK->Prop):Prop:=
 ∀ (pins:List (Addr×Obj)) (s:Shared) (σ:St) (H:Hp) (x:V) (v vl vu:Value) (lo hi:Option Int) (sl:Addr) (Q:VK),Inv X pins σ H s->jg x v->s.heap.IsSliceOf sl vl vu .none->IsPart vl lo->IsPart vu hi->r x lo hi H Q ->
  ∃ T id,typeLookup (.type T) "__getitem__" = pure (some (.builtin id))/\s.TypeIs v T/\wpAny (model X.prog X.w) X.A (getItem v (.ref sl)) (EP X pins σ Q) X.xe s
def SlR.or {r r':V->Option Int->Option Int->Hp->VK->Prop} (h:SlR X r) (h':SlR X r'):SlR X (λx lo hi H Q=>r x lo hi H Q\/r' x lo hi H Q):=by
 intro pins s σ H x v vl vu lo hi sl Q I rx hs pl pu q;rcases q with q|q
 ·exact h pins s σ H x v vl vu lo hi sl Q I rx hs pl pu q
 ·exact h' pins s σ H x v vl vu lo hi sl Q I rx hs pl pu q
def tSl (r:V->Option Int->Option Int->Hp->VK->Prop) (te:TE) (tl th:TO):TE:=λσ H Q=>te σ H λx H1=>tl σ H1 λl H2=>th σ H2 λu H3=>r x l u H3 Q
def qbA {r:V->Option Int->Option Int->Hp->VK->Prop} (hr:SlR X r) (he:PE X e te) (hl:PO X lo tl) (hu:PO X hi th):PE X (.Subscript e (.Slice lo hi none p2) pos) (tSl r te tl th):=by
 intro pins s σ H Q I h;refine Subscript_ (thn (he pins s σ H _ I h) λv s1 ⟨x,H1,I1,r1,q1⟩=>?_);refine wpAny_Slice (thn (hl pins s1 σ H1 _ I1 q1) λvl s2 ⟨l,H2,I2,pl,q2⟩=>thn (hu pins s2 σ H2 _ I2 q2) λvu s3 ⟨u,H3,I3,pu,q3⟩=>?_);rw [evalPart_none];refine wpAny_pure ?_;have I4:Inv X pins σ H3 { s3 with heap:=s3.heap.push { cls:=.type "slice",data:=.fields #[vl,vu,.none] } }:=I3.kept (t':=s3.toks) λb ob q=>Heap.get?_push_of_some _ q;obtain ⟨T,id,hT,ht,hg⟩:=hr pins { s3 with heap:=s3.heap.push { cls:=.type "slice",data:=.fields #[vl,vu,.none] } } σ H3 x v vl vu l u s3.heap.objs.size Q I4 r1 (Heap.IsSliceOf.new ..) pl pu q3;show wpAny (model X.prog X.w) X.A (subscriptTail e (.Slice lo hi none p2) v (.ref s3.heap.objs.size)) (EP X pins σ Q) X.xe { s3 with heap:=s3.heap.push { cls:=.type "slice",data:=.fields #[vl,vu,.none] } };exact tail_any (ops:=[.ref s3.heap.objs.size,v]) ht hT hg (by with_unfolding_all rfl)
def qeX (xs:List V) (lo hi:Option Int):List V:=(xs.drop (HT.sIx xs.length 0 lo)).take (HT.sIx xs.length xs.length hi-HT.sIx xs.length 0 lo)
def DH (xs:List V) (lo hi:Option Int):(qeX xs lo hi).length<=xs.length:=by
 unfold qeX;rw [List.length_take,List.length_drop];omega
def qpu (K:Frg):V->Option Int->Option Int->Hp->VK->Prop:=λx lo hi H Q=>∃ a xs,x=.ref a/\SqT K H a xs /\
 ¬ (HT.sIx xs.length 0 lo=0/\HT.sIx xs.length xs.length hi=xs.length)/\∀ p,H p=none->Q (.ref p) (upd H p (.tup (qeX xs lo hi)))
def qhy:SlR X (qpu X.K):=by
 intro pins s σ H x v vl vu lo hi sl Q I rx hs pl pu h;obtain ⟨a,xs,rfl,hx,hw,q⟩:=h;cases rx;obtain ⟨its,r,ht,hz⟩:=I.tuple hx;have hlen:its.toArray.size=xs.length:=by rw [size_toArray];exact r.length.symm
 refine ⟨"tuple",_,PyProof.Rows.slot_tuple_getitem.lookup,ht.typeIs,?_⟩;refine HT.V1 ht hs pl pu (by rw [hlen];exact hw) ?_ (by rw [hlen];exact hz);rw [hlen];refine ⟨.ref s.heap.objs.size,_,I.laid (t':=s.toks) (o:=.tup (qeX xs lo hi)) (λb ob q=>Heap.get?_push_of_some _ q) (Nat.le_refl _) ?_,rfl,q _ (I.hok.fresh (Nat.le_refl _))⟩;exact ⟨Nat.le_trans (DH xs lo hi) hz,_,(r.drop (HT.sIx xs.length 0 lo)).take (HT.sIx xs.length xs.length hi-HT.sIx xs.length 0 lo),IsTup.new _ _⟩
def ql2 (K:Frg):R2:=λx y H Q=>∃ a b xs ys,x=.ref a/\y=.ref b/\SqT K H a xs/\SqT K H b ys/\xs≠[]/\xs.length+ys.length<=sizeLine /\
 (ys=[]->Q (.ref a) H)/\(ys≠[]->∀ p,H p=none->Q (.ref p) (upd H p (.tup (xs++ys))))
def zQ.nil_iff {xs:List V} {us:List Value} (r:zQ xs us):us=[]↔xs=[]:=by
 cases r with
 |nil=>simp
 |cons _ _=>simp
def qgn:OpR X (binaryOp .Add) (ql2 X.K):=by
 intro pins s σ H x y v u Q I rx ry h;obtain ⟨a,b,xs,ys,rfl,rfl,ha,hb,hx,hz,q1,q2⟩:=h;cases rx;cases ry;obtain ⟨its,r1,p1,_⟩:=I.tuple ha;obtain ⟨its2,r2,p2,_⟩:=I.tuple hb;refine HT.qfz p1 p2 (λz=>hx (r1.nil_iff.mp z)) (λz=>⟨.ref a,H,I,rfl,q1 (r2.nil_iff.mp z)⟩) (λz=>?_) (by rw [← r1.length,← r2.length];exact hz);refine ⟨.ref s.heap.objs.size,_,I.laid (t':=s.toks) (o:=.tup (xs++ys)) (λb ob q=>Heap.get?_push_of_some _ q) (Nat.le_refl _) ?_,rfl,q2 (λw=>z (r2.nil_iff.mpr w)) _ (I.hok.fresh (Nat.le_refl _))⟩;exact ⟨by rw [length_append];exact hz,_,r1.append r2,IsTup.new _ _⟩
end
def ixN (n:Nat) (i:Int):Option Nat:=if 0<=i then (if i<n then some i.toNat else none) else if -(n:Int)<=i then some (i+n).toNat else none
def atI {α:Type} (xs:List α) (i:Int):Option α:=(ixN xs.length i).bind λj=>xs[j]?
def qbf {n:Nat} {i:Int} {j:Nat} (h:ixN n i=some j):seqIndex? i n=some j/\j<n/\-(n:Int)<=i/\i<n:=by
 unfold ixN at h;by_cases h0:0<=i
 ·rw [if_pos h0] at h;by_cases h1:i<n
  ·rw [if_pos h1] at h;have e:i.toNat=j:=Option.some.inj h;exact ⟨by rw [seqIndex_of h0 h1,e],by omega,by omega,h1⟩
  ·rw [if_neg h1] at h;cases h
 ·rw [if_neg h0] at h;by_cases h1:-(n:Int)<=i
  ·rw [if_pos h1] at h;have e:(i+n).toNat=j:=Option.some.inj h;exact ⟨by rw [seqIndex_neg (by omega) h1,e],by omega,h1,by omega⟩
  ·rw [if_neg h1] at h;cases h
def TM {α:Type} {xs:List α} {i:Int} {v:α} (h:atI xs i=some v):∃ j,seqIndex? i xs.length=some j/\xs[j]?=some v/\j<xs.length/\-(xs.length:Int)<=i/\i<xs.length:=by
 unfold atI at h;cases e:ixN xs.length i with
 |none=>rw [e] at h;cases h
 |some j=>
  rw [e] at h;obtain ⟨h1,h2,h3,h4⟩:=qbf e;exact ⟨j,h1,h,h2,h3,h4⟩
def UD (b:Expr):Prop:=∀ o i,subscripted b false o i=operate [o,i] (getItem o i)
def IxR (X:Cx) (r:R2):Prop:=
 ∀ (value slice:Expr) (pins:List (Addr×Obj)) (s:Shared) (σ:St) (H:Hp) (x y:V) (v u:Value) (Q:VK),Inv X pins σ H s->jg x v->jg y u->r x y H Q ->
  subscripted slice false v u=operate [v,u] (getItem v u)->wpAny (model X.prog X.w) X.A (subscriptTail value slice v u) (EP X pins σ Q) X.xe s
def MtR (X:Cx) (id:String) (r:V->List V->Hp->VK->Prop):Prop:=
 ∀ (pins:List (Addr×Obj)) (s:Shared) (σ:St) (H:Hp) (x:V) (xs:List V) (v:Value) (us:List Value) (Q:VK),Inv X pins σ H s->jg x v->zQ xs us->r x xs H Q ->
  wpAny (model X.prog X.w) X.A (call (.builtin id) (v::us)) (EP X pins σ Q) X.xe s
section
variable {X:Cx} {a b:Expr} {ta tb:TE} {pos:Pos}
def IxR.or {r r':R2} (h:IxR X r) (h':IxR X r'):IxR X (λx y H Q=>r x y H Q\/r' x y H Q):=by
 intro value slice pins s σ H x y v u Q I rx ry q hs;rcases q with q|q
 ·exact h value slice pins s σ H x y v u Q I rx ry q hs
 ·exact h' value slice pins s σ H x y v u Q I rx ry q hs
def qj5 {r:R2} (hr:IxR X r) (ha:PE X a ta) (hb:PE X b tb) (hs:UD b):PE X (.Subscript a b pos) (tOp r ta tb):=by
 intro pins s σ H Q I h;exact Subscript_ (qmT ha hb I h λv u s2 x y H2 I2 rx ry q=>hr a b pins s2 σ H2 x y v u Q I2 rx ry q (hs _ _))
def qoL (K:Frg):R2:=λx y H Q=>∃ p xs i v,x=.ref p/\y=.int i/\SqL K H p xs/\atI xs i=some v/\Q v H
def qpe (K:Frg):R2:=λx y H Q=>∃ p xs i v,x=.ref p/\y=.int i/\SqT K H p xs/\atI xs i=some v/\Q v H
def qoK:R2:=λx y H Q=>∃ z i c,x=.str z/\y=.int i/\z.length<=sizeLine/\atI z.cps.toList i=some c/\Q (.str ⟨#[c]⟩) H
def qf6:IxR X (qoL X.K):=by
 intro value slice pins s σ H x y v u Q I rx ry h hs;obtain ⟨p,xs,i,z,rfl,rfl,hq,he,q⟩:=h;cases rx;obtain ⟨t,rfl⟩:=ry;obtain ⟨its,r,pl,hz⟩:=I.list hq;obtain ⟨j,h1,h2,h3,h4,h5⟩:=TM he;obtain ⟨w,ew,rw'⟩:=r.get h2;have hl:=r.length;have hn:=RU;have fin:EP X pins σ Q w s:=⟨z,H,I,rw',q⟩
 by_cases h0:0<=i
 ·have hj:i.toNat=j:=by
   rw [seqIndex_of h0 h5] at h1;exact Option.some.inj h1
  exact item_listR pl.isList h0 (by omega) (by rw [hj];simpa using ew) fin hs
 ·have hj:(i+(its.toArray.size:Int)).toNat=j:=by
   rw [seqIndex_neg (by omega) h4] at h1;rw [size_toArray,← hl];exact Option.some.inj h1
  exact subscriptTail_builtinR (x:=w) pl.isList.typeIs slot_list_getitem.lookup
   (wpAny_getItem_list_neg (Q:=λr s'=>r=w/\EP X pins σ Q r s') pl.isList (by omega) (by rw [size_toArray]<;>omega) (by omega) (by rw [hj];simpa using ew) ⟨rfl,fin⟩) hs
def qkP:IxR X (qpe X.K):=by
 intro value slice pins s σ H x y v u Q I rx ry h hs;obtain ⟨p,xs,i,z,rfl,rfl,hq,he,q⟩:=h;cases rx;obtain ⟨t,rfl⟩:=ry;obtain ⟨its,r,pl,hz⟩:=I.tuple hq;obtain ⟨j,h1,h2,h3,h4,h5⟩:=TM he;obtain ⟨w,ew,rw'⟩:=r.get h2;have hl:=r.length;have hn:=RU;have fin:EP X pins σ Q w s:=⟨z,H,I,rw',q⟩
 exact subscriptTail_builtinR (x:=w) pl.typeIs slot_tuple_getitem.lookup
  (getItem_tuple (j:=j) (Q:=λr s'=>r=w/\EP X pins σ Q r s') pl (by omega) (by omega) (by rw [size_toArray,← hl];exact h1) (by simpa using ew) ⟨rfl,fin⟩) hs
def qh2:IxR X qoK:=by
 intro value slice pins s σ H x y v u Q I rx ry h hs;obtain ⟨z,i,c,rfl,rfl,hz,he,q⟩:=h;obtain ⟨t,rfl⟩:=rx;obtain ⟨t',rfl⟩:=ry;obtain ⟨j,h1,h2,h3,h4,h5⟩:=TM he;have hl:z.cps.toList.length=z.length:=by simp [Str.length]
 rw [hl] at h1 h4 h5;have hn:=RU;exact tail_any (typeIs_str s z t) slot_str_getitem.lookup (getItem_str (c:=c) (by
  have e1:decide (i < -(2 ^ 63:Int))=false:=decide_eq_false (by omega);have e2:decide (i ≥ 2 ^ 63)=false:=decide_eq_false (by omega);rw [e1,e2,Bool.or_false]) (by rw [h1];simpa using h2) ⟨.str ⟨#[c]⟩,H,I.tok _,⟨_,rfl⟩,q⟩) hs
def rIx (K:Frg):R2:=λx y H Q=>qoL K x y H Q\/qpe K x y H Q\/qoK x y H Q
def qif:IxR X (rIx X.K):=qf6.or (qkP.or qh2)
def LQ (its:List Value) (n j:Nat) (u:Value):Obj.mapSeq (·.setIfInBounds j u) { cls:=.type "list",data:=.seq its.toArray n }={ cls:=.type "list",data:=.seq (its.set j u).toArray n }:=by
 simp [Obj.mapSeq]
def Inv.lst {pins:List (Addr×Obj)} {σ:St} {H:Hp} {s:Shared} {p:Addr} {xs:List V} (I:Inv X pins σ H s) (h:H p=some (.lst xs)) :
  ∃ (its:List Value) (n:Nat),zQ xs its/\s.heap.get? p=some { cls:=.type "list",data:=.seq its.toArray n }/\xs.length<=sizeLine:=by
 obtain ⟨z,its,n,r,e⟩:=I.hok p _ h;exact ⟨its,n,r,e,z⟩
def Inv.lstUpd {pins:List (Addr×Obj)} {σ:St} {H:Hp} {s:Shared} {p:Addr} {xs ys:List V} {its its':List Value} {n n':Nat} {f:Obj->Obj} (I:Inv X pins σ H s) (h:H p=some (.lst xs))
  (ho:s.heap.get? p=some { cls:=.type "list",data:=.seq its.toArray n }) (hf:f { cls:=.type "list",data:=.seq its.toArray n }={ cls:=.type "list",data:=.seq its'.toArray n' }) (r:zQ ys its') (hz:ys.length<=sizeLine) (t:Nat) :
  Inv X pins σ (upd H p (.lst ys)) { s with heap:=s.heap.update p f,toks:=t }:=by
 have e:(s.heap.update p f).get? p=some { cls:=.type "list",data:=.seq its'.toArray n' }:=by
  rw [Heap.get?_update_self f ho (by rw [hf]<;>rfl),hf]
 refine I.write (x:=p) (e:=p) (by rw [h];trivial) (.inl rfl) (λb u hb q=>(Heap.get?_update_other _ _ (Ne.symm hb)).trans q) ⟨_,e⟩ ?_;exact ⟨hz,its',n',r,e⟩
def qn1:V->V->V->Hp->(Hp->Prop)->Prop:=λo i v H Q=>∃ p xs k j,o=.ref p/\i=.int k/\H p=some (.lst xs)/\ixN xs.length k=some j/\Q (upd H p (.lst (xs.set j v)))
def qbx:qoI X qn1:=by
 intro pins s σ H o i v ov iv u Q I ro ri rv h;obtain ⟨p,xs,k,j,rfl,rfl,hp,hj,q⟩:=h;cases ro;obtain ⟨t,rfl⟩:=ri;obtain ⟨its,n,r,ho,hz⟩:=I.lst hp;obtain ⟨h1,h2,h3,h4⟩:=qbf hj;have hl:=r.length;have hn:=RU;have I':Inv X pins σ (upd H p (.lst (xs.set j v))) { s with heap:=s.heap.update p (Obj.mapSeq (·.setIfInBounds j u)) }:=
  I.lstUpd hp ho (LQ its n j u) (r.set rv j) (by rw [List.length_set];exact hz) s.toks
 by_cases h0:0<=k
 ·have hk:k.toNat=j:=by
   rw [seqIndex_of h0 h4] at h1;exact Option.some.inj h1
  exact PySem.W.ki_setAt ho h0 (by omega) (by rw [size_toArray,← hl];exact h4) (by rw [hk];exact ⟨_,I',q⟩)
 ·have hk:(k+(its.toArray.size:Int)).toNat=j:=by
   rw [seqIndex_neg (by omega) h3] at h1;rw [size_toArray,← hl];exact Option.some.inj h1
  exact PySem.W.ki_setBack ho (by omega) (by rw [size_toArray,← hl];exact h3) (by omega) (by rw [hk];exact ⟨_,I',q⟩)
def SC (lo hi:Option Int) (n:Nat):(sliceBounds lo hi none n).1=((HT.sIx n 0 lo:Nat):Int)/\(sliceBounds lo hi none n).2.1=((HT.sIx n n hi:Nat):Int)/\(sliceBounds lo hi none n).2.2=1:=by
 refine ⟨?_,?_,rfl⟩
 ·cases lo with
  |none=>simp [sliceBounds,HT.sIx]
  |some i=>
   simp only [sliceBounds,HT.sIx,Option.getD_none,show (1:Int) > 0 by decide,if_true];by_cases h:i<0
   ·simp only [h,if_true]<;>omega
   ·simp only [h,if_false]<;>omega
 ·cases hi with
  |none=>simp [sliceBounds,HT.sIx]
  |some i=>
   simp only [sliceBounds,HT.sIx,Option.getD_none,show (1:Int) > 0 by decide,if_true];by_cases h:i<0
   ·simp only [h,if_true]<;>omega
   ·simp only [h,if_false]<;>omega
def CD (its:List Value) (lo hi:Option Int):slicePick its.toArray lo hi none=((its.drop (HT.sIx its.length 0 lo)).take (HT.sIx its.length its.length hi-HT.sIx its.length 0 lo)).toArray:=by
 obtain ⟨h1,h2,h3⟩:=SC lo hi its.toArray.size;unfold slicePick;rw [h1,h2,h3];simp only [sliceRange_one,pick_run,size_toArray]<;>rfl
def qpk (K:Frg):V->Option Int->Option Int->Hp->VK->Prop:=λx lo hi H Q=>∃ a xs,x=.ref a/\SqL K H a xs/\∀ p,H p=none->Q (.ref p) (upd H p (.lst (qeX xs lo hi)))
def qfm:SlR X (qpk X.K):=by
 intro pins s σ H x v vl vu lo hi sl Q I rx hs pl pu h;obtain ⟨a,xs,rfl,hx,q⟩:=h;cases rx;obtain ⟨its,r,ht,hz⟩:=I.list hx;have hlen:=r.length;refine ⟨"list",_,slot_list_getitem.lookup,ht.isList.typeIs,?_⟩;refine wpAny_getItem_list_slice ht.isList hs pl pu .none (by simp) ?_ (by rw [size_toArray]<;>omega);rw [CD,← hlen];refine ⟨.ref s.heap.objs.size,_,I.laid (t':=s.toks) (o:=.lst (qeX xs lo hi)) (λb ob q=>Heap.get?_push_of_some _ q) (Nat.le_refl _) ?_,rfl,q _ (I.hok.fresh (Nat.le_refl _))⟩;exact ⟨Nat.le_trans (DH xs lo hi) hz,_,0,(r.drop (HT.sIx xs.length 0 lo)).take (HT.sIx xs.length xs.length hi-HT.sIx xs.length 0 lo),Heap.get?_push_size _ rfl⟩
def WG:V->Bool
 |.non=>true
 |.bl _=>true
 |.int _=>true
 |.str _=>true
 |_=>false
def eqV:V->V->Bool
 |.non,.non=>true
 |.bl a,.bl b=>a==b
 |.bl a,.int b=>(if a then 1 else 0)==b
 |.int a,.bl b=>a==(if b then 1 else 0)
 |.int a,.int b=>a==b
 |.str a,.str b=>a==b
 |_,_=>false
def qhv {A:Around} {s:Shared} {y x:V} {u v:Value} (ry:jg y u) (rx:jg x v) (fy:WG y=true) (fx:WG x=true):SeqAt.EqAt A s u v (eqV y x):=by
 cases y with
 |non=>
  cases ry;cases x with
  |non=>cases rx;exact SeqAt.EqAt.same _
  |bl b=>cases rx;exact SeqAt.EqAt.none_bool b
  |int b=>obtain ⟨t,rfl⟩:=rx;exact SeqAt.EqAt.none_int b t
  |str b=>obtain ⟨t,rfl⟩:=rx;exact SeqAt.EqAt.none_str b t
  |_=>exact absurd (show false=true from fx) Bool.false_ne_true
 |bl a=>
  cases ry;cases x with
  |non=>cases rx;exact SeqAt.EqAt.bool_none a
  |bl b=>cases rx;exact SeqAt.EqAt.bool_bool a b
  |int b=>obtain ⟨t,rfl⟩:=rx;exact SeqAt.EqAt.bool_int a b t
  |str b=>obtain ⟨t,rfl⟩:=rx;exact SeqAt.EqAt.bool_str a b t
  |_=>exact absurd (show false=true from fx) Bool.false_ne_true
 |int a=>
  obtain ⟨t',rfl⟩:=ry;cases x with
  |non=>cases rx;exact SeqAt.EqAt.int_none a t'
  |bl b=>cases rx;exact SeqAt.EqAt.int_bool a t' b
  |int b=>obtain ⟨t,rfl⟩:=rx;exact SeqAt.EqAt.int_int a t' b t
  |str b=>obtain ⟨t,rfl⟩:=rx;exact SeqAt.EqAt.int_str a t' b t
  |_=>exact absurd (show false=true from fx) Bool.false_ne_true
 |str a=>
  obtain ⟨t',rfl⟩:=ry;cases x with
  |non=>cases rx;exact SeqAt.EqAt.str_none a t'
  |bl b=>cases rx;exact SeqAt.EqAt.str_bool a t' b
  |int b=>obtain ⟨t,rfl⟩:=rx;exact SeqAt.EqAt.str_int a t' b t
  |str b=>obtain ⟨t,rfl⟩:=rx;exact SeqAt.EqAt.str_str a t' b t
  |_=>exact absurd (show false=true from fx) Bool.false_ne_true
 |_=>exact absurd (show false=true from fy) Bool.false_ne_true
def eqU (x:V) (u:Value):Bool:=match u with
 |.none=>eqV .non x
 |.bool b=>eqV (.bl b) x
 |.int i _=>eqV (.int i) x
 |.str z _=>eqV (.str z) x
 |_=>false
def qet {x y:V} {u:Value} (r:jg y u) (f:WG y=true):eqU x u=eqV y x:=by
 cases y with
 |non=>cases r;rfl
 |bl b=>cases r;rfl
 |int i=>obtain ⟨t,rfl⟩:=r;rfl
 |str z=>obtain ⟨t,rfl⟩:=r;rfl
 |_=>exact absurd (show false=true from f) Bool.false_ne_true
def DB {x:V}:∀ {xs:List V} {us:List Value},zQ xs us->xs.all WG=true->us.any (eqU x)=xs.any λy=>eqV y x
 |_,_,.nil,_=>rfl
 |y::xs,u::us,.cons r t,f=>by
  rw [List.all_cons,Bool.and_eq_true] at f;rw [List.any_cons,List.any_cons,qet r f.1,DB t f.2]
def VH {A:Around} {s:Shared} {x:V} {v:Value} (rx:jg x v) (fx:WG x=true):∀ {xs:List V} {us:List Value},zQ xs us->xs.all WG=true->∀ u∈us,SeqAt.EqAt A s u v (eqU x u)
 |_,_,.nil,_=>λu hu=>by cases hu
 |y::xs,u::us,.cons r t,f=>λu' hu=>by
  rw [List.all_cons,Bool.and_eq_true] at f;rcases mem_cons.mp hu with rfl|hu
  ·rw [qet r f.1];exact qhv r rx f.1 fx
  ·exact VH rx fx t f.2 u' hu
def inV (x:V) (xs:List V):Bool:=xs.any λy=>eqV y x
def rIn (K:Frg) (neg:Bool):R2:=λx y H Q=>∃ p xs,y=.ref p/\(SqL K H p xs\/SqT K H p xs)/\WG x=true/\xs.all WG=true/\Q (.bl (if neg then !inV x xs else inV x xs)) H
def qbc:OpR X (compareOp .In) (rIn X.K false):=by
 intro pins s σ H x y v u Q I rx ry h;obtain ⟨p,xs,rfl,hq,fx,fs,q⟩:=h;cases ry;rcases hq with hq|hq
 ·obtain ⟨its,r,pl,hz⟩:=I.list hq;refine SeqAt.in_listAt (eqU x) pl.isList (λw hw=>VH rx fx r fs w (by simpa using hw)) ⟨.bl _,H,I,rfl,?_⟩;rw [show its.toArray.any (eqU x)=its.any (eqU x) by simp,DB r fs];exact q
 ·obtain ⟨its,r,pl,hz⟩:=I.tuple hq;refine SeqAt.in_tupleAt (eqU x) pl (λw hw=>VH rx fx r fs w (by simpa using hw)) ⟨.bl _,H,I,rfl,?_⟩;rw [show its.toArray.any (eqU x)=its.any (eqU x) by simp,DB r fs];exact q
def RM:OpR X (compareOp .NotIn) (rIn X.K true):=by
 intro pins s σ H x y v u Q I rx ry h;obtain ⟨p,xs,rfl,hq,fx,fs,q⟩:=h;cases ry;rcases hq with hq|hq
 ·obtain ⟨its,r,pl,hz⟩:=I.list hq;refine SeqAt.notIn_listAt (eqU x) pl.isList (λw hw=>VH rx fx r fs w (by simpa using hw)) ⟨.bl _,H,I,rfl,?_⟩;rw [show its.toArray.any (eqU x)=its.any (eqU x) by simp,DB r fs];exact q
 ·obtain ⟨its,r,pl,hz⟩:=I.tuple hq;refine SeqAt.notIn_tupleAt (eqU x) pl (λw hw=>VH rx fx r fs w (by simpa using hw)) ⟨.bl _,H,I,rfl,?_⟩;rw [show its.toArray.any (eqU x)=its.any (eqU x) by simp,DB r fs];exact q
def JB:J6 X (.type "list") (λxs H Q=>∃ p ys,xs=[.ref p]/\(SqL X.K H p ys\/SqT X.K H p ys)/\∀ l,H l=none->Q (.ref l) (upd H l (.lst ys))):=by
 intro pins s σ H xs us Q I r h;obtain ⟨p,ys,rfl,hq,q⟩:=h;obtain ⟨u,rfl,rx⟩:=XJ r;cases rx;have fin:∀ (its:List Value),zQ ys its->ys.length<=sizeLine->∀ (h':Heap) (c':Nat),(∀ b o',s.heap.get? b=some o'->h'.get? b=some o') ->
   h'.get? s.heap.objs.size=some { cls:=.type "list",dict:=none,data:=.seq its.toArray c',slots:=#[] }->EP X pins σ Q (.ref s.heap.objs.size) { s with heap:=h' }:=λits r' hz h' c' kp e=>
  ⟨.ref s.heap.objs.size,_,I.laid (t':=s.toks) kp (Nat.le_refl _) (show QZ X.prog X.w _ h' _ (.lst ys) from ⟨hz,its,c',r',e⟩),rfl,q _ (I.hok.fresh (Nat.le_refl _))⟩
 rcases hq with hq|hq
 ·obtain ⟨its,r',pl,hz⟩:=I.list hq;have hlen:=r'.length;obtain ⟨o,ho,hc,n,hd⟩:=pl.isList;exact call_list_seq p (.inl rfl) ho hc hd (λh' c' kp e=>fin its r' hz h' c' kp e) (by simp only [size_toArray]<;>omega)
 ·obtain ⟨its,r',pl,hz⟩:=I.tuple hq;have hlen:=r'.length;obtain ⟨o,ho,hc,n,hd⟩:=pl;exact call_list_seq p (.inr rfl) ho hc hd (λh' c' kp e=>fin its r' hz h' c' kp e) (by simp only [size_toArray]<;>omega)
def zf:J6 X (.type "tuple") (λxs H Q=>∃ p ys,xs=[.ref p]/\((SqL X.K H p ys/\∀ l,H l=none->Q (.ref l) (upd H l (.tup ys)))\/(SqT X.K H p ys/\Q (.ref p) H))):=by
 intro pins s σ H xs us Q I r h;obtain ⟨p,ys,rfl,h⟩:=h;obtain ⟨u,rfl,rx⟩:=XJ r;cases rx;rcases h with ⟨hq,q⟩|⟨hq,q⟩
 ·obtain ⟨its,r',pl,hz⟩:=I.list hq;have hlen:=r'.length;refine call_tuple_list pl.isList (λh' kp=>?_) (by simp only [size_toArray]<;>omega);have I1:Inv X pins σ H { s with heap:=h' }:=I.kept (t':=s.toks) kp;have I2:Inv X pins σ (upd H h'.objs.size (.tup ys)) { s with heap:=h'.push { cls:=.type "tuple",data:=.seq its.toArray } }:=
   I1.laid (t':=s.toks) (λb o e=>Heap.get?_push_of_some _ e) (Nat.le_refl _) (show QZ X.prog X.w _ _ _ (.tup ys) from ⟨hz,its,r',IsTup.new _ _⟩)
  exact ⟨.ref h'.objs.size,_,I2,rfl,q _ (I1.hok.fresh (Nat.le_refl _))⟩
 ·obtain ⟨its,r',pl,hz⟩:=I.tuple hq;exact call_tuple_same pl ⟨.ref p,H,I,rfl,q⟩
def tyV (K:Frg) (T:String) (x:V) (H:Hp):Prop:=match x with
 |.str _=>T="str"
 |.int _=>T="int"
 |.ref p=>(T="list"/\∃ xs,SqL K H p xs)\/(T="tuple"/\∃ o,K.lookup p=some o/\o.cls=.type "tuple"/\o.dict=none) ∨
   (T="dict"/\((∃ kvs,H p=some (.dK kvs))\/∃ kvs,H p=some (.dT kvs)))\/(T="set"/\∃ S n,H p=some (.set S n))
 |_=>False
def qc3 {pins:List (Addr×Obj)} {σ:St} {H:Hp} {s:Shared} {T:String} {x:V} {v:Value} (I:Inv X pins σ H s) (r:jg x v) (ty:tyV X.K T x H) :
  s.TypeIs v T/\∀ a,v=.ref a->∃ ob,s.heap.get? a=some ob/\ob.dict=none:=by
 cases x with
 |str z=>
  obtain ⟨t,rfl⟩:=r;cases (show T="str" from ty);exact ⟨typeIs_str s z t,λ_ e=>nomatch e⟩
 |int i=>
  obtain ⟨t,rfl⟩:=r;cases (show T="int" from ty);exact ⟨typeIs_int s i t,λ_ e=>nomatch e⟩
 |ref p=>
  cases r;rcases ty with ⟨rfl,xs,hq⟩|⟨rfl,o,hk,hc,hd⟩|⟨rfl,hk⟩|⟨rfl,S,n,hk⟩
  ·obtain ⟨its,_,pl,_⟩:=I.list hq;refine ⟨pl.isList.typeIs,λa e=>?_⟩;cases e;obtain ⟨o,n,e,c,hd,_⟩:=pl;exact ⟨o,e,hd⟩
  ·refine ⟨⟨o,I.kIn p o hk,hc⟩,λa e=>?_⟩;cases e;exact ⟨o,I.kIn _ o hk,hd⟩
  ·have z:∃ o,s.heap.get? p=some o/\o.ExactDict:=by
    rcases hk with ⟨kvs,hk⟩|⟨kvs,hk⟩
    ·obtain ⟨_,_,_,_,o,_,_,e,ex,_⟩:=I.hok p _ hk;exact ⟨o,e,ex⟩
    ·obtain ⟨_,_,_,_,o,_,_,e,ex,_⟩:=I.hok p _ hk;exact ⟨o,e,ex⟩
   obtain ⟨o,e,ex⟩:=z;refine ⟨⟨o,e,ex.1⟩,λa e2=>?_⟩;cases e2;exact ⟨o,e,ex.2.1⟩
  ·obtain ⟨o,_,_,_,e,ex,_⟩:=I.hok p _ hk;refine ⟨⟨o,e,ex.1⟩,λa e2=>?_⟩;cases e2;exact ⟨o,e,ex.2.1⟩
 |_=>exact False.elim ty
def qpE (K:Frg) (T:String) (r:V->List V->Hp->VK->Prop) (to:TE):TE:=λσ H Q=>to σ H λx H1=>tyV K T x H1/\r x [] H1 Q
def tBM (K:Frg) (T:String) (r:V->List V->Hp->VK->Prop) (to:TE) (t:TA):TE:=λσ H Q=>to σ H λx H1=>tyV K T x H1/\t σ H1 λxs H2=>r x xs H2 Q
variable {o e:Expr} {es:List Expr} {to:TE} {t:TA} {name:Str} {apos cpos:Pos} {T id:String} {r:V->List V->Hp->VK->Prop}
def qkY (pa:PlainAttrs T) (slot:Slot T name id) (hty:typeOf (.builtin id)=pure (.type "method_descriptor")) (hm:MtR X id r) (ho:PE X o to)
  (hbase:attributeBase o name X.env (eval o X.env)=eval o X.env:=by rfl) (hline:(apos.endLine==cpos.line)=true:=by rfl):PE X (.Call (.Attribute o name apos) [] [] cpos) (qpE X.K T r to):=by
 intro pins s σ H Q I h;refine wpAny_Call_method0_late hbase hline (thn (ho pins s σ H _ I h) λv s1 ⟨x,H1,I1,r1,ty,q1⟩=>?_);obtain ⟨h1,h2⟩:=qc3 I1 r1 ty;exact ⟨T,id,pa,slot,hty,h1,h2,Calls.callWith_builtin rfl (PySem.evalArgs_none (hm pins s1 σ H1 x [] v [] Q I1 r1 .nil q1))⟩
def qn4 (pa:PlainAttrs T) (slot:Slot T name id) (hty:typeOf (.builtin id)=pure (.type "method_descriptor")) (hm:MtR X id r) (ho:PE X o to) (ha:PA X (e::es) t)
  (hbase:attributeBase o name X.env (eval o X.env)=eval o X.env:=by rfl)
  (hfew:((backTo cpos (starEach (e::es) X.env)).all (λx=>!x.1)&&(backToKw cpos (keywordEach [] X.env)).all (λx=>x.1.isSome)
   && decide ((e::es).length+([]:List Keyword).length+(if ([]:List Keyword).isEmpty then 0 else 1)<30))=true:=by rfl)
  (hline:(apos.endLine==cpos.line)=true:=by rfl) (hs:starEach (e::es) X.env=(false,eval e X.env)::starEach es X.env:=by rfl) (hplain:(backTo cpos (starEach es X.env)).any (·.1)=false:=by rfl) :
  PE X (.Call (.Attribute o name apos) (e::es) [] cpos) (tBM X.K T r to t):=by
 intro pins s σ H Q I h;refine wpAny_Call_method_late hbase hfew hline rfl (thn (ho pins s σ H _ I h) λv s1 ⟨x,H1,I1,r1,ty,q1⟩=>?_);obtain ⟨h1,h2⟩:=qc3 I1 r1 ty;refine ⟨T,id,pa,slot,hty,h1,h2,?_⟩;have hA:=ha cpos pins s1 σ H1 _ I1 q1;rw [hs] at hA ⊢;refine Calls.callWith_builtin (by show (false||(backTo cpos (starEach es X.env)).any (·.1))=false;rw [hplain]<;>rfl) (Calls.evalArgs_plain ?_);exact thn hA λus s2 ⟨vs,H2,I2,r2,q2⟩=>hm pins s2 σ H2 x vs v us Q I2 r1 r2 q2
end
def MtM (X:Cx) (id:String) (r:V->List V->Hp->VK->Prop):Prop:=
 ∀ (pins:List (Addr×Obj)) (s:Shared) (σ:St) (H:Hp) (x:V) (xs:List V) (v:Value) (us:List Value) (Q:VK),Inv X pins σ H s->jg x v->zQ xs us->r x xs H Q ->
  wpAny (model X.prog X.w) X.A (call (.builtin id) (v::us)) (EP X pins σ Q) X.xe s
def zQ.one:∀ {x:V} {us:List Value},zQ [x] us->∃ u,us=[u]/\jg x u
 |_,_,.cons r .nil=>⟨_,rfl,r⟩
def zQ.zero:∀ {us:List Value},zQ [] us->us=[]
 |_,.nil=>rfl
def zQ.reverse {xs:List V} {us:List Value} (h:zQ xs us):zQ xs.reverse us.reverse:=by
 induction h with
 |nil=>exact .nil
 |cons r t ih=>rw [List.reverse_cons,List.reverse_cons];exact zQ.append ih (.cons r .nil)
section
variable {X:Cx} {pins:List (Addr×Obj)} {σ:St} {H:Hp} {s:Shared} {l b:Addr} {xs ys zs:List V}
def Inv.lset {its its':List Value} {n:Nat} {f:Array Value->Array Value} {t':Nat} (I:Inv X pins σ H s) (hH:H l=some (.lst xs))
  (e:s.heap.get? l=some { cls:=.type "list",data:=.seq its.toArray n }) (hf:f its.toArray=its'.toArray) (hv:zQ ys its') (hz:ys.length<=sizeLine) :
  Inv X pins σ (upd H l (.lst ys)) { s with heap:=s.heap.update l (Obj.mapSeq f),toks:=t' }:=by
 have q:=PySem.IsL.update e f;rw [hf] at q;refine I.write (x:=l) (e:=l) (by rw [hH];exact trivial) (.inl rfl) (λb' u hb hu=>(Heap.get?_update_other s.heap (Obj.mapSeq f) (Ne.symm hb)).trans hu) ⟨_,q⟩ ?_;exact ⟨hz,its',_,hv,q⟩
def Inv.lnew {its:List Value} {t':Nat} (I:Inv X pins σ H s) (hv:zQ ys its) (hz:ys.length<=sizeLine) :
  Inv X pins σ (upd H s.heap.objs.size (.lst ys)) { s with heap:=s.heap.push { cls:=.type "list",data:=.seq its.toArray },toks:=t' }:=
 I.laid (λ_ _ q=>Heap.get?_push_of_some _ q) (Nat.le_refl _) ⟨hz,its,0,hv,Heap.get?_push_size _ rfl⟩
def Inv.fresh (I:Inv X pins σ H s):H s.heap.objs.size=none:=I.hok.fresh (Nat.le_refl _)
def Inv.lstM (I:Inv X pins σ H s) (hH:H l=some (.lst xs)):xs.length<=sizeLine/\∃ (its:List Value) (n:Nat),zQ xs its/\xs.length=its.length/\s.heap.get? l=some { cls:=.type "list",data:=.seq its.toArray n }:=by
 obtain ⟨z,its,n,r,e⟩:=I.hok l _ hH;exact ⟨z,its,n,r,r.length,e⟩
def qbO {n:Nat} (h:n<=sizeLine):Builtin.List.listTooLong n=false:=by
 unfold Builtin.List.listTooLong;exact decide_eq_false (by omega)
end
section
variable {X:Cx}
def qa4:V->List V->Hp->VK->Prop:=λx vs H Q=>∃ l xs y,x=.ref l/\vs=[y]/\H l=some (.lst xs)/\xs.length<sizeLine/\Q .non (upd H l (.lst (xs++[y])))
def VC:MtM X "list.append" qa4:=by
 intro pins s σ H x vs v us Q I rx rv h;obtain ⟨l,xs,y,rfl,rfl,hH,hz,q⟩:=h;cases rx;obtain ⟨u,rfl,ru⟩:=rv.one;obtain ⟨z,its,n,r,hl,e⟩:=I.lstM hH;refine call_meets F.slot_list_append ⟨_,e,rfl⟩ F.entry_list_append (F.args_list_append_2 _ _) (PySem.list_append l its.toArray n u (by rw [size_toArray];omega)) ⟨e,?_⟩;refine ⟨.non,_,I.lset (its':=its++[u]) hH e (by simp) (r.append (.cons ru .nil)) ?_,rfl,q⟩;rw [length_append,List.length_singleton];omega
def qaY:V->List V->Hp->VK->Prop:=λx vs H Q=>∃ l b xs zs,x=.ref l/\vs=[.ref b]/\H l=some (.lst xs)/\H b=some (.lst zs)/\xs.length+zs.length<=sizeLine/\Q .non (upd H l (.lst (xs++zs)))
def qav:MtM X "list.extend" qaY:=by
 intro pins s σ H x vs v us Q I rx rv h;obtain ⟨l,b,xs,zs,rfl,rfl,hH,hB,hz,q⟩:=h;cases rx;obtain ⟨u,rfl,ru⟩:=rv.one;cases ru;obtain ⟨z,its,n,r,hl,e⟩:=I.lstM hH;obtain ⟨z2,its2,n2,r2,hl2,e2⟩:=I.lstM hB;have hsz:its.toArray.size+its2.toArray.size<=sizeLine:=by rw [size_toArray,size_toArray];omega
 have hlong:¬ (!its.toArray.isEmpty&&Builtin.List.listTooLong (its.toArray.size+its2.toArray.size))=true:=by
  rw [qbO hsz,Bool.and_false];exact Bool.false_ne_true
 refine call_meets F.slot_list_extend ⟨_,e,rfl⟩ F.entry_list_extend (F.args_list_extend_2 _ _)
  (AutoSeq1.list_extend_list_list_0 l its.toArray n b its2.toArray n2 hlong (by rw [size_toArray];omega) (by omega)) ⟨e,e2,?_⟩
 refine ⟨.non,_,I.lset (its':=its++its2) hH e (by simp) (r.append r2) ?_,rfl,q⟩;rw [length_append];omega
def qcD:V->List V->Hp->VK->Prop:=λx vs H Q=>∃ l xs,x=.ref l/\vs=[]/\H l=some (.lst xs)/\Q .non (upd H l (.lst []))
def qbW:MtM X "list.clear" qcD:=by
 intro pins s σ H x vs v us Q I rx rv h;obtain ⟨l,xs,rfl,rfl,hH,q⟩:=h;cases rx;have hus:=rv.zero;subst hus;obtain ⟨z,its,n,r,hl,e⟩:=I.lstM hH;refine call_meets F.slot_list_clear ⟨_,e,rfl⟩ F.entry_list_clear (F.args_list_clear_1 _) (AutoSeq1.list_clear_list_0 l its.toArray n (by rw [size_toArray];omega)) ⟨e,?_⟩;exact ⟨.non,_,I.lset (its':=[]) (ys:=[]) hH e rfl .nil (Nat.zero_le _),rfl,q⟩
def qoN:R2:=λx y H Q=>∃ l b xs zs,x=.ref l/\y=.ref b/\H l=some (.lst xs)/\H b=some (.lst zs)/\xs.length+zs.length<=sizeLine/\∀ p,H p=none->Q (.ref p) (upd H p (.lst (xs++zs)))
def ql1:OpR X (binaryOp .Add) qoN:=by
 intro pins s σ H x y v u Q I rx ry h;obtain ⟨l,b,xs,zs,rfl,rfl,hH,hB,hz,q⟩:=h;cases rx;cases ry;obtain ⟨z,its,n,r,hl,e⟩:=I.lstM hH;obtain ⟨z2,its2,n2,r2,hl2,e2⟩:=I.lstM hB;refine PySem.P.add_list e e2 ?_ (by rw [size_toArray,size_toArray];omega);have ea:its.toArray++its2.toArray=(its++its2).toArray:=by simp
 rw [ea];exact ⟨.ref _,_,I.lnew (t':=s.toks) (r.append r2) (by rw [length_append];omega),rfl,q _ I.fresh⟩
end
section
variable {prog:Program} {w:World} {A:Around} {E:Value->Shared->Prop} {s:Shared}
end
section
variable {X:Cx}
end
end L2
namespace Att
open PySem PySem.W PySem.Calls PyProof.Rows
def DI {P:Params} {h:Heap}:∀ (ns:List Int) (vs:List Value),WellAll P h vs (ns.map WData.int)->IntsAre vs ns:=by
 intro ns;induction ns with
 |nil=>
  intro vs w;rw [List.map_nil] at w;cases w;exact .nil
 |cons n ns ih=>
  intro vs w;rw [map_cons] at w;cases w with
  |cons a b=>
   cases a;exact .cons _ _ (ih _ b)
def NW {l:OpenLaw} {n:Nat} (hn:l.most=some n) {P:Params} {h:Heap} {args:List WData} {vals:List Value}
  (hpre:l.row.toRowW.claim.pre args=true) (hwl:WellAll P h vals args) :
  ∃ a vs ns,vals=[Value.ref a]/\args=[WData.list (ns.map WData.int)]/\h.get? a=some { cls:=.type "list",data:=.seq vs.toArray }/\IntsAre vs ns/\ns.length<=n:=by
 have hsh:WShape.hasAll [] args [.list .int]=true:=(pre_splitW hpre).1;have hc:l.pre.holds [] { args:=args }=true:=(pre_splitW hpre).2;obtain ⟨d,r,rfl,h1,h2⟩:=hasAllW_cons hsh;obtain rfl:=hasAllW_nil h2;obtain ⟨xs,rfl,h3⟩:=hasW_list h1;obtain ⟨ns,rfl⟩:=items_int h3;have hlen:ns.length<=n:=by
  unfold OpenLaw.pre at hc;have h4:(WTm.not (.lt (.lit (.int (n:Int))) (.len (.arg 0)))).holds [] { args:=[.list (ns.map .int)] }=true:=by
   have h4:=(holds_andW hc).1;rw [hn] at h4;exact h4
  have h5:=condW_of h4 (w_not (w_lt w_lit (w_len_list (w_arg rfl))));rw [length_map] at h5;refine Nat.le_of_not_lt λq=>?_;have q':(n:Int)<((ns.length:Nat):Int):=by omega
  first
   | (rw [decide_eq_true q'] at h5;exact absurd h5 (by decide))
   | (simp at h5;omega)
 cases hwl with
 |cons w1 w2=>
  cases w2;cases w1 with
  |list ho hall=>exact ⟨_,_,ns,rfl,rfl,ho,DI ns _ hall,hlen⟩
def qa9 (l:OpenLaw) (args:List WData):l.row.toRowW.claim.post args (.bool true) args=true:=
 postW_of (r:=l.row.toRowW) (X:=(true==true))
  (show WShape.has [] (.bool true) .bool=true by first|rfl|decide|simp [WShape.has,WShape.arms,WShape.armsAll])
  (show (WTm.eq .res (.lit (.bool true))).value [] { args:=args,res:=some (.bool true),after:=args }=some (.bool (true==true)) from w_eq_bool (w_res rfl) w_lit) rfl
def T0 {l:OpenLaw} {n:Nat} {q:Program} {loose:List Str} {XP:(Str->Option Value)->Heap->Prop} {YP:World->Heap->Prop} {d:DefRec}
  (hn:l.most=some n) (hdf:d.params.defaults=[])
  (call:∀ (w:World) (s₀ s₁:Shared) (mg mb:Str->Option Value) (fa:Addr) (o:Obj) (pm cd doc:Value) (a:Addr) (vs:List Value) (ns:List Int),
   Ground q loose [] XP w s₀ mg mb s₁.heap->YP w s₁.heap ->
   s₁.heap.get? fa=some o->o.data=.func (docDef d.name d.params d.body d.scope pm cd doc)->s₁.heap.CodeRec cd d.name->mg d.name=some (.ref fa) ->
   s₁.heap.get? a=some { cls:=.type "list",data:=.seq vs.toArray }->IntsAre vs ns->ns.length<=n->s₁.gens=#[] ->
   codeAny (model l.prog w) callerA (.call (.ref fa) ⟨[.ref a],[]⟩) (λr s'=>r=.ok (.ret (.bool true))/\OldK s₁.heap s'.heap/\s'.os=s₁.os/\AllBare s'.gens) s₁) :
  WalkO q loose XP YP l.row.toRowW d [] (λf vs=>PySem.call f vs):=by
 intro w s₀ s₁ mg mb G Y fa o pm cd doc dV kV ho hd hcd hD hmg hg args vals as hpre hlay hrd hwl hlo;obtain rfl:dV=.none:=Dflts.none hD hdf;obtain rfl:kV=.none:=Dflts.noKw hD;obtain ⟨a,vs,ns,rfl,rfl,hobj,hints,hlen⟩:=NW hn hpre hwl;refine enter_call (codeAny_mono (call w s₀ s₁ mg mb fa o pm cd doc a vs ns G Y ho (fd_plain hd) hcd hmg hobj hints hlen hg) λr s' hq=>?_);obtain ⟨rfl,h2,h3,h4⟩:=hq;exact ⟨.inl ⟨.bool true,.bool true,[],rfl,λ_=>rfl,.bool true,qa9 l _,λ_=>⟨List.Pairwise.nil,λ_ hm=>(nomatch hm)⟩⟩,h2,h3,h4⟩
section
variable {prog:Program} {w:World} {A:Around} {E:Value->Shared->Prop} {s:Shared} {K:Frag}
end
end Att
namespace L2
open PySem PySem.Spec PyProof.Rows
def SH:∀ {vs:List Value} {ns:List Int},IntsAre vs ns->zQ (ns.map V.int) vs
 |_,_,.nil=>.nil
 |_,_,.cons n t h=>.cons ⟨t,rfl⟩ (SH h)
def qmp (H:Hp):Prop:=∀ b,H b=none\/∃ o xs,H b=some (.frz o (.lst xs))
def qbK {P:Program} {w:World} {K:Frg} {mg mb:Str->Option Value} {CX:CXT} {k:Nat} {fa a:Addr} {fd:FuncData} {x:Str} {sp:Sp} {s₁:Shared} {vs:List Value} {ns:List Int}
  (KX:K.In s₁.heap) (hns:s₁.heap.Ns mainGlobals mg) (hb:s₁.heap.Ns builtinsNs mb) (hbb:∀ x:Str,x≠"__name__" -> mb x=bootBuiltins x) (hlim:s₁.heap.NoLimit) (hg:s₁.gens=#[])
  (ha:s₁.heap.get? a=some { cls:=.type "list",data:=.seq vs.toArray }) (hi:IntsAre vs ns) (hl:ns.length<=sizeLine) (hr:Room k callerA)
  (F:∀ base:Heap,K.In base->base.Ns mainGlobals mg->FnOk P w K mg base CX k fa fd [x] sp) (hbind:∀ (s:Shared) (u:Value),BindsTo s fd ⟨[u],[]⟩ [(x,u)])
  (hsp:∀ H:Hp,qmp H->SqL K H a (ns.map V.int)->sp [.ref a] H (λv _=>v=.bl true) λ_ _ _=>False)
  (hCX:∀ H e s',CX [] H s₁ (λ_ _ _=>False) e s'->False) :
  codeAny (model P w) callerA (.call (.ref fa) ⟨[.ref a],[]⟩) (λr s'=>r=.ok (.ret (.bool true))/\OldK s₁.heap s'.heap/\s'.os=s₁.os/\AllBare s'.gens) s₁:=by
 have rv:=SH hi;have lenV:=hi.length
 -- from an abstract heap in which nothing but the script may be tracked
 have core:∀ H:Hp,qmp H->SqL K H a (ns.map V.int)->HOk P w H s₁.heap->(∀ b,H b≠none->b=a)->(H a≠none->K.lookup a=none) ->
   codeAny (model P w) callerA (.call (.ref fa) ⟨[.ref a],[]⟩) (λr s'=>r=.ok (.ret (.bool true))/\OldK s₁.heap s'.heap/\s'.os=s₁.os/\AllBare s'.gens) s₁:=by
  intro H hO hS hok hA hK;have base_of:∀ {b:Addr} {o:Obj},s₁.heap.get? b=some o->H b=none->(qb6 s₁.heap H).get? b=some o:=λe n=>qcf e n;have noA:∀ {b:Addr} {o:Obj} {es:Array DictEntry} {ep:Nat},s₁.heap.get? b=some o->o.data=.dict es ep->H b=none:=λ{b o es ep} e d=>by
   cases q:H b with
   |none=>rfl
   |some u=>
    have e':b=a:=hA b (by rw [q];simp);subst e';rw [ha] at e;cases e;have d':Data.seq vs.toArray _=Data.dict es ep:=d;cases d'
  have nsK:∀ {b:Addr} {m:Str->Option Value},s₁.heap.Ns b m->(qb6 s₁.heap H).Ns b m:=λ{b m} ⟨o,es,ep,e,d,r⟩=>⟨o,es,ep,base_of e (noA e d),d,r⟩
  have hKb:K.In (qb6 s₁.heap H):=λb o e=>base_of (KX b o e) (by
   cases q:H b with
   |none=>rfl
   |some u=>
    have e':b=a:=hA b (by rw [q];simp);subst e';rw [hK (by rw [q];simp)] at e;cases e)
  have hM:Mod K mg (qb6 s₁.heap H):=⟨hKb,nsK hns,⟨mb,nsK hb,hbb⟩,let ⟨mc,h1,h2⟩:=hlim;⟨mc,nsK h1,h2⟩⟩
  have e0:Env0 P w K mg (qb6 s₁.heap H) callerA [] s₁ H:=⟨rfl,hM,λb o e=>qge e,Nat.le_of_eq (M2 _ _),trivial,λb hb=>absurd (show b∈([]:List Addr) from hb) (by simp),hok,.of_eq hg⟩
  refine codeAny_mono ((F _ hKb (nsK hns)).run callerA [] s₁ H ⟨[.ref a],[]⟩ [.ref a] [.ref a] _ _ hr e0 (hbind s₁ (.ref a)) (.cons rfl .nil) (hsp H hO hS)) λr s' h=>?_;cases r with
  |error e=>exact (hCX H e s' h).elim
  |ok fl=>
   cases fl with
   |next=>exact False.elim h
   |brk=>exact False.elim h
   |cont=>exact False.elim h
   |ret u=>
    obtain ⟨v,H',os,bare,un,hok',r',q⟩:=h;have q':v=.bl true:=q;subst q';obtain rfl:u=Value.bool true:=r';refine ⟨rfl,OldK.of_keep λb o e=>?_,os,bare⟩;cases q:H b with
    |none=>exact un.keep b o e q (by intro z;exact absurd (show b∈([]:List Addr) from z) (by simp)) (by simp)
    |some u=>
     rcases hO b with z|⟨ob,xs,z⟩
     ·rw [q] at z;cases z
     ·have z2:=un.frzs b ob _ z;obtain ⟨e1,_⟩:=hok b _ z;obtain ⟨e2,_⟩:=hok' b _ z2;rw [e] at e1;cases e1;exact e2
 cases hk:K.lookup a with
 |some o=>
  -- the script is one of the module's own objects
  have e:=KX a o hk;rw [ha] at e;cases e;refine core (λ_=>none) (λ_=>.inl rfl) (.inr ⟨_,vs.toArray,_,hk,rfl,rfl,rfl,by rw [size_toArray,lenV];exact hl,by simpa using rv⟩) (λb u z=>by have z':(none:Option HO)=some u:=z;cases z') (λb z=>absurd rfl z) λz=>absurd rfl z
 |none=>
  refine core (λb=>if b=a then some (.frz { cls:=.type "list",data:=.seq vs.toArray } (.lst (ns.map V.int))) else none) (λb=>?_) (.inl (.inr ⟨{ cls:=.type "list",data:=.seq vs.toArray },if_pos rfl⟩)) (λb u z=>?_) (λb z=>?_) λ_=>hk
  ·by_cases hb:b=a
   ·exact .inr ⟨_,_,if_pos hb⟩
   ·exact .inl (if_neg hb)
  ·by_cases hb:b=a
   ·have z':=(if_pos hb).symm.trans z;cases z';subst hb;exact ⟨ha,by rw [length_map];exact hl,vs,_,rv,ha⟩
   ·have z':=(if_neg hb).symm.trans z;cases z'
  ·by_cases hb:b=a
   ·exact hb
   ·exact absurd (if_neg hb) z
def qeZ {l:PySem.W.OpenLaw} {n k:Nat} {q:Program} {loose:List Str} {XP:(Str->Option Value)->Heap->Prop} {YP:World->Heap->Prop} {d:DefRec} {K:Params->PySem.W.Frag} {CX:World->CXT} {sp:World->Sp} {x:Str}
  (hn:l.most=some n) (hn2:n<=sizeLine) (hdf:d.params.defaults=[]) (hr:Room k callerA)
  (hY:∀ (w:World) (h:Heap),YP w h->(K w.params).In h)
  (F:∀ (w:World) (mg:Str->Option Value) (fa:Addr) (h:Heap),(K w.params).In h->h.Ns mainGlobals mg->mg d.name=some (.ref fa) ->
   ∃ fd:FuncData,(∀ (s:Shared) (u:Value),BindsTo s fd ⟨[u],[]⟩ [(x,u)]) /\
    ∀ base:Heap,(K w.params).In base->base.Ns mainGlobals mg->FnOk l.prog w (K w.params) mg base (CX w) k fa fd [x] (sp w))
  (hsp:∀ (w:World) (H:Hp) (a:Addr) (ns:List Int),ns.length<=n->qmp H->SqL (K w.params) H a (ns.map V.int)->sp w [.ref a] H (λv _=>v=.bl true) λ_ _ _=>False)
  (hCX:∀ (w:World) (H:Hp) (s:Shared) (e:Value) (s':Shared),CX w [] H s (λ_ _ _=>False) e s'->False) :
  PySem.W.WalkO q loose XP YP l.row.toRowW d [] (λf vs=>PySem.call f vs):=by
 refine Att.T0 hn hdf λw s₀ s₁ mg mb fa o pm cd doc a vs ns G Y ho hd hcd hmg hobj hints hlen hg=>?_;have KX:=hY w _ Y;obtain ⟨fd,hb,hF⟩:=F w mg fa _ KX G.T.g hmg;exact qbK KX G.T.g G.T.b G.T.builtins G.T.nolimit hg hobj hints (Nat.le_trans hlen hn2) hr hF hb (λH hO hS=>hsp w H a ns hlen hO hS) λH e s'=>hCX w H s₁ e s'
def jm (s:Stmt):Arguments:=match s with
 |.FunctionDef _ a _ _ _ _ _ _ _ _=>a
 |_=>{ posonlyargs:=[],args:=[],vararg:=none,kwonlyargs:=[],kw_defaults:=[],kwarg:=none,defaults:=[] }
def zi (s:Stmt):List Stmt:=match s with
 |.FunctionDef _ _ b _ _ _ _ _ _ _=>b
 |_=>[]
def qi (s:Stmt):Scope:=match s with
 |.FunctionDef _ _ _ _ _ _ sc _ _ _=>sc
 |_=>{ kind:=.function,names:=[],isGenerator:=false,isCoroutine:=false }
abbrev CX0:CXT:=λ_ _ _ _ _ _=>False
abbrev E0:XK:=λ_ _ _=>False
def qmS {X:Cx}:qag CX0 X E0:=λ_ _ _ _ _ _ _ h=>h.elim
structure Fun (K:Frg) (x qual:Str) (st:Stmt) (f:Addr) (fd:FuncData):Prop where
 ex:∃ (oc:Value) (od:Option Addr) (kV doc pm:Value) (an:Option Addr) (cdv ct:Value) (osl:Array (Option Value)),
  fd=PySem.W.fnOf x qual (jm st) (zi st) (qi st) .none kV doc pm an cdv ct/\K.lookup f=some ⟨oc,od,.func fd,osl⟩/\PySem.W.codeIn K cdv qual=true
 kp:PySem.W.keepIn K (.ref f)=true
section
variable {P:Program} {w:World} {K:Frg} {mg:Str->Option Value} {base:Heap}
def Fun.ok {x qual:Str} {st:Stmt} {f:Addr} {fd:FuncData} {N ps:List Str} {k:Nat} {sp:Sp} (F:Fun K x qual st f fd) (S:FnScope N ps (qi st)) (len:∀ vs H Q E,sp vs H Q E->vs.length=ps.length)
  (hbody:∀ (cdv:Value) (A:Around) (outer:List Env) (s:Shared) (H:Hp) (vs:List V) (Q:VK) (E:XK),Room k (A.deeper (envOfC qual (qi st) s.heap.objs.size f cdv))->sp vs H Q E ->
   ∃ t,PSs (U2 CX0 P w K mg base N qual (qi st) f cdv A outer s H E).nox (zi st) t/\t { nx:=λ_ H'=>Q .non H',rt:=Q } (DR N vs) H):FnOk P w K mg base CX0 (k+1) f fd ps sp:=by
 obtain ⟨oc,od,kV,doc,pm,an,cdv,ct,osl,rfl,lk,hcd⟩:=F.ex;refine qhf lk hcd S len λA outer s H vs Q E hr hsp=>?_;obtain ⟨t,h,q⟩:=hbody cdv A outer s H vs Q E hr hsp;exact ⟨t,h.nox,q⟩
def Fun.binds {x qual:Str} {st:Stmt} {f:Addr} {fd:FuncData} {ps:List Str} (F:Fun K x qual st f fd)
  (h:∀ (kV doc pm:Value) (an:Option Addr) (cdv ct:Value) (us:List Value),us.length=ps.length->bindArgs (PySem.W.fnOf x qual (jm st) (zi st) (qi st) .none kV doc pm an cdv ct) ⟨us,[]⟩=pure (ps.zip us)):zm K fd ps []:=by
 obtain ⟨oc,od,kV,doc,pm,an,cdv,ct,osl,rfl,lk,hcd⟩:=F.ex;exact .all (h kV doc pm an cdv ct)
def qiU {x qual:Str} {st:Stmt} {f:Addr} {oc:Value} {od an:Option Addr} {osl:Array (Option Value)} {kV doc pm cdv ct:Value} (l:K.lookup f=some ⟨oc,od,.func (PySem.W.fnOf x qual (jm st) (zi st) (qi st) .none kV doc pm an cdv ct),osl⟩)
  (c:PySem.W.codeIn K cdv qual=true) (k:PySem.W.keepIn K (.ref f)=true):Fun K x qual st f (PySem.W.fnOf x qual (jm st) (zi st) (qi st) .none kV doc pm an cdv ct):=⟨⟨oc,od,kV,doc,pm,an,cdv,ct,osl,rfl,l,c⟩,k⟩
end
section
variable {X:Cx}
end
def qmq {A B:Prop} (h:B):if false=true then A else B:=by
 rw [if_neg Bool.false_ne_true];exact h
def qml {A B:Prop} (h:A):if true=true then A else B:=by
 rw [if_pos rfl];exact h
end L2
set_option maxHeartbeats 4000000
namespace L3
open PySem PySem.Spec PyProof.Rows L2
set_option genInjectivity true in
inductive T where
 |non|bl (b:Bool)|int (i:Int)|str (x:Str)|tup (xs:List T)|ref (a:Addr)
inductive O where
 |lst (xs:List T)
 |frz (xs:List T)
 |dct (kvs:List (Int×T))
 |exn (C:Addr)
abbrev Gp:=Addr->Option O
def gu (G:Gp) (a:Addr) (o:O):Gp:=λb=>if b=a then some o else G b
def qq {G:Gp} {a:Addr} {o:O}:gu G a o a=some o:=by unfold gu;rw [if_pos rfl]
def zS {G:Gp} {a b:Addr} {o:O} (h:b≠a):gu G a o b=G b:=by unfold gu;rw [if_neg h]
mutual
inductive Rp (K:Frg) (H:Hp):T->V->Prop
 |non:Rp K H .non .non
 |bl (b:Bool):Rp K H (.bl b) (.bl b)
 |int (i:Int):Rp K H (.int i) (.int i)
 |str (x:Str):Rp K H (.str x) (.str x)
 |ref (a:Addr):Rp K H (.ref a) (.ref a)
 |tup {xs:List T} {a:Addr} {vs:List V}:SqT K H a vs->Rps K H xs vs->Rp K H (.tup xs) (.ref a)
inductive Rps (K:Frg) (H:Hp):List T->List V->Prop
 |nil:Rps K H [] []
 |cons {x:T} {v:V} {xs:List T} {vs:List V}:Rp K H x v->Rps K H xs vs->Rps K H (x::xs) (v::vs)
end
def IsX (a C:Addr) (h:Heap):Prop:=∃ o vs,h.get? a=some o/\o.cls=.ref C/\o.data=.fields vs
def OR (K:Frg) (H:Hp) (a:Addr):O->Prop
 |.lst xs=>∃ vs,H a=some (.lst vs)/\Rps K H xs vs
 |.frz xs=>∃ vs,(∃ o,H a=some (.frz o (.lst vs)))/\Rps K H xs vs
 |.dct kvs=>∃ vs,H a=some (.dK ((kvs.map λp=>(Sum.inl p.1:Key)).zip vs))/\Rps K H (kvs.map λp=>p.2) vs
 |.exn C=>H a=some (.ext (IsX a C))
def HR (K:Frg) (G:Gp) (H:Hp):Prop:=∀ a o,G a=some o->OR K H a o
def Kp (G:Gp) (H:Hp) (G':Gp) (H':Hp):Prop:=∀ a o,H a=some o->G a=none->H' a=some o/\G' a=none
def Kp.refl {G:Gp} {H:Hp}:Kp G H G H:=λ_ _ h g=>⟨h,g⟩
def Kp.trans {G G1 G2:Gp} {H H1 H2:Hp} (a:Kp G H G1 H1) (b:Kp G1 H1 G2 H2):Kp G H G2 H2:=λx o h g=>
 let ⟨h1,g1⟩:=a x o h g;b x o h1 g1
section
variable {K:Frg} {G G':Gp} {H H':Hp}
def HR.noneT (hr:HR K G H) {a:Addr} {vs:List V} (h:Rd H a (.tup vs)):G a=none:=by
 cases e:G a with
 |none=>rfl
 |some o=>
  have q:=hr a o e;cases o with
  |lst xs=>
   obtain ⟨us,q1,_⟩:=q;rcases h with h|⟨ob,h⟩<;>(rw [q1] at h;cases h)
  |frz xs=>
   obtain ⟨us,⟨o1,q1⟩,_⟩:=q;rcases h with h|⟨ob,h⟩<;>(rw [q1] at h;cases h)
  |dct kvs=>
   obtain ⟨us,q1,_⟩:=q;rcases h with h|⟨ob,h⟩<;>(rw [q1] at h;cases h)
  |exn C=>
   have q1:H a=some (.ext (IsX a C)):=q;rcases h with h|⟨ob,h⟩<;>(rw [q1] at h;cases h)
def XQ (hr:HR K G H) (k:Kp G H G' H') {a:Addr} {vs:List V} (h:SqT K H a vs):SqT K H' a vs:=by
 rcases h with h|h
 ·have g:=hr.noneT h;rcases h with h|⟨o,h⟩
  ·exact .inl (.inl (k a _ h g).1)
  ·exact .inl (.inr ⟨o,(k a _ h g).1⟩)
 ·exact .inr h
mutual
def Rp.keep (hr:HR K G H) (k:Kp G H G' H'):∀ {x:T} {v:V},Rp K H x v->Rp K H' x v
 |_,_,.non=>.non
 |_,_,.bl b=>.bl b
 |_,_,.int i=>.int i
 |_,_,.str x=>.str x
 |_,_,.ref a=>.ref a
 |_,_,.tup h hs=>.tup (XQ hr k h) (Rps.keep hr k hs)
def Rps.keep (hr:HR K G H) (k:Kp G H G' H'):∀ {x:List T} {v:List V},Rps K H x v->Rps K H' x v
 |_,_,.nil=>.nil
 |_,_,.cons a b=>.cons (Rp.keep hr k a) (Rps.keep hr k b)
end
def Rps.length:∀ {xs:List T} {vs:List V},Rps K H xs vs->xs.length=vs.length
 |_,_,.nil=>rfl
 |_,_,.cons _ b=>by simp [Rps.length b]
def Rps.get:∀ {xs:List T} {vs:List V} {i:Nat} {x:T},Rps K H xs vs->xs[i]?=some x->∃ v,vs[i]?=some v/\Rp K H x v
 |_,_,_,_,.nil,e=>by simp at e
 |_,_,0,_,.cons r _,e=>by simp at e;subst e;exact ⟨_,rfl,r⟩
 |_,_,i+1,x,.cons _ t,e=>by
  obtain ⟨u,h1,h2⟩:=Rps.get (i:=i) (x:=x) t (by simpa using e);exact ⟨u,by simpa using h1,h2⟩
def Rps.append:∀ {xs ys:List T} {vs us:List V},Rps K H xs vs->Rps K H ys us->Rps K H (xs++ys) (vs++us)
 |_,_,_,_,.nil,s=>s
 |_,_,_,_,.cons r t,s=>.cons r (Rps.append t s)
def Rps.take:∀ {xs:List T} {vs:List V} (n:Nat),Rps K H xs vs->Rps K H (xs.take n) (vs.take n)
 |_,_,0,_=>.nil
 |_,_,_+1,.nil=>.nil
 |_,_,n+1,.cons r t=>.cons r (Rps.take n t)
def Rps.drop:∀ {xs:List T} {vs:List V} (n:Nat),Rps K H xs vs->Rps K H (xs.drop n) (vs.drop n)
 |_,_,0,r=>r
 |_,_,_+1,.nil=>.nil
 |_,_,n+1,.cons _ t=>Rps.drop n t
def Rps.set {x:T} {v:V} (r:Rp K H x v):∀ {xs:List T} {vs:List V} (i:Nat),Rps K H xs vs->Rps K H (xs.set i x) (vs.set i v)
 |_,_,_,.nil=>.nil
 |_,_,0,.cons _ t=>.cons r t
 |_,_,i+1,.cons q t=>.cons q (Rps.set r i t)
def Rps.ints:∀ (ns:List Int),Rps K H (ns.map T.int) (ns.map V.int)
 |[]=>.nil
 |n::r=>.cons (.int n) (Rps.ints r)
def Rps.reverse {xs:List T} {vs:List V} (h:Rps K H xs vs):Rps K H xs.reverse vs.reverse:=by
 induction xs generalizing vs with
 |nil=>cases h;exact .nil
 |cons x r ih=>
  cases h with
  |cons a b=>
   rw [List.reverse_cons,List.reverse_cons];exact (ih b).append (.cons a .nil)
def Kp.laid {p:Addr} {ho:HO} (hp:H p=none):Kp G H G (upd H p ho):=λa o h g=>⟨by rw [qz (qF h hp)];exact h,g⟩
def HR.free (hr:HR K G H) {p:Addr} (hp:H p=none):G p=none:=by
 cases e:G p with
 |none=>rfl
 |some o=>
  have q:=hr p o e;cases o with
  |lst xs=>obtain ⟨us,q1,_⟩:=q;rw [hp] at q1;cases q1
  |frz xs=>obtain ⟨us,⟨o1,q1⟩,_⟩:=q;rw [hp] at q1;cases q1
  |dct kvs=>obtain ⟨us,q1,_⟩:=q;rw [hp] at q1;cases q1
  |exn C=>have q1:H p=some (.ext (IsX p C)):=q;rw [hp] at q1;cases q1
def OR.keep (hr:HR K G H) (k:Kp G H G' H') {a:Addr} {o:O} (h:OR K H a o) (e:∀ u,H a=some u->H' a=some u):OR K H' a o:=by
 cases o with
 |lst xs=>obtain ⟨vs,h1,h2⟩:=h;exact ⟨vs,e _ h1,h2.keep hr k⟩
 |frz xs=>obtain ⟨vs,⟨o,h1⟩,h2⟩:=h;exact ⟨vs,⟨o,e _ h1⟩,h2.keep hr k⟩
 |dct kvs=>obtain ⟨vs,h1,h2⟩:=h;exact ⟨vs,e _ h1,h2.keep hr k⟩
 |exn C=>exact e _ h
def HR.laid (hr:HR K G H) {p:Addr} {ho:HO} (hp:H p=none):HR K G (upd H p ho):=λa o e=>
 (hr a o e).keep hr (Kp.laid hp) λu h=>by rw [qz (qF h hp)];exact h
def Kp.newL {p:Addr} {ho:HO} {o':O} (hp:H p=none):Kp G H (gu G p o') (upd H p ho):=λa o h g=>
 ⟨by rw [qz (qF h hp)];exact h,by rw [zS (qF h hp)];exact g⟩
def HR.newL (hr:HR K G H) {p:Addr} {xs:List T} {vs:List V} (hp:H p=none) (r:Rps K H xs vs):HR K (gu G p (.lst xs)) (upd H p (.lst vs)):=λa o e=>by
 by_cases ha:a=p
 ·subst ha;rw [qq] at e;cases e;exact ⟨vs,zg,r.keep hr (Kp.laid hp)⟩
 ·rw [zS ha] at e;exact (hr a o e).keep hr (Kp.laid hp) λu h=>by rw [qz ha];exact h
def Kp.wr {p:Addr} {ho:HO} {o o':O} (g:G p=some o):Kp G H (gu G p o') (upd H p ho):=λa ob h ga=>by
 have ha:a≠p:=by intro e;subst e;rw [g] at ga;cases ga
 exact ⟨by rw [qz ha];exact h,by rw [zS ha];exact ga⟩
def HR.wr (hr:HR K G H) {p:Addr} {ys xs:List T} {vs:List V} (g:G p=some (.lst ys)) (r:Rps K H xs vs):HR K (gu G p (.lst xs)) (upd H p (.lst vs)):=λa o e=>by
 have k:Kp G H (gu G p (.lst xs)) (upd H p (.lst vs)):=Kp.wr g;by_cases ha:a=p
 ·subst ha;rw [qq] at e;cases e;exact ⟨vs,zg,r.keep hr k⟩
 ·rw [zS ha] at e;exact (hr a o e).keep hr k λu h=>by rw [qz ha];exact h
end
abbrev St3:=List (Option T)
structure Rel (K:Frg) (τ:St3) (G:Gp) (σ:L2.St) (H:Hp):Prop where
 hp:HR K G H
 len:τ.length=σ.length
 st:∀ (i:Nat) (t:T),τ[i]?=some (some t)->∃ v,σ[i]?=some (some v)/\Rp K H t v
def Rel.next {K:Frg} {τ:St3} {G G':Gp} {σ:L2.St} {H H':Hp} (r:Rel K τ G σ H) (hr:HR K G' H') (k:Kp G H G' H'):Rel K τ G' σ H':=
 ⟨hr,r.len,λi t e=>let ⟨v,h1,h2⟩:=r.st i t e;⟨v,h1,h2.keep r.hp k⟩⟩
def Rel.set {K:Frg} {τ:St3} {G:Gp} {σ:L2.St} {H:Hp} {t:T} {v:V} (r:Rel K τ G σ H) (i:Nat) (h:Rp K H t v):Rel K (τ.set i (some t)) G (σ.set i (some v)) H:=by
 refine ⟨r.hp,by simp [r.len],λj u e=>?_⟩;by_cases hij:i=j
 ·subst hij;rw [List.getElem?_set_self'] at e;have hl:i<τ.length:=by
   cases q:τ[i]? with
   |none=>rw [q] at e;cases e
   |some z=>exact (List.getElem?_eq_some_iff.mp q).1
  rw [getElem?_eq_getElem hl] at e;have e':t=u:=by simpa using e
  subst e';exact ⟨v,by rw [List.getElem?_set_self (by rw [← r.len];exact hl)],h⟩
 ·rw [List.getElem?_set_ne hij] at e;obtain ⟨w,h1,h2⟩:=r.st j u e;exact ⟨w,by rw [List.getElem?_set_ne hij];exact h1,h2⟩
abbrev Q3:=T->Gp->Prop
abbrev TE3:=St3->Gp->Q3->Prop
abbrev TT3:=St3->Gp->(Bool->Gp->Prop)->Prop
abbrev TA3:=St3->Gp->(List T->Gp->Prop)->Prop
def Aft (K:Frg) (G:Gp) (H:Hp) (q:Q3) (Q:VK):Prop:=∀ x G',q x G'->∀ v H',Rp K H' x v->HR K G' H'->Kp G H G' H'->Q v H'
def qmf (K:Frg) (G:Gp) (H:Hp) (q:Bool->Gp->Prop) (Q:Bool->Hp->Prop):Prop:=∀ x G',q x G'->∀ H',HR K G' H'->Kp G H G' H'->Q x H'
def qpi (K:Frg) (G:Gp) (H:Hp) (q:List T->Gp->Prop) (Q:List V->Hp->Prop):Prop:=∀ x G',q x G'->∀ v H',Rps K H' x v->HR K G' H'->Kp G H G' H'->Q v H'
def lE (K:Frg) (t:TE3):TE:=λσ H Q=>∃ τ G q,Rel K τ G σ H/\t τ G q/\Aft K G H q Q
def lT (K:Frg) (t:TT3):TT:=λσ H Q=>∃ τ G q,Rel K τ G σ H/\t τ G q/\qmf K G H q Q
def lA (K:Frg) (t:TA3):TA:=λσ H Q=>∃ τ G q,Rel K τ G σ H/\t τ G q/\qpi K G H q Q
abbrev E3 (X:Cx) (e:Expr) (t:TE3):Prop:=PE X e (lE X.K t)
abbrev C3 (X:Cx) (e:Expr) (t:TT3):Prop:=PT X e (lT X.K t)
abbrev W3 (X:Cx) (e:Expr) (t:TT3):Prop:=PW X e (lT X.K t)
abbrev A3 (X:Cx) (es:List Expr) (t:TA3):Prop:=PA X es (lA X.K t)
def Aft.back {K:Frg} {G G1:Gp} {H H1:Hp} {q:Q3} {Q:VK} (a:Aft K G H q Q) (k:Kp G H G1 H1):Aft K G1 H1 q Q:=λx G' h v H' r hr k'=>a x G' h v H' r hr (k.trans k')
def qmf.back {K:Frg} {G G1:Gp} {H H1:Hp} {q:Bool->Gp->Prop} {Q:Bool->Hp->Prop} (a:qmf K G H q Q) (k:Kp G H G1 H1):qmf K G1 H1 q Q:=λx G' h H' hr k'=>a x G' h H' hr (k.trans k')
def UZ {X:Cx} {e:Expr} {t t':TE} (h:PE X e t) (w:∀ σ H Q,t' σ H Q->t σ H Q):PE X e t':=λpins s σ H Q I q=>h pins s σ H Q I (w σ H Q q)
def qmW {X:Cx} {e:Expr} {t t':TT} (h:PT X e t) (w:∀ σ H Q,t' σ H Q->t σ H Q):PT X e t':=λpins s σ H Q I q=>h pins s σ H Q I (w σ H Q q)
def qoJ {X:Cx} {e:Expr} {t t':TT} (h:PW X e t) (w:∀ σ H Q,t' σ H Q->t σ H Q):PW X e t':=λwh pins s σ H Q I q=>h wh pins s σ H Q I (w σ H Q q)
def qm7 {X:Cx} {e:List Expr} {t t':TA} (h:PA X e t) (w:∀ σ H Q,t' σ H Q->t σ H Q):PA X e t':=λpos pins s σ H Q I q=>h pos pins s σ H Q I (w σ H Q q)
def zr {K:Frg} {ta:TE3} {τ:St3} {G:Gp} {σ:L2.St} {H:Hp} {q:Q3} {Q:VK} (r:Rel K τ G σ H) (h:ta τ G q)
  (n:∀ x G1,q x G1->∀ v H1,Rp K H1 x v->HR K G1 H1->Kp G H G1 H1->Rel K τ G1 σ H1->Q v H1):lE K ta σ H Q:=
 ⟨τ,G,q,r,h,λx G1 hq v H1 rx hr k=>n x G1 hq v H1 rx hr k (r.next hr k)⟩
def WU {K:Frg} {ta:TT3} {τ:St3} {G:Gp} {σ:L2.St} {H:Hp} {q:Bool->Gp->Prop} {Q:Bool->Hp->Prop} (r:Rel K τ G σ H) (h:ta τ G q)
  (n:∀ x G1,q x G1->∀ H1,HR K G1 H1->Kp G H G1 H1->Rel K τ G1 σ H1->Q x H1):lT K ta σ H Q:=
 ⟨τ,G,q,r,h,λx G1 hq H1 hr k=>n x G1 hq H1 hr k (r.next hr k)⟩
def ZX {K:Frg} {ta:TA3} {τ:St3} {G:Gp} {σ:L2.St} {H:Hp} {q:List T->Gp->Prop} {Q:List V->Hp->Prop} (r:Rel K τ G σ H) (h:ta τ G q)
  (n:∀ x G1,q x G1->∀ v H1,Rps K H1 x v->HR K G1 H1->Kp G H G1 H1->Rel K τ G1 σ H1->Q v H1):lA K ta σ H Q:=
 ⟨τ,G,q,r,h,λx G1 hq v H1 rx hr k=>n x G1 hq v H1 rx hr k (r.next hr k)⟩
section
variable {X:Cx} {a b c:Expr} {ta tb tc:TE3} {pos:Pos}
def v3 (i:Nat):TE3:=λτ G q=>match τ[i]? with|some (some t)=>q t G|_=>False
def qno (i:Nat) {x:Str} {pos:Pos} (hN:X.N[i]?=some x:=by rfl) (hv:Vis X.env.scope x:=by first|exact Or.inl rfl|exact Or.inr (Or.inl rfl)|exact Or.inr (Or.inr rfl)) (hd:(x==("__debug__" : Str))=false:=by decide)
  (hcd:(x==("__classdict__" : Str))=false:=by decide):E3 X (.Name x pos) (v3 i):=by
 refine UZ (qjD (i:=i) hN hv hd hcd) λσ H Q ⟨τ,G,q,r,h,af⟩=>?_;unfold v3 at h;split at h
 ·rename_i t e;obtain ⟨v,e2,rv⟩:=r.st i t e;exact ⟨v,e2,af t G h v H rv r.hp Kp.refl⟩
 ·exact h.elim
def c3 (t:T):TE3:=λ_ G q=>q t G
def e_c {t:T} {v:V} {e:Expr} (h:PE X e (tC v)) (hr:∀ H,Rp X.K H t v):E3 X e (c3 t):=UZ h λσ H Q ⟨τ,G,q,r,h,af⟩=>af t G h v H (hr H) r.hp Kp.refl
def qmD {i:Int} {j pos}:E3 X (.Constant (.int i) j pos) (c3 (.int i)):=e_c qlr λ_=>.int i
def qpT {b:Bool} {j pos}:E3 X (.Constant (.bool b) j pos) (c3 (.bl b)):=e_c qoe λ_=>.bl b
def qoy {j pos}:E3 X (.Constant .none j pos) (c3 .non):=e_c qie λ_=>.non
def qns {x:Str} {j pos}:E3 X (.Constant (.str x) j pos) (c3 (.str x)):=e_c qdu λ_=>.str x
def n3:TE3:=λ_ _ _=>False
abbrev R3:=T->T->Gp->Q3->Prop
def D0 (K:Frg) (r3:R3) (r:R2):Prop:=∀ x y v u G H q Q,HR K G H->Rp K H x v->Rp K H y u->r3 x y G q->Aft K G H q Q->r v u H Q
def o3 (r:R3) (ta tb:TE3):TE3:=λτ G q=>ta τ G λx G1=>tb τ G1 λy G2=>r x y G2 q
def qbN {K:Frg} {r3:R3} {r:R2} (hr:D0 K r3 r) {σ:L2.St} {H:Hp} {Q:VK} (h:lE K (o3 r3 ta tb) σ H Q):tOp r (lE K ta) (lE K tb) σ H Q:=by
 obtain ⟨τ,G,q,rl,h,af⟩:=h;refine zr rl h λx G1 h1 v H1 rx hr1 k1 rl1=>zr rl1 h1 λy G2 h2 u H2 ry hr2 k2 rl2=>?_;exact hr x y v u G2 H2 q Q hr2 (rx.keep hr1 k2) ry h2 (af.back (k1.trans k2))
def qff {op:Operator} {r3:R3} {r:R2} (ho:OpR X (binaryOp op) r) (hr:D0 X.K r3 r) (ha:E3 X a ta) (hb:E3 X b tb):E3 X (.BinOp a op b pos) (o3 r3 ta tb):=
 UZ (qok ho ha hb) λ_ _ _ h=>qbN hr h
def qoi {op:CmpOp} {r3:R3} {r:R2} (ho:OpR X (compareOp op) r) (hr:D0 X.K r3 r) (ha:E3 X a ta) (hb:E3 X b tb) (hm:behindInMarks op b=false):E3 X (.Compare a [op] [b] pos) (o3 r3 ta tb):=
 UZ (qgl ho ha hb hm) λ_ _ _ h=>qbN hr h
def tb3 (t:TE3):TT3:=λτ G q=>t τ G λx G'=>match x with|.bl k=>q k G'|_=>False
def qkt {K:Frg} {t:TE3} {t2:TE} (hw:∀ σ H Q,lE K t σ H Q->t2 σ H Q) {σ:L2.St} {H:Hp} {Q:Bool->Hp->Prop} (h:lT K (tb3 t) σ H Q):qh7 t2 σ H Q:=by
 obtain ⟨τ,G,q,rl,h,af⟩:=h;refine hw _ _ _ (zr rl h λx G1 h1 v H1 rx hr1 k1 rl1=>?_);cases x with
 |bl k=>cases rx;exact ⟨k,rfl,af k G1 h1 H1 hr1 k1⟩
 |_=>exact h1.elim
def qnr {op:CmpOp} {r3:R3} {r:R2} (ho:OpR X (compareOp op) r) (hr:D0 X.K r3 r) (ha:E3 X a ta) (hb:E3 X b tb) (hm:behindInMarks op b=false):C3 X (.Compare a [op] [b] pos) (tb3 (o3 r3 ta tb)):=
 qmW (qfG ho ha hb hm) λ_ _ _ h=>qkt (λ_ _ _=>qbN hr) h
def ch3 (r r':R3) (ta tb tc:TE3):TE3:=λτ G q=>ta τ G λx G1=>tb τ G1 λy G2=>r x y G2 λz G3=>match z with
 |.bl k=>if k=true then tc τ G3 λw G4=>r' y w G4 q else q (.bl false) G3
 |_=>False
def qmt {K:Frg} {r3 r3':R3} {r r':R2} (hr:D0 K r3 r) (hr':D0 K r3' r') {σ:L2.St} {H:Hp} {Q:VK} (h:lE K (ch3 r3 r3' ta tb tc) σ H Q):qcL r r' (lE K ta) (lE K tb) (lE K tc) σ H Q:=by
 obtain ⟨τ,G,q,rl,h,af⟩:=h;refine zr rl h λx G1 h1 v H1 rx hr1 k1 rl1=>zr rl1 h1 λy G2 h2 u H2 ry hr2 k2 rl2=>?_;refine hr x y v u G2 H2 _ _ hr2 (rx.keep hr1 k2) ry h2 λz G3 h3 w H3 rz hr3 k3=>?_;cases z with
 |bl k=>
  cases rz;refine ⟨k,rfl,?_⟩;cases k with
  |false=>
   rw [if_neg Bool.false_ne_true];rw [show (match T.bl false with|.bl k=>if k=true then tc τ G3 λw G4=>r3' y w G4 q else q (.bl false) G3|_=>False)=q (.bl false) G3 from by simp] at h3;exact af _ G3 h3 _ H3 (.bl false) hr3 ((k1.trans k2).trans k3)
  |true=>
   rw [if_pos rfl];refine zr (rl2.next hr3 k3) (show tc τ G3 λw G4=>r3' y w G4 q from by simpa using h3) λw G4 h4 w' H4 rw' hr4 k4 rl4=>?_;exact hr' y w _ _ G4 H4 q Q hr4 ((ry.keep hr2 k3).keep hr3 k4) rw' h4 (af.back (((k1.trans k2).trans k3).trans k4))
 |_=>exact h3.elim
def qgG {op op':CmpOp} {r3 r3':R3} {r r':R2} (ho:OpR X (compareOp op) r) (hr:D0 X.K r3 r) (ho':OpR X (compareOp op') r') (hr':D0 X.K r3' r') (ha:E3 X a ta) (hb:E3 X b tb) (hc:E3 X c tc)
  (hm:lastMarks [op,op'] [b,c]=false:=by with_unfolding_all rfl):E3 X (.Compare a [op,op'] [b,c] pos) (ch3 r3 r3' ta tb tc):=
 UZ (qcj ho ho' ha hb hc hm) λ_ _ _ h=>qmt hr hr' h
def qoQ (K:Frg) (r3:T->Gp->Q3->Prop) (r:V->Hp->VK->Prop):Prop:=∀ x v G H q Q,HR K G H->Rp K H x v->r3 x G q->Aft K G H q Q->r v H Q
def u3 (r:T->Gp->Q3->Prop) (ta:TE3):TE3:=λτ G q=>ta τ G λx G1=>r x G1 q
def qpC {op:UnaryOp} {r3:T->Gp->Q3->Prop} {r:V->Hp->VK->Prop} (ho:UnR X (unaryOp op) r) (hr:qoQ X.K r3 r) (ha:E3 X a ta):E3 X (.UnaryOp op a pos) (u3 r3 ta):=
 UZ (qnw ho ha) λ_ _ _ ⟨τ,G,q,rl,h,af⟩=>zr rl h λx G1 h1 v H1 rx hr1 k1 rl1=>hr x v G1 H1 q _ hr1 rx h1 (af.back k1)
def JP:T->Gp->Q3->Prop:=λx G q=>match x with|.int i=>q (.int (-i)) G|_=>False
def qfO {K:Frg}:qoQ K JP (rU λi=>.int (-i)):=λx v G H q Q hr rx h af=>by
 cases x with
 |int i=>cases rx;exact ⟨i,rfl,af _ G h _ H (.int _) hr Kp.refl⟩
 |_=>exact h.elim
def iI (f:Int->Int->Int):R3:=λx y G q=>match x,y with|.int i,.int j=>q (.int (f i j)) G|_,_=>False
def iC (C:Int->Int->Prop) (f:Int->Int->Int):R3:=λx y G q=>match x,y with|.int i,.int j=>C i j/\q (.int (f i j)) G|_,_=>False
def iB (f:Int->Int->Bool):R3:=λx y G q=>match x,y with|.int i,.int j=>q (.bl (f i j)) G|_,_=>False
def qjn {K:Frg} {f:Int->Int->Int}:D0 K (iI f) (rI0 λi j=>.int (f i j)):=λx y v u G H q Q hr rx ry h af=>by
 cases x<;>try exact h.elim
 cases y<;>try exact h.elim
 cases rx;cases ry;exact ⟨_,_,rfl,rfl,af _ G h _ H (.int _) hr Kp.refl⟩
def RE {K:Frg} {C:Int->Int->Prop} {f:Int->Int->Int}:D0 K (iC C f) (rI C λi j=>.int (f i j)):=λx y v u G H q Q hr rx ry h af=>by
 cases x<;>try exact h.elim
 cases y<;>try exact h.elim
 cases rx;cases ry;exact ⟨_,_,rfl,rfl,h.1,af _ G h.2 _ H (.int _) hr Kp.refl⟩
def QF {K:Frg} {f:Int->Int->Bool}:D0 K (iB f) (rI0 λi j=>.bl (f i j)):=λx y v u G H q Q hr rx ry h af=>by
 cases x<;>try exact h.elim
 cases y<;>try exact h.elim
 cases rx;cases ry;exact ⟨_,_,rfl,rfl,af _ G h _ H (.bl _) hr Kp.refl⟩
def qmK (ha:E3 X a ta) (hb:E3 X b tb):E3 X (.BinOp a .Sub b pos) (o3 (iI (·-·)) ta tb):=qff qj1 qjn ha hb
def qmx (ha:E3 X a ta) (hb:E3 X b tb):E3 X (.BinOp a .Mult b pos) (o3 (iC JD (·*·)) ta tb):=qff qjV RE ha hb
def qnT (ha:E3 X a ta) (hb:E3 X b tb):E3 X (.BinOp a .Mod b pos) (o3 (iC (λ_ j=>0<j) (·%·)) ta tb):=qff qgV RE ha hb
def qm3 (ha:E3 X a ta) (hb:E3 X b tb):E3 X (.BinOp a .FloorDiv b pos) (o3 (iC qcJ (·/·)) ta tb):=qff qgu RE ha hb
def qmU (ha:E3 X a ta) (hb:E3 X b tb):E3 X (.BinOp a .Pow b pos) (o3 (iC MV (λi j=>i ^ j.toNat)) ta tb):=qff qj8 RE ha hb
def qm6 (ha:E3 X a ta) (hb:E3 X b tb):E3 X (.BinOp a .LShift b pos) (o3 (iC MV (λi j=>i*2 ^ j.toNat)) ta tb):=qff qiZ RE ha hb
def qof (ha:E3 X a ta):E3 X (.UnaryOp .USub a pos) (u3 JP ta):=qpC qkf qfO ha
def zt:T->T->Option Bool
 |.non,.non=>some true|.non,.int _=>some false|.int _,.non=>some false|.non,.bl _=>some false|.bl _,.non=>some false|.non,.str _=>some false|.str _,.non=>some false
 |.int i,.int j=>some (decide (i=j))|.bl i,.bl j=>some (decide (i=j))|.str i,.str j=>some (decide (i=j))
 |.int _,.str _=>some false|.str _,.int _=>some false|.bl _,.str _=>some false|.str _,.bl _=>some false
 |_,_=>none
def LI {K:Frg} {H:Hp} {x y:T} {v u:V} {k:Bool} (rx:Rp K H x v) (ry:Rp K H y u) (h:zt x y=some k):qn8 v u=true/\decide (v=u)=k:=by
 cases rx<;>cases ry<;>simp [zt] at h<;>subst h<;>refine ⟨rfl,?_⟩<;>simp
def CQ (neg:Bool):R3:=λx y G q=>match y with|.non=>q (.bl (match x with|.non=>!neg|_=>neg)) G|_=>False
def qjR {K:Frg} {H:Hp} {x:T} {v:V} (rx:Rp K H x v):decide (v=.non)=(match x with|.non=>true|_=>false):=by
 cases rx<;>simp
def qfq {K:Frg}:D0 K (CQ false) (λx y H Q=>y=.non/\Q (.bl (decide (x=.non))) H):=λx y v u G H q Q hr rx ry h af=>by
 cases y<;>try exact h.elim
 cases ry;refine ⟨rfl,?_⟩;rw [qjR rx];refine af _ G h _ H ?_ hr Kp.refl;cases x<;>exact .bl _
variable {tA tB:TT3} {j8:List Expr}
def CC (t u:TT3):TT3:=λτ G q=>t τ G λk G1=>if k=true then u τ G1 q else q false G1
def or3 (t u:TT3):TT3:=λτ G q=>t τ G λk G1=>if k=true then q true G1 else u τ G1 q
def UT (t:TT3):TT3:=λτ G q=>t τ G λk G1=>q (!k) G1
def qgU (ha:C3 X a tA):W3 X (.BoolOp .And [a] pos) tA:=qf2 ha
def qmM (ha:C3 X a tA):W3 X (.BoolOp .Or [a] pos) tA:=qkL ha
def qmQ (ha:C3 X a tA) (hb:W3 X (.BoolOp .And (b::j8) pos) tB):W3 X (.BoolOp .And (a::b::j8) pos) (CC tA tB):=
 qoJ (qk6 ha hb) λ_ _ _ ⟨τ,G,q,rl,h,af⟩=>WU rl h λk G1 h1 H1 hr1 k1 rl1=>by
  cases k with
  |true=>rw [if_pos rfl] at h1 ⊢;exact ⟨τ,G1,q,rl1,h1,af.back k1⟩
  |false=>rw [if_neg Bool.false_ne_true] at h1 ⊢;exact af _ G1 h1 H1 hr1 k1
def qpW (ha:C3 X a tA) (hb:W3 X (.BoolOp .Or (b::j8) pos) tB):W3 X (.BoolOp .Or (a::b::j8) pos) (or3 tA tB):=
 qoJ (qom ha hb) λ_ _ _ ⟨τ,G,q,rl,h,af⟩=>WU rl h λk G1 h1 H1 hr1 k1 rl1=>by
  cases k with
  |true=>rw [if_pos rfl] at h1 ⊢;exact af _ G1 h1 H1 hr1 k1
  |false=>rw [if_neg Bool.false_ne_true] at h1 ⊢;exact ⟨τ,G1,q,rl1,h1,af.back k1⟩
def qnR (ha:C3 X a tA):C3 X (.UnaryOp .Not a pos) (UT tA):=
 qmW (qjP ha) λ_ _ _ ⟨τ,G,q,rl,h,af⟩=>WU rl h λk G1 h1 H1 hr1 k1 rl1=>af _ G1 h1 H1 hr1 k1
def qnJ {e:Expr} {t:TE3} (h:E3 X e t) (he:∀ whole,isTrue e X.env whole=(do let v←whole;standAt e.pos;holding [v] (truthy v)):=by intro _;rfl):C3 X e (tb3 t):=
 qmW (qh4 h he) λ_ _ _ h=>qkt (λ_ _ _ h=>h) h
def zT (ta tb:TE3):TE3:=λτ G q=>ta τ G λx G1=>match x with|.bl k=>if k=true then tb τ G1 q else q (.bl false) G1|_=>False
def LD (ta tb:TE3):TE3:=λτ G q=>ta τ G λx G1=>match x with|.bl k=>if k=true then q (.bl true) G1 else tb τ G1 q|_=>False
def Z2 (ta:TE3):TE3:=λτ G q=>ta τ G λx G1=>match x with|.bl k=>q (.bl (!k)) G1|_=>False
def qnX {op} (h:E3 X a ta):E3 X (.BoolOp op [a] pos) ta:=qjB h
def qny (ha:E3 X a ta) (hb:E3 X (.BoolOp .And (b::j8) pos) tb):E3 X (.BoolOp .And (a::b::j8) pos) (zT ta tb):=
 UZ (qlN ha hb) λ_ _ _ ⟨τ,G,q,rl,h,af⟩=>zr rl h λx G1 h1 v H1 rx hr1 k1 rl1=>by
  cases x with
  |bl k=>
   cases rx;refine ⟨k,rfl,?_⟩;cases k with
   |true=>rw [if_pos rfl];exact ⟨τ,G1,q,rl1,(show tb τ G1 q from by simpa using h1),af.back k1⟩
   |false=>rw [if_neg Bool.false_ne_true];exact af _ G1 (by simpa using h1) _ H1 (.bl false) hr1 k1
  |_=>exact h1.elim
def qnj (ha:E3 X a ta):E3 X (.UnaryOp .Not a pos) (Z2 ta):=
 UZ (qiL ha) λ_ _ _ ⟨τ,G,q,rl,h,af⟩=>zr rl h λx G1 h1 v H1 rx hr1 k1 rl1=>by
  cases x with
  |bl k=>cases rx;exact ⟨k,rfl,af _ G1 h1 _ H1 (.bl _) hr1 k1⟩
  |_=>exact h1.elim
def if3 (t:TT3) (ta tb:TE3):TE3:=λτ G q=>t τ G λk G1=>if k=true then ta τ G1 q else tb τ G1 q
def qpw {c:Expr} (hc:C3 X c tA) (ha:E3 X a ta) (hb:E3 X b tb):E3 X (.IfExp c a b pos) (if3 tA ta tb):=
 UZ (qb1 hc ha hb) λ_ _ _ ⟨τ,G,q,rl,h,af⟩=>WU rl h λk G1 h1 H1 hr1 k1 rl1=>by
  cases k with
  |true=>rw [if_pos rfl] at h1 ⊢;exact ⟨τ,G1,q,rl1,h1,af.back k1⟩
  |false=>rw [if_neg Bool.false_ne_true] at h1 ⊢;exact ⟨τ,G1,q,rl1,h1,af.back k1⟩
variable {e:Expr} {es:List Expr} {te:TE3} {t:TA3}
def qg:TA3:=λ_ G q=>q [] G
def qb (ta:TE3) (tr:TA3):TA3:=λτ G q=>ta τ G λx G1=>tr τ G1 λxs G2=>q (x::xs) G2
def qmu:A3 X [] qg:=qm7 RK λ_ H _ ⟨τ,G,q,rl,h,af⟩=>af _ G h _ H .nil rl.hp Kp.refl
def qlx (ha:E3 X e te) (hr:A3 X es t) (hs:starEach (e::es) X.env=(false,eval e X.env)::starEach es X.env:=by rfl):A3 X (e::es) (qb te t):=
 qm7 (JJ ha hr hs) λ_ _ _ ⟨τ,G,q,rl,h,af⟩=>zr rl h λx G1 h1 v H1 rx hr1 k1 rl1=>ZX rl1 h1 λxs G2 h2 vs H2 rs hr2 k2 rl2=>
  af _ G2 h2 _ H2 (.cons (rx.keep hr1 k2) rs) hr2 (k1.trans k2)
def qP (t:TA3):TE3:=λτ G q=>t τ G λxs G1=>xs.length<=sizeLine/\q (.tup xs) G1
def ja (t:TA3):TE3:=λτ G q=>t τ G λxs G1=>xs.length<=sizeLine/\∀ p,G1 p=none->q (.ref p) (gu G1 p (.lst xs))
def qot {x1} (h:A3 X es t):E3 X (.Tuple es x1 pos) (qP t):=
 UZ (qdr h) λ_ _ _ ⟨τ,G,q,rl,h,af⟩=>ZX rl h λxs G1 h1 vs H1 rs hr1 k1 rl1=>⟨by rw [← rs.length];exact h1.1,λp hp=>
  af _ G1 h1.2 _ _ (.tup (SqT.of zg) (rs.keep hr1 (Kp.laid hp))) (hr1.laid hp) (k1.trans (Kp.laid hp))⟩
def qnp (h:A3 X es t):E3 X (.List es pos) (ja t):=
 UZ (qlq h) λ_ _ _ ⟨τ,G,q,rl,h,af⟩=>ZX rl h λxs G1 h1 vs H1 rs hr1 k1 rl1=>⟨by rw [← rs.length];exact h1.1,λp hp=>
  af _ _ (h1.2 p (hr1.free hp)) _ _ (.ref p) (hr1.newL hp rs) (k1.trans (Kp.newL hp))⟩
def KI (K:Frg) (r3:List T->Gp->Q3->Prop) (r:List V->Hp->VK->Prop):Prop:=∀ xs vs G H q Q,HR K G H->Rps K H xs vs->r3 xs G q->Aft K G H q Q->r vs H Q
def cb3 (r:List T->Gp->Q3->Prop) (t:TA3):TE3:=λτ G q=>t τ G λxs G1=>r xs G1 q
def qkz {K:Frg} {r3:List T->Gp->Q3->Prop} {r:List V->Hp->VK->Prop} (hr:KI K r3 r) {σ:L2.St} {H:Hp} {Q:VK} (h:lE K (cb3 r3 t) σ H Q):tCB r (lA K t) σ H Q:=by
 obtain ⟨τ,G,q,rl,h,af⟩:=h;exact ZX rl h λxs G1 h1 vs H1 rs hr1 k1 rl1=>hr xs vs G1 H1 q Q hr1 rs h1 (af.back k1)
def qfB {x:Str} {p:Pos} {id:String} {r3:List T->Gp->Q3->Prop} {r:List V->Hp->VK->Prop} (hc:J6 X (.builtin id) r) (hr:KI X.K r3 r) (hg:Gl X x) (hm:X.mg x=none) (hv:bootBuiltins x=some (.builtin id)) (ha:A3 X (e::es) t) (hn:x≠"__name__" := by decide) (hdb:(x==("__debug__" : Str))=false:=by decide)
  (he:starEach (e::es) X.env=(false,eval e X.env)::starEach es X.env:=by rfl) (hpl:(backTo pos (starEach es X.env)).any (·.1)=false:=by rfl):E3 X (.Call (.Name x p) (e::es) [] pos) (cb3 r3 t):=
 UZ (U3 hc hg hm hv ha hn hdb he hpl) λ_ _ _ h=>qkz hr h
def qb3 {x:Str} {p:Pos} {ty:String} {r3:List T->Gp->Q3->Prop} {r:List V->Hp->VK->Prop} (hc:J6 X (.type ty) r) (hr:KI X.K r3 r) (hg:Gl X x) (hm:X.mg x=none) (hv:bootBuiltins x=some (.type ty)) (ha:A3 X (e::es) t) (hn:x≠"__name__" := by decide) (hdb:(x==("__debug__" : Str))=false:=by decide)
  (he:starEach (e::es) X.env=(false,eval e X.env)::starEach es X.env:=by rfl) (hpl:(backTo pos (starEach es X.env)).any (·.1)=false:=by rfl):E3 X (.Call (.Name x p) (e::es) [] pos) (cb3 r3 t):=
 UZ (NQ hc hg hm hv ha hn hdb he hpl) λ_ _ _ h=>qkz hr h
end
def zG (G:Gp) (p:Addr):Option (List T):=match G p with|some (.lst xs)=>some xs|some (.frz xs)=>some xs|_=>none
section
variable {K:Frg} {G G':Gp} {H H':Hp}
def zE (hr:HR K G H) {p:Addr} {xs:List T} (h:zG G p=some xs):∃ vs,SqL K H p vs/\Rps K H xs vs:=by
 unfold zG at h;split at h
 ·rename_i ys e;cases h;obtain ⟨vs,h1,h2⟩:=hr p _ e;exact ⟨vs,SqL.of h1,h2⟩
 ·rename_i ys e;cases h;obtain ⟨vs,⟨o,h1⟩,h2⟩:=hr p _ e;exact ⟨vs,.inl (.inr ⟨o,h1⟩),h2⟩
 ·cases h
def HR.lst (hr:HR K G H) {p:Addr} {xs:List T} (h:G p=some (.lst xs)):∃ vs,H p=some (.lst vs)/\Rps K H xs vs:=hr p _ h
def Rps.atI {xs:List T} {vs:List V} {i:Int} {x:T} (r:Rps K H xs vs) (h:atI xs i=some x):∃ v,L2.atI vs i=some v/\Rp K H x v:=by
 unfold L2.atI at h ⊢;rw [← r.length];cases e:ixN xs.length i with
 |none=>rw [e] at h;cases h
 |some j=>
  rw [e] at h;exact r.get (by simpa using h)
end
def ix3:R3:=λx y G q=>match x,y with
 |.tup xs,.int i=>(match atI xs i with|some z=>q z G|none=>False)
 |.ref p,.int i=>(match zG G p with|some xs=>(match atI xs i with|some z=>q z G|none=>False)|none=>False)
 |_,_=>False
section
variable {X:Cx} {a b c e:Expr} {es:List Expr} {ta tb tc te:TE3} {t:TA3} {pos:Pos}
def qk9 {K:Frg}:D0 K ix3 (rIx K):=λx y v u G H q Q hr rx ry h af=>by
 cases x<;>try exact h.elim
 case tup xs=>
  cases y<;>try exact h.elim
  case int i=>
   unfold ix3 at h;simp only at h;split at h
   ·rename_i z e;cases ry;cases rx with
    |tup hs rs=>
     obtain ⟨w,e2,rw'⟩:=rs.atI e;exact .inr (.inl ⟨_,_,i,w,rfl,rfl,hs,e2,af z G h w H rw' hr Kp.refl⟩)
   ·exact h.elim
 case ref p=>
  cases y<;>try exact h.elim
  case int i=>
   unfold ix3 at h;simp only at h;split at h
   ·rename_i xs e0;split at h
    ·rename_i z e;cases ry;cases rx;obtain ⟨vs,hs,rs⟩:=zE hr e0;obtain ⟨w,e2,rw'⟩:=rs.atI e;exact .inl ⟨p,vs,i,w,rfl,rfl,hs,e2,af z G h w H rw' hr Kp.refl⟩
    ·exact h.elim
   ·exact h.elim
def qpA (ha:E3 X a ta) (hb:E3 X b tb) (hs:UD b:=by intro _ _;rfl):E3 X (.Subscript a b pos) (o3 ix3 ta tb):=UZ (qj5 qif ha hb hs) λ_ _ _ h=>qbN qk9 h
def U0 {α:Type} (xs:List α) (lo hi:Option Int):List α:=(xs.drop (HT.sIx xs.length 0 lo)).take (HT.sIx xs.length xs.length hi-HT.sIx xs.length 0 lo)
def Rps.cut {K:Frg} {H:Hp} {xs:List T} {vs:List V} (r:Rps K H xs vs) (lo hi:Option Int):Rps K H (U0 xs lo hi) (qeX vs lo hi):=by
 unfold U0 qeX;rw [r.length];exact (r.drop _).take _
abbrev TO3:=St3->Gp->(Option Int->Gp->Prop)->Prop
def lO (K:Frg) (t:TO3):TO:=λσ H Q=>∃ τ G q,Rel K τ G σ H/\t τ G q/\∀ x G',q x G'->∀ H',HR K G' H'->Kp G H G' H'->Q x H'
abbrev P3 (X:Cx) (e:Option Expr) (t:TO3):Prop:=PO X e (lO X.K t)
def np3:TO3:=λ_ G q=>q none G
def sp3 (t:TE3):TO3:=λτ G q=>t τ G λx G1=>match x with|.int i=>q (some i) G1|_=>False
def qpP {X:Cx} {e:Option Expr} {t t':TO} (h:PO X e t) (w:∀ σ H Q,t' σ H Q->t σ H Q):PO X e t':=λpins s σ H Q I q=>h pins s σ H Q I (w σ H Q q)
def qjw (h:E3 X e te):P3 X (some e) (sp3 te):=qpP (qgp h) λ_ _ _ ⟨τ,G,q,rl,h,af⟩=>zr rl h λx G1 h1 v H1 rx hr1 k1 rl1=>by
 cases x<;>try exact h1.elim
 cases rx;exact ⟨_,rfl,af _ G1 h1 H1 hr1 k1⟩
def sl3:T->Option Int->Option Int->Gp->Q3->Prop:=λx lo hi G q=>match x with
 |.tup xs=>¬ (HT.sIx xs.length 0 lo=0/\HT.sIx xs.length xs.length hi=xs.length)/\q (.tup (U0 xs lo hi)) G
 |.ref p=>(match zG G p with|some xs=>∀ a,G a=none->q (.ref a) (gu G a (.lst (U0 xs lo hi)))|none=>False)
 |_=>False
def D6 (te:TE3) (tl th:TO3):TE3:=λτ G q=>te τ G λx G1=>tl τ G1 λl G2=>th τ G2 λu G3=>sl3 x l u G3 q
def qgF {lo hi:Option Expr} {tl th:TO3} {p2:Pos} (he:E3 X e te) (hl:P3 X lo tl) (hu:P3 X hi th):E3 X (.Subscript e (.Slice lo hi none p2) pos) (D6 te tl th):=
 UZ (qbA (qhy.or qfm) he hl hu) λ_ _ _ ⟨τ,G,q,rl,h,af⟩=>zr rl h λx G1 h1 v H1 rx hr1 k1 rl1=>
  ⟨τ,G1,_,rl1,h1,λl G2 h2 H2 hr2 k2=>⟨τ,G2,_,rl1.next hr2 k2,h2,λu G3 h3 H3 hr3 k3=>by
   have kk:=(k1.trans k2).trans k3;have rx3:=(rx.keep hr1 k2).keep hr2 k3;cases x<;>try exact h3.elim
   case tup xs=>
    cases rx3 with
    |tup hs rs=>
     refine .inl ⟨_,_,rfl,hs,by rw [← rs.length];exact h3.1,λp hp=>?_⟩;exact af _ G3 h3.2 _ _ (.tup (SqT.of zg) ((rs.cut _ _).keep hr3 (Kp.laid hp))) (hr3.laid hp) (kk.trans (Kp.laid hp))
   case ref p=>
    unfold sl3 at h3;simp only at h3;split at h3
    ·rename_i xs e0;cases rx3;obtain ⟨vs,hs,rs⟩:=zE hr3 e0;refine .inr ⟨p,vs,rfl,hs,λa ha=>?_⟩;exact af _ _ (h3 a (hr3.free ha)) _ _ (.ref a) (hr3.newL ha (rs.cut _ _)) (kk.trans (Kp.newL ha))
    ·exact h3.elim⟩⟩
def qao {K:Frg} {H:Hp} {xs:List T} {vs:List V} (r:Rps K H xs vs):vs=[]↔xs=[]:=by
 cases r<;>simp
def za:R3:=λx y G q=>match x,y with
 |.tup xs,.tup ys=>xs≠[]/\xs.length+ys.length<=sizeLine/\q (.tup (xs++ys)) G
 |.ref a,.ref b=>(match G a,G b with|some (.lst xs),some (.lst ys)=>xs.length+ys.length<=sizeLine/\∀ p,G p=none->q (.ref p) (gu G p (.lst (xs++ys)))|_,_=>False)
 |.int i,.int j=>q (.int (i+j)) G
 |_,_=>False
def qgA {K:Frg}:D0 K za (λx y H Q=>(rI0 (λi j=>.int (i+j)) x y H Q\/ql2 K x y H Q)\/qoN x y H Q):=λx y v u G H q Q hr rx ry h af=>by
 cases x<;>try exact h.elim
 case int i=>
  cases y<;>try exact h.elim
  cases rx;cases ry;exact .inl (.inl ⟨_,_,rfl,rfl,af _ G h _ H (.int _) hr Kp.refl⟩)
 case tup xs=>
  cases y<;>try exact h.elim
  case tup ys=>
   obtain ⟨h1,h2,h3⟩:=h;cases rx with
   |tup hs rs=>
    cases ry with
    |tup hs' rs'=>
     refine .inl (.inr ⟨_,_,_,_,rfl,rfl,hs,hs',λz=>h1 ((qao rs).mp z),by rw [← rs.length,← rs'.length];exact h2,λz=>?_,λz p hp=>?_⟩)
     ·have e:=(qao rs').mp z;subst e;rw [List.append_nil] at h3;exact af _ G h3 _ H (.tup hs rs) hr Kp.refl
     ·exact af _ G h3 _ _ (.tup (SqT.of zg) ((rs.append rs').keep hr (Kp.laid hp))) (hr.laid hp) (Kp.laid hp)
 case ref a=>
  cases y<;>try exact h.elim
  case ref b=>
   unfold za at h;simp only at h;split at h
   ·rename_i xs ys e1 e2;cases rx;cases ry;obtain ⟨vs,g1,r1⟩:=hr.lst e1;obtain ⟨us,g2,r2⟩:=hr.lst e2;refine .inr ⟨a,b,vs,us,rfl,rfl,g1,g2,by rw [← r1.length,← r2.length];exact h.1,λp hp=>?_⟩;exact af _ _ (h.2 p (hr.free hp)) _ _ (.ref p) (hr.newL hp (r1.append r2)) (Kp.newL hp)
   ·exact h.elim
def qkH (ha:E3 X a ta) (hb:E3 X b tb):E3 X (.BinOp a .Add b pos) (o3 za ta tb):=qff ((qhX.or qgn).or ql1) qgA ha hb
def jh:T->Bool
 |.non=>true|.bl _=>true|.int _=>true|.str _=>true|_=>false
def eqF:T->T->Bool
 |.non,.non=>true
 |.bl a,.bl b=>a==b
 |.bl a,.int b=>(if a then 1 else 0)==b
 |.int a,.bl b=>a==(if b then 1 else 0)
 |.int a,.int b=>a==b
 |.str a,.str b=>a==b
 |_,_=>false
def TF {K:Frg} {H:Hp} {x:T} {v:V} (r:Rp K H x v) (h:jh x=true):WG v=true:=by
 cases r<;>first|rfl|(cases h)
def XH {K:Frg} {H:Hp}:∀ {x:List T} {v:List V},Rps K H x v->x.all jh=true->v.all WG=true
 |_,_,.nil,_=>rfl
 |_,_,.cons a b,h=>by
  rw [List.all_cons,Bool.and_eq_true] at h ⊢;exact ⟨TF a h.1,XH b h.2⟩
def qiW {K:Frg} {H:Hp} {x y:T} {v u:V} (r:Rp K H x v) (s:Rp K H y u) (h:jh x=true) (h':jh y=true):eqV v u=eqF x y:=by
 cases r<;>first|(cases h;done)|(cases s<;>first|rfl|(cases h';done))
def NR {K:Frg} {H:Hp} {x:T} {v:V} (r:Rp K H x v) (h:jh x=true):∀ {ys:List T} {us:List V},Rps K H ys us->ys.all jh=true->inV v us=ys.any λy=>eqF y x
 |_,_,.nil,_=>rfl
 |_,_,.cons a b,h'=>by
  rw [List.all_cons,Bool.and_eq_true] at h';unfold inV;rw [List.any_cons,List.any_cons,qiW a r h'.1 h];congr 1;exact NR r h b h'.2
def in3 (neg:Bool):R3:=λx y G q=>jh x=true/\match y with
 |.tup ys=>ys.all jh=true/\q (.bl (if neg then !(ys.any λy=>eqF y x) else (ys.any λy=>eqF y x))) G
 |.ref p=>(match zG G p with|some ys=>ys.all jh=true/\q (.bl (if neg then !(ys.any λy=>eqF y x) else (ys.any λy=>eqF y x))) G|none=>False)
 |_=>False
def qem {K:Frg} {neg:Bool}:D0 K (in3 neg) (rIn K neg):=λx y v u G H q Q hr rx ry h af=>by
 obtain ⟨hf,h⟩:=h;cases y<;>try exact h.elim
 case tup ys=>
  cases ry with
  |tup hs rs=>
   refine ⟨_,_,rfl,.inr hs,TF rx hf,XH rs h.1,?_⟩;rw [NR rx hf rs h.1];exact af _ G h.2 _ H (.bl _) hr Kp.refl
 case ref p=>
  simp only at h;split at h
  ·rename_i ys e;cases ry;obtain ⟨us,hs,rs⟩:=zE hr e;refine ⟨_,_,rfl,.inl hs,TF rx hf,XH rs h.1,?_⟩;rw [NR rx hf rs h.1];exact af _ G h.2 _ H (.bl _) hr Kp.refl
  ·exact h.elim
def YA:List T->Gp->Q3->Prop:=λxs G q=>match xs with
 |[.tup ys]=>q (.int ys.length) G
 |[.str y]=>y.length<=sizeLine/\q (.int y.length) G
 |[.ref p]=>(match zG G p with|some ys=>q (.int ys.length) G|none=>False)
 |_=>False
def SM {K:Frg} {H:Hp} {x:T} {vs:List V} (r:Rps K H [x] vs):∃ v,vs=[v]/\Rp K H x v:=by
 cases r with
 |cons a b=>cases b;exact ⟨_,rfl,a⟩
def qmg {K:Frg} {H:Hp} {x y:T} {vs:List V} (r:Rps K H [x,y] vs):∃ v u,vs=[v,u]/\Rp K H x v/\Rp K H y u:=by
 cases r with
 |cons a b=>cases b with|cons c d=>cases d;exact ⟨_,_,rfl,a,c⟩
def QQ {K:Frg}:KI K YA (λxs H Q=>∃ x n,xs=[x]/\qo6 K x H n/\Q (.int n) H):=λxs vs G H q Q hr rs h af=>by
 unfold YA at h;split at h
 ·obtain ⟨v,rfl,r⟩:=SM rs;cases r with
  |tup hs r2=>exact ⟨_,_,rfl,.inr ⟨_,hs,rfl⟩,by rw [← r2.length];exact af _ G h _ H (.int _) hr Kp.refl⟩
 ·obtain ⟨v,rfl,r⟩:=SM rs;cases r;exact ⟨_,_,rfl,⟨h.1,rfl⟩,af _ G h.2 _ H (.int _) hr Kp.refl⟩
 ·obtain ⟨v,rfl,r⟩:=SM rs;split at h
  ·rename_i ys e;cases r;obtain ⟨us,hs,r2⟩:=zE hr e;exact ⟨_,_,rfl,.inl ⟨_,hs,rfl⟩,by rw [← r2.length];exact af _ G h _ H (.int _) hr Kp.refl⟩
  ·exact h.elim
 ·exact h.elim
def CN:List T->Gp->Q3->Prop:=λxs G q=>match xs with|[.int i]=>q (.int (if i<0 then -i else i)) G|_=>False
def qbd {K:Frg}:KI K CN (λxs H Q=>∃ i,xs=[.int i]/\Q (.int (if i<0 then -i else i)) H):=λxs vs G H q Q hr rs h af=>by
 unfold CN at h;split at h
 ·obtain ⟨v,rfl,r⟩:=SM rs;cases r;exact ⟨_,rfl,af _ G h _ H (.int _) hr Kp.refl⟩
 ·exact h.elim
def XM:List T->Gp->Q3->Prop:=λxs G q=>match xs with|[.int i,.int j]=>q (.int (if j<i then j else i)) G|_=>False
def qgE {K:Frg}:KI K XM (λxs H Q=>∃ i j,xs=[.int i,.int j]/\Q (.int (if j<i then j else i)) H):=λxs vs G H q Q hr rs h af=>by
 unfold XM at h;split at h
 ·obtain ⟨v,u,rfl,r,r'⟩:=qmg rs;cases r;cases r';exact ⟨_,_,rfl,af _ G h _ H (.int _) hr Kp.refl⟩
 ·exact h.elim
def LJ:List T->Gp->Q3->Prop:=λxs G q=>match xs with|[.int i,.int j]=>q (.int (if j > i then j else i)) G|_=>False
def UV:List T->Gp->Q3->Prop:=λxs G q=>match xs with|[.int i]=>q (.int i) G|[.bl k]=>q (.int (if k then 1 else 0)) G|_=>False
def CB {K:Frg}:KI K UV (λxs H Q=>(∃ i,xs=[.int i]/\Q (.int i) H)\/∃ k,xs=[.bl k]/\Q (.int (if k then 1 else 0)) H):=λxs vs G H q Q hr rs h af=>by
 unfold UV at h;split at h
 ·obtain ⟨v,rfl,r⟩:=SM rs;cases r;exact .inl ⟨_,rfl,af _ G h _ H (.int _) hr Kp.refl⟩
 ·obtain ⟨v,rfl,r⟩:=SM rs;cases r;exact .inr ⟨_,rfl,af _ G h _ H (.int _) hr Kp.refl⟩
 ·exact h.elim
def q0:List T->Gp->Q3->Prop:=λxs G q=>match xs with
 |[.tup ys]=>q (.tup ys) G
 |[.ref p]=>(match zG G p with|some ys=>q (.tup ys) G|none=>False)
 |_=>False
def jE {K:Frg}:KI K q0 (λxs H Q=>∃ p ys,xs=[.ref p]/\((SqL K H p ys/\∀ l,H l=none->Q (.ref l) (upd H l (.tup ys)))\/(SqT K H p ys/\Q (.ref p) H))):=λxs vs G H q Q hr rs h af=>by
 unfold q0 at h;split at h
 ·obtain ⟨v,rfl,r⟩:=SM rs;cases r with
  |tup hs r2=>exact ⟨_,_,rfl,.inr ⟨hs,af _ G h _ H (.tup hs r2) hr Kp.refl⟩⟩
 ·obtain ⟨v,rfl,r⟩:=SM rs;split at h
  ·rename_i ys e;cases r;obtain ⟨us,hs,r2⟩:=zE hr e;exact ⟨_,_,rfl,.inl ⟨hs,λl hl=>af _ G h _ _ (.tup (SqT.of zg) (r2.keep hr (Kp.laid hl))) (hr.laid hl) (Kp.laid hl)⟩⟩
  ·exact h.elim
 ·exact h.elim
def QM:List T->Gp->Q3->Prop:=λxs G q=>match xs with
 |[.tup ys]=>∀ p,G p=none->q (.ref p) (gu G p (.lst ys))
 |[.ref p]=>(match zG G p with|some ys=>∀ p,G p=none->q (.ref p) (gu G p (.lst ys))|none=>False)
 |_=>False
def XO {K:Frg}:KI K QM (λxs H Q=>∃ p ys,xs=[.ref p]/\(SqL K H p ys\/SqT K H p ys)/\∀ l,H l=none->Q (.ref l) (upd H l (.lst ys))):=λxs vs G H q Q hr rs h af=>by
 unfold QM at h;split at h
 ·obtain ⟨v,rfl,r⟩:=SM rs;cases r with
  |tup hs r2=>exact ⟨_,_,rfl,.inr hs,λl hl=>af _ _ (h l (hr.free hl)) _ _ (.ref l) (hr.newL hl r2) (Kp.newL hl)⟩
 ·obtain ⟨v,rfl,r⟩:=SM rs;split at h
  ·rename_i ys e;cases r;obtain ⟨us,hs,r2⟩:=zE hr e;exact ⟨_,_,rfl,.inl hs,λl hl=>af _ _ (h l (hr.free hl)) _ _ (.ref l) (hr.newL hl r2) (Kp.newL hl)⟩
  ·exact h.elim
 ·exact h.elim
def DM:T->List T->Gp->Q3->Prop:=λx xs G q=>match x,xs with
 |.ref l,[.ref b]=>(match G l,G b with|some (.lst ys),some (.lst zs)=>ys.length+zs.length<=sizeLine/\q .non (gu G l (.lst (ys++zs)))|_,_=>False)
 |_,_=>False
def EU:T->List T->Gp->Q3->Prop:=λx xs G q=>match x,xs with
 |.ref l,[y]=>(match G l with|some (.lst ys)=>ys.length<sizeLine/\q .non (gu G l (.lst (ys++[y])))|_=>False)
 |_,_=>False
def qiq (K:Frg) (r3:T->List T->Gp->Q3->Prop) (r:V->List V->Hp->VK->Prop):Prop:=∀ x xs v vs G H q Q,HR K G H->Rp K H x v->Rps K H xs vs->r3 x xs G q->Aft K G H q Q->r v vs H Q
def qfk {K:Frg}:qiq K DM qaY:=λx xs v vs G H q Q hr rx rs h af=>by
 unfold DM at h;split at h
 ·rename_i l b;split at h
  ·rename_i ys zs e1 e2;cases rx;obtain ⟨u,rfl,r⟩:=SM rs;cases r;obtain ⟨vs,g1,r1⟩:=hr.lst e1;obtain ⟨us,g2,r2⟩:=hr.lst e2;exact ⟨l,b,vs,us,rfl,rfl,g1,g2,by rw [← r1.length,← r2.length];exact h.1,af _ _ h.2 _ _ .non (hr.wr e1 (r1.append r2)) (Kp.wr e1)⟩
  ·exact h.elim
 ·exact h.elim
def qfE {K:Frg}:qiq K EU qa4:=λx xs v vs G H q Q hr rx rs h af=>by
 unfold EU at h;split at h
 ·rename_i l y;split at h
  ·rename_i ys e1;cases rx;obtain ⟨u,rfl,r⟩:=SM rs;obtain ⟨vs,g1,r1⟩:=hr.lst e1;exact ⟨l,vs,u,rfl,rfl,g1,by rw [← r1.length];exact h.1,af _ _ h.2 _ _ .non (hr.wr e1 (r1.append (.cons r .nil))) (Kp.wr e1)⟩
  ·exact h.elim
 ·exact h.elim
def bm3 (r:T->List T->Gp->Q3->Prop) (to:TE3) (t:TA3):TE3:=λτ G q=>to τ G λx G1=>(match x with|.ref p=>(zG G1 p).isSome=true|_=>False)/\t τ G1 λxs G2=>r x xs G2 q
def qo1 {o:Expr} {to:TE3} {name:Str} {apos cpos:Pos} {id:String} {r3:T->List T->Gp->Q3->Prop} {r:V->List V->Hp->VK->Prop} (slot:Slot "list" name id) (hty:typeOf (.builtin id)=pure (.type "method_descriptor")) (hm:MtR X id r) (hr:qiq X.K r3 r) (ho:E3 X o to) (ha:A3 X (e::es) t)
  (hbase:attributeBase o name X.env (eval o X.env)=eval o X.env:=by rfl)
  (hfew:((backTo cpos (starEach (e::es) X.env)).all (λx=>!x.1)&&(backToKw cpos (keywordEach [] X.env)).all (λx=>x.1.isSome)
   && decide ((e::es).length+([]:List Keyword).length+(if ([]:List Keyword).isEmpty then 0 else 1)<30))=true:=by rfl)
  (hline:(apos.endLine==cpos.line)=true:=by rfl) (hs:starEach (e::es) X.env=(false,eval e X.env)::starEach es X.env:=by rfl) (hplain:(backTo cpos (starEach es X.env)).any (·.1)=false:=by rfl) :
  E3 X (.Call (.Attribute o name apos) (e::es) [] cpos) (bm3 r3 to t):=
 UZ (qn4 PySem.F.plainAttrs_list slot hty hm ho ha hbase hfew hline hs hplain) λ_ _ _ ⟨τ,G,q,rl,h,af⟩=>zr rl h λx G1 h1 v H1 rx hr1 k1 rl1=>by
  obtain ⟨hp,h1⟩:=h1;cases x<;>try exact hp.elim
  case ref p=>
   cases rx;have hp':(zG G1 p).isSome=true:=hp;obtain ⟨ys,e⟩:=Option.isSome_iff_exists.mp hp';obtain ⟨us,hs,r2⟩:=zE hr1 e;exact ⟨.inl ⟨rfl,us,hs⟩,ZX rl1 h1 λxs G2 h2 vs H2 rs hr2 k2 rl2=>hr _ xs _ vs G2 H2 q _ hr2 (.ref p) rs h2 (af.back (k1.trans k2))⟩
def qcd {o:Expr} {to:TE3} {apos cpos:Pos} (ho:E3 X o to) (ha:A3 X [e] t)
  (hbase:attributeBase o "append" X.env (eval o X.env)=eval o X.env:=by rfl)
  (hfew:((backTo cpos (starEach [e] X.env)).all (λx=>!x.1)&&(backToKw cpos (keywordEach [] X.env)).all (λx=>x.1.isSome)
   && decide (([e]:List Expr).length+([]:List Keyword).length+(if ([]:List Keyword).isEmpty then 0 else 1)<30))=true:=by rfl)
  (hline:(apos.endLine==cpos.line)=true:=by rfl) (hs:starEach [e] X.env=(false,eval e X.env)::starEach [] X.env:=by rfl) (hplain:(backTo cpos (starEach [] X.env)).any (·.1)=false:=by rfl) :
  E3 X (.Call (.Attribute o "append" apos) [e] [] cpos) (bm3 EU to t):=qo1 PySem.F.slot_list_append PySem.F.type_list_append VC qfE ho ha hbase hfew hline hs hplain
def qcg {o:Expr} {to:TE3} {apos cpos:Pos} (ho:E3 X o to) (ha:A3 X [e] t)
  (hbase:attributeBase o "extend" X.env (eval o X.env)=eval o X.env:=by rfl)
  (hfew:((backTo cpos (starEach [e] X.env)).all (λx=>!x.1)&&(backToKw cpos (keywordEach [] X.env)).all (λx=>x.1.isSome)
   && decide (([e]:List Expr).length+([]:List Keyword).length+(if ([]:List Keyword).isEmpty then 0 else 1)<30))=true:=by rfl)
  (hline:(apos.endLine==cpos.line)=true:=by rfl) (hs:starEach [e] X.env=(false,eval e X.env)::starEach [] X.env:=by rfl) (hplain:(backTo cpos (starEach [] X.env)).any (·.1)=false:=by rfl) :
  E3 X (.Call (.Attribute o "extend" apos) [e] [] cpos) (bm3 DM to t):=qo1 PySem.F.slot_list_extend PySem.F.type_list_extend qav qfk ho ha hbase hfew hline hs hplain
end
def tyT (G:Gp):T->Option String
 |.non=>some "NoneType" |.bl _=>some "bool" |.int _=>some "int" |.str _=>some "str" |.tup _=>some "tuple"
 |.ref p=>if (zG G p).isSome then some "list" else none
def z9 (t c:String):Bool:=t==c||(t == "bool" && c == "int")
def qcm (K:Frg):∀ t∈["NoneType","bool","int","str","tuple","list"],∀ c∈["bool","int","str","tuple","list"],PySem.W.kitOne K (.type t) (.type c)=some (z9 t c):=by
 intro t ht c hc;simp only [mem_cons,not_mem_nil,or_false] at ht hc;rcases ht with rfl|rfl|rfl|rfl|rfl|rfl<;>rcases hc with rfl|rfl|rfl|rfl|rfl<;>kernel_rfl
section
variable {X:Cx} {a b c e:Expr} {es:List Expr} {ta tb tc te:TE3} {t:TA3} {pos:Pos}
def TyS (K:Frg) (H:Hp) (x:V) (t:String):Prop:=match x with
 |.non=>t="NoneType" |.bl _=>t="bool" |.int _=>t="int" |.str _=>t="str"
 |.ref a=>(t="tuple"/\∃ vs,SqT K H a vs)\/(t="list"/\∃ vs,SqL K H a vs)
 |_=>False
def TyS.mem {K:Frg} {H:Hp} {x:V} {t:String} (h:TyS K H x t):t∈["NoneType","bool","int","str","tuple","list"]:=by
 cases x<;>simp [TyS] at h<;>first|(subst h;decide)|(rcases h with ⟨rfl,_⟩|⟨rfl,_⟩<;>decide)
def TyS.kitx {pins:List (Addr×Obj)} {σ:L2.St} {H:Hp} {s:Shared} {x:V} {u:Value} {t:String} (I:Inv X pins σ H s) (rx:jg x u) (h:TyS X.K H x t) :
  ∃ HH:Heap->Prop,PySem.W.KitX X.K u (.type t) HH/\HH s.heap/\u≠.builtin "__main__.__loader__#opaque" := by
 cases x with
 |non=>cases (show u=Value.none from rx);cases (show t=_ from h);exact ⟨_,PySem.W.kitx_none,True.intro,λz=>nomatch z⟩
 |bl y=>cases (show u=Value.bool y from rx);cases (show t=_ from h);exact ⟨_,PySem.W.kitx_bool,True.intro,λz=>nomatch z⟩
 |int i=>obtain ⟨tk,q⟩:=(show ∃ t,u=Value.int i t from rx);cases q;cases (show t=_ from h);exact ⟨_,PySem.W.kitx_int,True.intro,λz=>nomatch z⟩
 |str y=>obtain ⟨tk,q⟩:=(show ∃ t,u=Value.str y t from rx);cases q;cases (show t=_ from h);exact ⟨_,PySem.W.kitx_str,True.intro,λz=>nomatch z⟩
 |ref a=>
  cases (show u=Value.ref a from rx);rcases (show (t="tuple"/\∃ vs,SqT X.K H a vs)\/(t="list"/\∃ vs,SqL X.K H a vs) from h) with ⟨rfl,vs,hs⟩|⟨rfl,vs,hs⟩
  ·obtain ⟨its,_,p,_⟩:=I.tuple hs;obtain ⟨o,h1,h2,_⟩:=p;exact ⟨_,PySem.W.kitx_tuple,⟨o,h1,h2⟩,λz=>nomatch z⟩
  ·obtain ⟨its,_,p,_⟩:=I.list hs;obtain ⟨o,n,h1,h2,_⟩:=p;exact ⟨_,PySem.W.kitx_list,⟨o,h1,h2⟩,λz=>nomatch z⟩
 |_=>exact False.elim h
abbrev TH:List String:=["bool","int","str","tuple","list"]
def qbJ:J6 X (.builtin "isinstance") (λxs H Q=>∃ x t c,xs=[x,.ty c]/\TyS X.K H x t/\c∈TH/\Q (.bl (z9 t c)) H):=by
 intro pins s σ H xs us Q I r h;obtain ⟨x,t,c,rfl,ht,hc,q⟩:=h;obtain ⟨u,w,rfl,rx,rc⟩:=N6 r;cases (show w=Value.type c from rc);obtain ⟨HH,kx,hh,ne⟩:=ht.kitx I rx;exact PySem.W.kia_one kx I.kIn hh (qcm X.K t ht.mem c hc) ne λtk=>⟨.bl _,H,I.tok tk,rfl,q⟩
def qgT {K:Frg} {G:Gp} {H:Hp} (hr:HR K G H) {x:T} {v:V} {t:String} (r:Rp K H x v) (h:tyT G x=some t):TyS K H v t:=by
 cases r with
 |non=>cases h;rfl
 |bl _=>cases h;rfl
 |int _=>cases h;rfl
 |str _=>cases h;rfl
 |tup hs rs=>cases h;exact .inl ⟨rfl,_,hs⟩
 |ref a=>
  have h:(if (zG G a).isSome then some "list" else none)=some t:=h;split at h
  ·rename_i e;cases h;obtain ⟨ys,e⟩:=Option.isSome_iff_exists.mp e;obtain ⟨us,hs,_⟩:=zE hr e;exact .inr ⟨rfl,us,hs⟩
  ·cases h
def YL (f:String->Bool) (te:TE3):TE3:=λτ G q=>te τ G λx G1=>match tyT G1 x with|some t=>q (.bl (f t)) G1|none=>False
def qnS {tn:Str} {ty:String} {p p2:Pos} (he:E3 X e te) (hg:Gl X "isinstance") (hm:X.mg "isinstance" = none) (hg2:Gl X tn) (hm2:X.mg tn=none) (hv:bootBuiltins tn=some (.type ty)) (hmem:ty∈TH:=by decide) (hn:tn≠"__name__" := by decide) (hdb:(tn==("__debug__" : Str))=false:=by decide)
  (hs:starEach [e,.Name tn p2] X.env=(false,eval e X.env)::starEach [.Name tn p2] X.env:=by rfl) (hs2:starEach [.Name tn p2] X.env=(false,eval (.Name tn p2) X.env)::starEach [] X.env:=by rfl) (hpl:(backTo pos (starEach [.Name tn p2] X.env)).any (·.1)=false:=by rfl) :
  E3 X (.Call (.Name "isinstance" p) [e,.Name tn p2] [] pos) (YL (λt=>z9 t ty) te):=
 UZ (U3 qbJ hg hm PyProof.Rows.boot_isinstance (JJ he (JJ (NS (v:=.ty ty) hg2 hm2 hv rfl hn hdb) RK hs2) hs) (by decide) (by decide) hs hpl)
  λ_ _ _ ⟨τ,G,q,rl,h,af⟩=>zr rl h λx G1 h1 v H1 rx hr1 k1 rl1=>by
   split at h1
   ·rename_i t e1;exact ⟨_,t,ty,rfl,qgT hr1 rx e1,hmem,af _ G1 h1 _ H1 (.bl _) hr1 k1⟩
   ·exact h1.elim
structure Ends3 where
 nx:St3->Gp->Prop
 rt:Q3
 bk:St3->Gp->Prop:=λ_ _=>False
 ct:St3->Gp->Prop:=λ_ _=>False
abbrev TS3:=Ends3->St3->Gp->Prop
def qev (K:Frg) (G:Gp) (H:Hp) (q:St3->Gp->Prop) (Q:L2.St->Hp->Prop):Prop:=∀ τ G',q τ G'->∀ σ H',Rel K τ G' σ H'->Kp G H G' H'->Q σ H'
structure AftD (K:Frg) (G:Gp) (H:Hp) (d:Ends3) (D:Ends):Prop where
 nx:qev K G H d.nx D.nx
 rt:Aft K G H d.rt D.rt
 bk:qev K G H d.bk D.bk
 ct:qev K G H d.ct D.ct
def qev.back {K:Frg} {G G1:Gp} {H H1:Hp} {q:St3->Gp->Prop} {Q:L2.St->Hp->Prop} (a:qev K G H q Q) (k:Kp G H G1 H1):qev K G1 H1 q Q:=λx G' h v H' r k'=>a x G' h v H' r (k.trans k')
def AftD.back {K:Frg} {G G1:Gp} {H H1:Hp} {d:Ends3} {D:Ends} (a:AftD K G H d D) (k:Kp G H G1 H1):AftD K G1 H1 d D:=⟨a.nx.back k,a.rt.back k,a.bk.back k,a.ct.back k⟩
def lS (K:Frg) (t:TS3):TS:=λD σ H=>∃ τ G d,Rel K τ G σ H/\t d τ G/\AftD K G H d D
abbrev S3 (X:Cx) (st:Stmt) (t:TS3):Prop:=PS X st (lS X.K t)
abbrev B3 (X:Cx) (st:List Stmt) (t:TS3):Prop:=PSs X st (lS X.K t)
def MY {X:Cx} {st:Stmt} {t t':TS} (h:PS X st t) (w:∀ D σ H,t' D σ H->t D σ H):PS X st t':=λpins s σ H D I q=>h pins s σ H D I (w D σ H q)
def qkb {X:Cx} {st:List Stmt} {t t':TS} (h:PSs X st t) (w:∀ D σ H,t' D σ H->t D σ H):PSs X st t':=λpins s σ H D I q=>h pins s σ H D I (w D σ H q)
variable {st:Stmt} {j8:List Stmt} {t1 t2:TS3} {tA:TT3}
def qt:TS3:=λd τ G=>d.nx τ G
def qv (t u:TS3):TS3:=λd τ G=>t { d with nx:=u d } τ G
def qmH:B3 X [] qt:=qkb qe3 λ_ σ H ⟨τ,G,d,rl,h,af⟩=>af.nx τ G h σ H rl Kp.refl
def qiR (h1:S3 X st t1) (h2:B3 X j8 t2):B3 X (st::j8) (qv t1 t2):=qkb (qcb h1 h2) λD σ H ⟨τ,G,d,rl,h,af⟩=>
 ⟨τ,G,{ d with nx:=t2 d },rl,h,⟨λτ' G' h' σ' H' rl' k'=>⟨τ',G',d,rl',h',af.back k'⟩,af.rt,af.bk,af.ct⟩⟩
def qna (h1:S3 X st t1):B3 X [st] t1:=N8 h1
def zZ (te:TE3):TS3:=λd τ G=>te τ G λ_ G1=>d.nx τ G1
def qhi (he:E3 X e te) (hs:swapsWith e none pos.line X.env=pure false:=by rfl):S3 X (.Expr e pos) (zZ te):=MY (qf5 he hs) λ_ σ H ⟨τ,G,d,rl,h,af⟩=>
 zr rl h λx G1 h1 v H1 rx hr1 k1 rl1=>af.nx τ G1 h1 σ H1 rl1 k1
def qH (te:TE3):TS3:=λd τ G=>te τ G d.rt
def qnz (he:E3 X e te):S3 X (.Return (some e) pos) (qH te):=MY (ql3 he) λ_ σ H ⟨τ,G,d,rl,h,af⟩=>⟨τ,G,d.rt,rl,h,af.rt⟩
def VV:TS3:=λd _ G=>d.rt .non G
def qY (c:TT3) (t u:TS3):TS3:=λd τ G=>c τ G λk G1=>if k=true then t d τ G1 else u d τ G1
def qpL {c:Expr} {ba bb:List Stmt} (hc:C3 X c tA) (ha:B3 X ba t1) (hb:B3 X bb t2):S3 X (.If c ba bb pos) (qY tA t1 t2):=MY (qoo hc ha hb) λ_ σ H ⟨τ,G,d,rl,h,af⟩=>
 WU rl h λk G1 h1 H1 hr1 k1 rl1=>by
  cases k with
  |true=>rw [if_pos rfl] at h1 ⊢;exact ⟨τ,G1,d,rl1,h1,af.back k1⟩
  |false=>rw [if_neg Bool.false_ne_true] at h1 ⊢;exact ⟨τ,G1,d,rl1,h1,af.back k1⟩
def WL:TS3:=λ_ _ _=>False
def qfA {sts:List Stmt}:B3 X sts WL:=λ_ _ _ _ _ _ ⟨_,_,_,_,h,_⟩=>h.elim
abbrev TG3:=T->St3->Gp->(St3->Gp->Prop)->Prop
abbrev SN:=List T->St3->Gp->(St3->Gp->Prop)->Prop
def lG (K:Frg) (t:TG3):TG:=λv σ H Q=>∃ x τ G q,Rp K H x v/\Rel K τ G σ H/\t x τ G q/\qev K G H q Q
def lGs (K:Frg) (t:SN):TGs:=λv σ H Q=>∃ x τ G q,Rps K H x v/\Rel K τ G σ H/\t x τ G q/\qev K G H q Q
abbrev G3 (X:Cx) (e:Expr) (t:TG3):Prop:=PG X e (lG X.K t)
abbrev Gs3 (X:Cx) (es:List Expr) (t:SN):Prop:=PGs X es (lGs X.K t)
def qng {X:Cx} {e:Expr} {t t':TG} (h:PG X e t) (w:∀ v σ H Q,t' v σ H Q->t v σ H Q):PG X e t':=λpins s σ H v u Q I r q=>h pins s σ H v u Q I r (w v σ H Q q)
def qlc {X:Cx} {e:List Expr} {t t':TGs} (h:PGs X e t) (w:∀ v σ H Q,t' v σ H Q->t v σ H Q):PGs X e t':=λpins s σ H v u Q I r q=>h pins s σ H v u Q I r (w v σ H Q q)
def gn3 (i:Nat):TG3:=λx τ G q=>q (τ.set i (some x)) G
def qg3 {i:Nat} {x:Str} (hN:X.N.Nodup) (hi:X.N[i]?=some x:=by rfl) (hx:Loc X.env.scope x:=by first|exact Or.inl rfl|exact Or.inr rfl) (hf:X.fn x=true\/X.env.scope.names.lookup x=some .local:=by first|exact .inl rfl|exact .inr rfl):G3 X (.Name x pos) (gn3 i):=
 qng (qfc hN hi hx hf) λv σ H Q ⟨x,τ,G,q,rx,rl,h,af⟩=>af _ G h _ H (rl.set i rx) Kp.refl
def zn:SN:=λxs τ G q=>match xs with|[]=>q τ G|_=>False
def qp (t:TG3) (u:SN):SN:=λxs τ G q=>match xs with|x::r=>t x τ G λτ' G'=>u r τ' G' q|[]=>False
def qne:Gs3 X [] zn:=qlc qfu λv σ H Q ⟨x,τ,G,q,rx,rl,h,af⟩=>by
 cases rx with
 |nil=>exact ⟨rfl,af _ G h _ H rl Kp.refl⟩
 |cons _ _=>exact h.elim
def qko {tg:TG3} {tgs:SN} (h1:G3 X e tg) (h2:Gs3 X es tgs) (hs:(assignEach (e::es) X.env).map (·.2)=assign e X.env::(assignEach es X.env).map (·.2):=by rfl):Gs3 X (e::es) (qp tg tgs):=qlc (qce h1 h2 hs) λv σ H Q ⟨x,τ,G,q,rx,rl,h,af⟩=>by
 cases rx with
 |nil=>exact h.elim
 |cons r rs=>exact ⟨_,_,rfl,_,τ,G,_,r,rl,h,λτ' G' h' σ' H' rl' k'=>⟨_,τ',G',q,rs.keep rl.hp k',rl',h',af.back k'⟩⟩
def zl (n:Nat) (t:SN):TG3:=λx τ G q=>match x with|.tup xs=>xs.length=n/\t xs τ G q|_=>False
def qnM {k:Nat} {tgs:SN} {n:Nat} (hc:X.calm=true) (h:Gs3 X es tgs) (hn:(assignEach es X.env).length=n:=by rfl) (hst:(assignEach es X.env).findIdx? (·.1)=none:=by rfl):G3 X (.Tuple es k pos) (zl n tgs):=
 qng (qlv hc h hn hst) λv σ H Q ⟨x,τ,G,q,rx,rl,h,af⟩=>by
  cases x<;>try exact h.elim
  case tup xs=>
   cases rx with
   |tup hs rs=>exact ⟨_,_,rfl,hs,by rw [← rs.length];exact h.1,_,τ,G,q,rs,rl,h.2,af⟩
def WC:T->T->T->Gp->(Gp->Prop)->Prop:=λo i v G q=>match o,i with
 |.ref p,.int k=>(match G p with|some (.lst xs)=>(match ixN xs.length k with|some j=>q (gu G p (.lst (xs.set j v)))|none=>False)|_=>False)
 |_,_=>False
def jT (to ti:TE3):TG3:=λx τ G q=>to τ G λo G1=>ti τ G1 λi G2=>WC o i x G2 λG3=>q τ G3
def qmN {o i : Expr} {to ti : TE3} (ho : E3 X o to) (hi : E3 X i ti) (ha : ∀ v,assign (.Subscript o i pos) X.env v = (do
      let ov←holding [v] (eval o X.env)
      let iv←holding [v,ov] (eval i X.env)
      standAt pos
      holding [v,ov,iv] (setItem ov iv v)
      release [v,ov,iv] []):=by intro _;rfl):G3 X (.Subscript o i pos) (jT to ti):=
  qng (qkv ho hi qbx ha) λv σ H Q ⟨x,τ,G,q,rx,rl,h,af⟩=>zr rl h λy G1 h1 u H1 ry hr1 k1 rl1=>zr rl1 h1 λz G2 h2 w H2 rz hr2 k2 rl2=>by
    have rx2:=(rx.keep rl.hp k1).keep hr1 k2;have ry2:=ry.keep hr1 k2;unfold WC at h2;split at h2
    · rename_i p k;split at h2
      · rename_i xs e;split at h2
        · rename_i j ej;cases ry2;cases rz;obtain ⟨vs,g1,r1⟩:=hr2.lst e;have kk:Kp G2 H2 (gu G2 p (.lst (xs.set j x))) (upd H2 p (.lst (vs.set j v))):=Kp.wr e;exact ⟨p,vs,k,j,rfl,rfl,g1,by rw [← r1.length];exact ej,af τ _ h2 σ _ (rl2.next (hr2.wr e (r1.set rx2 j)) kk) ((k1.trans k2).trans kk)⟩
        · exact h2.elim
      · exact h2.elim
    · exact h2.elim
def qJ (te:TE3) (g:TG3):TS3:=λd τ G=>te τ G λx G1=>g x τ G1 d.nx
def qn7 {tg e:Expr} {g:TG3} (he:E3 X e te) (hg:G3 X tg g) (hs:swapsWithSole [tg] e pos.line X.env=pure false:=by rfl) (hw:swappedStores [tg] e X.env=pure none:=by rfl)
  (h1:(assignEach [tg] X.env).map (·.2)=[assign tg X.env]:=by rfl):S3 X (.Assign [tg] e pos) (qJ te g):=MY (qg5 he hg hs hw h1) λ_ σ H ⟨τ,G,d,rl,h,af⟩=>
 zr rl h λx G1 h1 v H1 rx hr1 k1 rl1=>⟨x,τ,G1,d.nx,rx,rl1,h1,af.nx.back k1⟩
def qm2 (i:Nat) {x:Str} {e:Expr} {pos':Pos} (hN:X.N.Nodup) (he:E3 X e te) (hi:X.N[i]?=some x:=by rfl) (hx:Loc X.env.scope x:=by first|exact Or.inl rfl|exact Or.inr rfl) (hs:swapsWith e (some (.Name x pos')) pos.line X.env=pure false:=by rfl) (hf:X.fn x=true\/X.env.scope.names.lookup x=some .local:=by first|exact .inl rfl|exact .inr rfl) :
  S3 X (.Assign [.Name x pos'] e pos) (qJ te (gn3 i)):=MY (qcs hN hi hx he hs hf) λ_ σ H ⟨τ,G,d,rl,h,af⟩=>
 zr rl h λx G1 h1 v H1 rx hr1 k1 rl1=>af.nx _ G1 h1 _ H1 (rl1.set i rx) k1
def QS (i j:Nat) (ta:TA3):TS3:=λd τ G=>ta τ G λxs G1=>match xs with|[x,y]=>d.nx ((τ.set i (some x)).set j (some y)) G1|_=>False
def qmP {i j:Nat} {x y:Str} {a b:Expr} {tt:TA3} {px py pt:Pos} {kt k2 pt2} (hc:X.calm=true) (hN:X.N.Nodup) (hi:X.N[i]?=some x) (hj:X.N[j]?=some y) (hij:i≠j)
  (hx:X.env.scope.names.lookup x=some .local) (hy:X.env.scope.names.lookup y=some .local) (ha:A3 X [a,b] tt)
  (hw:swappedStores [.Tuple [.Name x px,.Name y py] kt pt] (.Tuple [a,b] k2 pt2) X.env=pure (some [x,y]):=by rfl)
  (hs:swapsWithSole [.Tuple [.Name x px,.Name y py] kt pt] (.Tuple [a,b] k2 pt2) pos.line X.env=pure false:=by rfl) :
  S3 X (.Assign [.Tuple [.Name x px,.Name y py] kt pt] (.Tuple [a,b] k2 pt2) pos) (QS i j tt):=MY (qiM hc hN hi hj hij hx hy ha hw hs) λ_ σ H ⟨τ,G,d,rl,h,af⟩=>
 ZX rl h λxs G1 h1 vs H1 rs hr1 k1 rl1=>by
  split at h1
  ·obtain ⟨v,u,rfl,r,r'⟩:=qmg rs;exact ⟨v,u,rfl,af.nx _ G1 h1 _ H1 ((rl1.set i r).set j r') k1⟩
  ·exact h1.elim
end
abbrev TI3:=St3->Gp->(List T->(Gp->Prop)->Gp->Prop)->Prop
def qke (K:Frg) (J:It) (items:List T) (stay:Gp->Prop) (G0:Gp) (H0:Hp):Prop:=∀ G H,HR K G H->Kp G0 H0 G H->stay G ->
 (∀ i x,items[i]?=some x->J.go i H)/\(∀ i x v H',items[i]?=some x->J.yld i H v H'->Rp K H' x v/\HR K G H'/\Kp G H G H')/\J.stop items.length H
def lI (K:Frg) (wi:TI3):TI:=λσ H R=>∃ τ G r,Rel K τ G σ H/\wi τ G r/\∀ items stay G',r items stay G'->∀ J H',HR K G' H'->Kp G H G' H'->qke K J items stay G' H'->R J H'
abbrev I3 (X:Cx) (tg iter:Expr) (wi:TI3):Prop:=PI X tg iter (lI X.K wi)
def ql8 {X:Cx} {tg e:Expr} {t t':TI} (h:PI X tg e t) (w:∀ σ H R,t' σ H R->t σ H R):PI X tg e t':=λpins s σ H R I q=>h pins s σ H R I (w σ H R q)
section
variable {X:Cx} {a b c e l tg:Expr} {es:List Expr} {ta tb tc te:TE3} {t:TA3} {pos:Pos}
def qkZ {tl:TE} (hl:PE X l tl):PI X tg l (λσ H R=>tl σ H λx H1=>∃ a,x=.ref a/\(((∃ xs,SqL X.K H1 a xs)/\R (Itl X.K a) H1)\/((∃ xs,SqT X.K H1 a xs)/\R (Itt X.K a) H1))):=by
 intro pins s σ H R I h;refine thn (hl pins s σ H _ I h) λv s1 ⟨x,H1,I1,r1,q1⟩=>?_;obtain ⟨a,e,⟨⟨xs,hq⟩,q⟩|⟨⟨xs,hq⟩,q⟩⟩:=q1
 ·subst e;cases r1;obtain ⟨its,rv,p,hz⟩:=I1.list hq;refine wpAny_pyIter_list p.isList ?_;refine ⟨s1.heap.objs.size,[s1.heap.objs.size],_,_,H1,rfl,I1.kept (t':=s1.toks) λb o e=>Heap.get?_push_of_some _ e,NA a _,⟨_,Heap.get?_push_size _ rfl,rfl,rfl⟩,λb hb=>?_,q⟩;have e:b=s1.heap.objs.size:=by simpa using hb
  subst e;exact I1.fpOk (Nat.le_refl _) (I1.hok.fresh (Nat.le_refl _))
 ·subst e;cases r1;obtain ⟨its,rv,p,hz⟩:=I1.tuple hq;refine wpAny_pyIter_tuple (show s1.heap.IsTuple a its.toArray from p) ?_;refine ⟨s1.heap.objs.size,[s1.heap.objs.size],_,_,H1,rfl,I1.kept (t':=s1.toks) λb o e=>Heap.get?_push_of_some _ e,MK a _,⟨_,Heap.get?_push_size _ rfl,rfl,rfl⟩,λb hb=>?_,q⟩;have e:b=s1.heap.objs.size:=by simpa using hb
  subst e;exact I1.fpOk (Nat.le_refl _) (I1.hok.fresh (Nat.le_refl _))
def QP (tl:TE3):TI3:=λτ G r=>tl τ G λx G1=>match x with
 |.tup xs=>r xs (λ_=>True) G1
 |.ref p=>(match zG G1 p with|some xs=>r xs (λG=>zG G p=some xs) G1|none=>False)
 |_=>False
def qiy {K:Frg} {p:Addr} {xs:List T} {G0:Gp} {H0:Hp}:qke K (Itl K p) xs (λG=>zG G p=some xs) G0 H0:=by
 intro G H hr _ hs;obtain ⟨vs,sq,rs⟩:=zE hr hs;refine ⟨λi x hi=>?_,λi x v H' hi y=>?_,⟨vs,sq,by rw [rs.length];exact Nat.le_refl _⟩⟩
 ·obtain ⟨v,hv,_⟩:=rs.get hi;exact ⟨vs,v,sq,hv⟩
 ·obtain ⟨e,y⟩:=y;subst e;obtain ⟨w,hw,rw'⟩:=rs.get hi;have e2:=(y vs sq).symm.trans hw;cases e2;exact ⟨rw',hr,Kp.refl⟩
def qlo {K:Frg} {p:Addr} {xs:List T} {vs:List V} {G0:Gp} {H0:Hp} (hr0:HR K G0 H0) (sq0:SqT K H0 p vs) (rs0:Rps K H0 xs vs):qke K (Itt K p) xs (λ_=>True) G0 H0:=by
 intro G H hr k _;have sq:=XQ hr0 k sq0;have rs:=rs0.keep hr0 k;refine ⟨λi x hi=>?_,λi x v H' hi y=>?_,⟨vs,sq,by rw [rs.length];exact Nat.le_refl _⟩⟩
 ·obtain ⟨v,hv,_⟩:=rs.get hi;exact ⟨vs,v,sq,hv⟩
 ·obtain ⟨e,y⟩:=y;subst e;obtain ⟨w,hw,rw'⟩:=rs.get hi;have e2:=(y vs sq).symm.trans hw;cases e2;exact ⟨rw',hr,Kp.refl⟩
def qmG (hl:E3 X l te):I3 X tg l (QP te):=ql8 (qkZ hl) λσ H R ⟨τ,G,r,rl,h,af⟩=>zr rl h λx G1 h1 v H1 rx hr1 k1 rl1=>by
 cases x<;>try exact h1.elim
 case tup xs=>
  cases rx with
  |tup hs rs=>exact ⟨_,rfl,.inr ⟨⟨_,hs⟩,af _ _ G1 h1 _ H1 hr1 k1 (qlo hr1 hs rs)⟩⟩
 case ref p=>
  simp only at h1;split at h1
  ·rename_i xs e0;cases rx;obtain ⟨vs,hs,rs⟩:=zE hr1 e0;exact ⟨_,rfl,.inl ⟨⟨_,hs⟩,af _ _ G1 h1 _ H1 hr1 k1 qiy⟩⟩
  ·exact h1.elim
def KO (lo:Int) (n:Nat):List T:=(List.range n).map λ(i:Nat)=>T.int (lo+(i:Int))
def qeA {K:Frg} {lo:Int} {n:Nat} {G0:Gp} {H0:Hp}:qke K (Itr lo n) (KO lo n) (λ_=>True) G0 H0:=by
 intro G H hr k _;have hl:(KO lo n).length=n:=by simp [KO]
 refine ⟨λi x hi=>?_,λi x v H' hi y=>?_,(show n<=(KO lo n).length by rw [hl];exact Nat.le_refl n)⟩
 ·have:=(List.getElem?_eq_some_iff.mp hi).1;rw [hl] at this;exact this
 ·obtain ⟨e,y⟩:=y;subst e;subst y;have h1:=(List.getElem?_eq_some_iff.mp hi).1;rw [hl] at h1;unfold KO at hi;rw [getElem?_map,List.getElem?_range h1] at hi;have e:T.int (lo+(i:Int))=x:=by simpa using hi
  subst e;exact ⟨.int _,hr,Kp.refl⟩
def zz (ta:TA3):TI3:=λτ G r=>ta τ G λxs G1=>match xs with
 |[.int j]=>(-(2 ^ 62)<=j/\j<2 ^ 62)/\r (KO 0 j.toNat) (λ_=>True) G1
 |[.int i,.int j]=>(-(2 ^ 62)<=i/\i<2 ^ 62/\-(2 ^ 62)<=j/\j<2 ^ 62)/\r (KO i (j-i).toNat) (λ_=>True) G1
 |_=>False
def qbr {p:Pos} (hg:Gl X "range") (hm:X.mg "range" = none) (ha:A3 X [a] t) (hs:starEach [a] X.env=[(false,eval a X.env)]:=by rfl) (h1:∀ τ G q,t τ G q->t τ G λxs G=>q xs G/\xs.length=1):I3 X tg (.Call (.Name "range" p) [a] [] pos) (zz t):=
 ql8 (qaV hg hm ha hs) λσ H R ⟨τ,G,r,rl,h,af⟩=>ZX rl (h1 _ _ _ h) λxs G1 h1 vs H1 rs hr1 k1 rl1=>by
  obtain ⟨h1,hl⟩:=h1;simp only at h1;split at h1
  ·obtain ⟨v,rfl,r1⟩:=SM rs;cases r1;exact ⟨_,rfl,h1.1.1,h1.1.2,af _ _ G1 h1.2 _ H1 hr1 k1 qeA⟩
  ·simp at hl
  ·exact h1.elim
def qbq {p:Pos} (hg:Gl X "range") (hm:X.mg "range" = none) (ha:A3 X [a,b] t) (hs:starEach [a,b] X.env=[(false,eval a X.env),(false,eval b X.env)]:=by rfl) (hs2:starEach [b] X.env=[(false,eval b X.env)]:=by rfl) (h1:∀ τ G q,t τ G q->t τ G λxs G=>q xs G/\xs.length=2):I3 X tg (.Call (.Name "range" p) [a,b] [] pos) (zz t):=
 ql8 (qaK hg hm ha hs hs2) λσ H R ⟨τ,G,r,rl,h,af⟩=>ZX rl (h1 _ _ _ h) λxs G1 h1 vs H1 rs hr1 k1 rl1=>by
  obtain ⟨h1,hl⟩:=h1;simp only at h1;split at h1
  ·simp at hl
  ·obtain ⟨v,u,rfl,r1,r2⟩:=qmg rs;cases r1;cases r2;exact ⟨_,_,rfl,h1.1,af _ _ G1 h1.2 _ H1 hr1 k1 qeA⟩
  ·exact h1.elim
def CF (stay:Gp->Prop) (g:TG3) (tb:TS3) (d:Ends3):List T->St3->Gp->Prop
 |[],τ,G=>stay G/\d.nx τ G
 |x::r,τ,G=>stay G/\g x τ G λτ2 G2=>tb { d with nx:=CF stay g tb d r,ct:=CF stay g tb d r,bk:=d.nx } τ2 G2
def WF (wi:TI3) (g:TG3) (tb:TS3):TS3:=λd τ G=>wi τ G λitems stay G1=>CF stay g tb d items τ G1
def qnl {iter:Expr} {body:List Stmt} {wi:TI3} {g:TG3} {tb:TS3} (hp:PassesOwn (model X.prog X.w) X.A X.env X.xe) (hc:X.calm=true) (hi:I3 X tg iter wi) (hg:G3 X tg g) (hb:B3 X body tb)
  (hs:∀ x,foldedSetIterable iter X.env x=pure x:=by intro _;rfl):S3 X (.For tg iter body [] pos) (WF wi g tb):=
 MY (qls hp hc hi hg hb hs) λD σ H ⟨τ,G,d,rl,h,af⟩=>by
  refine ⟨τ,G,_,rl,h,λitems stay G1 h1 J H1 hr1 k1 ok=>?_⟩;refine ⟨λi m σ' H'=>m=items.length-i/\i<=items.length/\∃ τ' G',Rel X.K τ' G' σ' H'/\Kp G1 H1 G' H'/\CF stay g tb d (items.drop i) τ' G',⟨_,rfl,Nat.zero_le _,τ,G1,rl.next hr1 k1,Kp.refl,by simpa using h1⟩,?_⟩;rintro i m σ' H' ⟨rfl,hi,τ',G',rl',k',h'⟩;by_cases hlt:i<items.length
  ·rw [List.drop_eq_getElem_cons hlt] at h';obtain ⟨hst,h'⟩:=h';obtain ⟨go,yld,_⟩:=ok G' H' rl'.hp k' hst;have hx:items[i]?=some items[i]:=getElem?_eq_getElem hlt;refine .inr ⟨go i _ hx,λσ2 H2=>∃ τ2 G2,Rel X.K τ2 G2 σ2 H2/\Kp G1 H1 G2 H2/\CF stay g tb d (items.drop (i+1)) τ2 G2,λσ2 H2 h2=>⟨_,by omega,rfl,hlt,h2⟩,λv H2 y=>?_⟩;obtain ⟨rv,hr2,k2⟩:=yld i _ v H2 hx y;have k3:Kp G1 H1 G' H2:=k'.trans k2;refine ⟨_,τ',G',_,rv,rl'.next hr2 k2,h',λτ3 G3 h3 σ3 H3 rl3 k4=>?_⟩;have k5:Kp G H G3 H3:=(k1.trans k3).trans k4;refine ⟨τ3,G3,_,rl3,h3,⟨λτ4 G4 h4 σ4 H4 rl4 k6=>⟨τ4,G4,rl4,(k3.trans k4).trans k6,h4⟩,af.rt.back k5,af.nx.back k5,λτ4 G4 h4 σ4 H4 rl4 k6=>⟨τ4,G4,rl4,(k3.trans k4).trans k6,h4⟩⟩⟩
  ·have e:i=items.length:=by omega
   subst e;rw [List.drop_length] at h';obtain ⟨_,_,stop⟩:=ok G' H' rl'.hp k' h'.1;exact .inl ⟨stop,af.nx τ' G' h'.2 σ' H' rl' (k1.trans k')⟩
def VD {stay:Gp->Prop} {g:TG3} {tb:TS3} {d:Ends3} (items:List T) (Pv:Nat->St3->Gp->Prop) {τ:St3} {G:Gp} (h0:Pv 0 τ G) (hst:∀ i τ G,i<=items.length->Pv i τ G->stay G)
  (hs:∀ i x τ G (nx:St3->Gp->Prop),items[i]?=some x->Pv i τ G->(∀ τ G,Pv (i+1) τ G->nx τ G)->g x τ G λτ2 G2=>tb { d with nx:=nx,ct:=nx,bk:=d.nx } τ2 G2)
  (hd:∀ τ G,Pv items.length τ G->d.nx τ G):CF stay g tb d items τ G:=by
 have key:∀ (r:List T) (i:Nat) τ G,items.drop i=r->i<=items.length->Pv i τ G->CF stay g tb d r τ G:=by
  intro r;induction r with
  |nil=>
   intro i τ G e hi p;have:i=items.length:=by have:=congrArg List.length e;simp at this;omega
   subst this;exact ⟨hst _ τ G hi p,hd τ G p⟩
  |cons x r ih=>
   intro i τ G e hi p;have hl:i<items.length:=by
    apply Classical.byContradiction;intro z;rw [List.drop_eq_nil_of_le (by omega)] at e;cases e
   have e':=List.drop_eq_getElem_cons hl;rw [e] at e';injection e' with e1 e2;refine ⟨hst i τ G hi p,hs i x τ G _ (by rw [getElem?_eq_getElem hl,e1]) p λτ2 G2 p2=>ih (i+1) τ2 G2 e2.symm hl p2⟩
 exact key items 0 τ G (by simp) (Nat.zero_le _) h0
def LB (c:TT3) (tb:TS3):TS3:=λd τ G=>∃ W:Nat->St3->Gp->Prop,(∃ m,W m τ G)/\∀ m τ G,W m τ G ->
 c τ G λb G1=>if b=true then ∃ N:St3->Gp->Prop,(∀ τ' G',N τ' G'->∃ m',m'<m/\W m' τ' G')/\tb { d with nx:=N,ct:=N,bk:=d.nx } τ G1 else d.nx τ G1
def qfv {c:Expr} {body:List Stmt} {tc:TT3} {tb:TS3} (hp:PassesOwn (model X.prog X.w) X.A X.env X.xe) (hc:C3 X c tc) (hb:B3 X body tb):S3 X (.While c body [] pos) (LB tc tb):=
 MY (qb0 hp hc hb) λD σ H ⟨τ,G,d,rl,⟨W,⟨m0,w0⟩,turn⟩,af⟩=>by
  refine ⟨λm σ' H'=>∃ τ' G',Rel X.K τ' G' σ' H'/\Kp G H G' H'/\W m τ' G',⟨m0,τ,G,rl,Kp.refl,w0⟩,?_⟩;rintro m σ' H' ⟨τ',G',rl',k',w'⟩;refine WU rl' (turn m τ' G' w') λb G1 h1 H1 hr1 k1 rl1=>?_;cases b with
  |true=>
   rw [if_pos rfl] at h1 ⊢;obtain ⟨N,hN,h1⟩:=h1;refine ⟨λσ2 H2=>∃ τ2 G2,Rel X.K τ2 G2 σ2 H2/\Kp G H G2 H2/\N τ2 G2,λσ2 H2 ⟨τ2,G2,r2,k2,n2⟩=>?_,τ',G1,_,rl1,h1,⟨λτ2 G2 h2 σ2 H2 r2 k2=>⟨τ2,G2,r2,(k'.trans k1).trans k2,h2⟩,af.rt.back (k'.trans k1),af.nx.back (k'.trans k1),λτ2 G2 h2 σ2 H2 r2 k2=>⟨τ2,G2,r2,(k'.trans k1).trans k2,h2⟩⟩⟩;obtain ⟨m',hm,w2⟩:=hN τ2 G2 n2;exact ⟨m',hm,τ2,G2,r2,k2,w2⟩
  |false=>
   rw [if_neg Bool.false_ne_true] at h1 ⊢;exact af.nx τ' G1 h1 σ' H1 rl1 (k'.trans k1)
abbrev Sp3:=List T->Gp->Q3->Prop
def lSp (K:Frg) (sp:Sp3):Sp:=λvs H Q _=>∃ ts G q,HR K G H/\Rps K H ts vs/\sp ts G q/\Aft K G H q Q
def Fn3 (P:Program) (w:World) (K:Frg) (mg:Str->Option Value) (base:Heap) (k:Nat) (x:Str) (sp:Sp3):Prop:=
 ∃ f fd ps,FnOk P w K mg base CX0 k f fd ps (lSp K sp)/\zm K fd ps []/\PySem.W.keepIn K (.ref f)=true/\mg x=some (.ref f)
def Fn3.mono {P:Program} {w:World} {K:Frg} {mg:Str->Option Value} {base:Heap} {j k:Nat} {x:Str} {sp:Sp3} (F:Fn3 P w K mg base j x sp) (h:j<=k):Fn3 P w K mg base k x sp:=
 let ⟨f,fd,ps,a,b,c,d⟩:=F;⟨f,fd,ps,a.mono h,b,c,d⟩
def qiz {k:Nat} {x:Str} {p:Pos} {sp:Sp3} (F:Fn3 X.prog X.w X.K X.mg X.base k x sp) (hr:Room k X.A) (hg:Gl X x) (ha:A3 X (e::es) t) (hdb:(x==("__debug__" : Str))=false:=by decide)
  (he:starEach (e::es) X.env=(false,eval e X.env)::starEach es X.env:=by rfl) (hpl:(backTo pos (starEach es X.env)).any (·.1)=false:=by rfl):E3 X (.Call (.Name x p) (e::es) [] pos) (cb3 sp t):=by
 obtain ⟨f,fd,ps,F,b,kp,m⟩:=F;refine UZ (qfJ F hr hg m kp b .nil qmS ha hdb he hpl) λσ H Q ⟨τ,G,q,rl,h,af⟩=>ZX rl h λxs G1 h1 vs H1 rs hr1 k1 rl1=>?_;rw [List.append_nil];exact ⟨xs,G1,q,hr1,rs,h1,af.back k1⟩
def qk (N:List Str) (ts:List T):St3:=ts.map some++List.replicate (N.length-ts.length) none
def EG {K:Frg} {N:List Str} {G:Gp} {H:Hp} {ts:List T} {vs:List V} (hr:HR K G H) (rs:Rps K H ts vs):Rel K (qk N ts) G (L2.DR N vs) H:=by
 refine ⟨hr,by simp [qk,L2.DR,rs.length],λi t e=>?_⟩;unfold qk at e;by_cases hi:i<ts.length
 ·rw [List.getElem?_append_left (by simpa using hi),getElem?_map] at e;cases q:ts[i]? with
  |none=>rw [q] at e;cases e
  |some z=>
   rw [q] at e;have e':z=t:=by simpa using e
   subst e';obtain ⟨v,hv,r⟩:=rs.get q;refine ⟨v,?_,r⟩;unfold L2.DR;rw [List.getElem?_append_left (by rw [length_map,← rs.length];exact hi),getElem?_map,hv];rfl
 ·rw [List.getElem?_append_right (by simpa using hi),List.getElem?_replicate] at e;split at e<;>cases e
def qk3 {P:Program} {w:World} {K:Frg} {mg:Str->Option Value} {base:Heap} {x qual:Str} {st:Stmt} {f:Addr} {fd:FuncData} {N ps:List Str} {k:Nat} {sp:Sp3} {t3:TS3} (F:Fun K x qual st f fd) (S:FnScope N ps (qi st)) (bd:zm K fd ps []) (hm:mg x=some (.ref f))
  (body:∀ (cdv:Value) (A:Around) (outer:List Env) (s:Shared) (H:Hp) (E:XK),Room k (A.deeper (envOfC qual (qi st) s.heap.objs.size f cdv)) ->
   B3 (U2 CX0 P w K mg base N qual (qi st) f cdv A outer s H E).nox (zi st) t3)
  (read:∀ ts G q,sp ts G q->ts.length=ps.length/\t3 { nx:=λ_ G'=>q .non G',rt:=q } (qk N ts) G):Fn3 P w K mg base (k+1) x sp:=by
 refine ⟨f,fd,ps,F.ok S (λvs H Q E ⟨ts,G,q,h1,h2,h3,h4⟩=>by rw [← h2.length];exact (read ts G q h3).1) λcdv A outer s H vs Q E hr ⟨ts,G,q,h1,h2,h3,h4⟩=>?_,bd,F.kp,hm⟩;refine ⟨_,body cdv A outer s H E hr,qk N ts,G,_,EG h1 h2,(read ts G q h3).2,⟨λτ' G' h' σ' H' rl' k'=>h4 _ G' h' _ H' .non rl'.hp k',h4,λ_ _ z=>z.elim,λ_ _ z=>z.elim⟩⟩
def qgO (xs:List T):Option Bool:=match xs with
 |[]=>some true
 |.bl k::r=>(match qgO r with|some j=>some (k&&j)|none=>none)
 |_=>none
def qme (xs:List T):Option Bool:=match xs with
 |[]=>some false
 |.bl k::r=>(match qme r with|some j=>some (k||j)|none=>none)
 |_=>none
def qbp {P:Program} {w:World} {A:Around} {its:List Value} {ks:List Bool} (h:its=ks.map Value.bool):TruthOf P w A (λi v=>its.toArray[i]?=some v) (λi=>ks.getD i true):=by
 intro i v s Q E hp hq;subst h;have hp':ks[i]?.map Value.bool=some v:=by simpa using hp
 cases e:ks[i]? with
 |none=>rw [e] at hp';cases hp'
 |some k=>
  rw [e] at hp';cases hp';have:ks.getD i true=k:=by rw [getD_eq_getElem?_getD,e];rfl
  have hq:Q (ks.getD i true) s:=hq;rw [this] at hq;exact wpAny_truthy_bool hq
def W5:∀ {ks:List Bool} {us:List Value},zQ (ks.map V.bl) us->us=ks.map Value.bool
 |[],_,r=>by cases r;rfl
 |k::ks,_,r=>by
  cases r with
  |cons a b=>rw [show _=Value.bool k from a,W5 b];rfl
def qaF (ks:List Bool):((List.range ks.length).all λi=>ks.getD i true)=ks.all id:=by
 induction ks with
 |nil=>rfl
 |cons k ks ih=>
  rw [length_cons,List.range_succ_eq_map,List.all_cons,List.all_map,List.all_cons];congr 1
def J9 (hc:X.calm=true):J6 X (.builtin "all") (λxs H Q=>∃ (p:Addr) (ks:List Bool),xs=[.ref p]/\SqL X.K H p (ks.map V.bl)/\Q (.bl (ks.all id)) H):=by
 intro pins s σ H xs us Q I r h;obtain ⟨p,ks,rfl,hq,q⟩:=h;obtain ⟨u,rfl,rp⟩:=XJ r;cases (show u=Value.ref p from rp);obtain ⟨its,rv,pl,hz⟩:=I.list hq;have hb:=W5 rv;have hlen:its.length=ks.length:=by rw [hb];simp
 have hp:p<s.heap.objs.size:=by obtain ⟨o,n,e,_⟩:=pl;exact Heap.lt_size e
 refine call_all_walk (wpAny_pyIter_list pl.isList ⟨s.heap.objs.size,_,_,_,_,_,λi=>ks.getD i true,rfl,Walks.list (A:=X.A.in1) (show X.A.in1.handled=none from I.ok.hd hc) s.heap.objs.size p (Nat.ne_of_lt hp) its.toArray,⟨⟨_,Heap.get?_push_size _ rfl,rfl,rfl⟩,?_⟩,qbp hb,λh' tk hk=>?_⟩)
 ·obtain ⟨o,n,e,c,_,d⟩:=pl;exact ⟨o,Heap.get?_push_of_some _ e,c,n,d⟩
 ·refine ⟨.bl _,H,?_,rfl,by rw [size_toArray,hlen,qaF];exact q⟩;exact I.kept (h':=h') (t':=tk) λb o e=>hk b o (by simp;exact Nat.ne_of_lt (Heap.lt_size e)) (Heap.get?_push_of_some _ e)
end
def WH (env:Env):List (Str×NameKind)->List (Str×Addr)->List (Str×Addr)
 |[],cs=>cs
 | (n,k)::r,cs=>if k=.free then WH env r ((n,(env.cells.lookup n).getD 0)::cs) else WH env r cs
def ZH {scope:Scope} {env:Env} (h:∀ y∈scope.names,y.2=.free->∃ c,env.cells.lookup y.1=some c):closureFor scope env=pure (WH env scope.names []):=by
 have key:∀ (l:List (Str×NameKind)) (cs:List (Str×Addr)),(∀ y∈l,y.2=.free->∃ c,env.cells.lookup y.1=some c) ->
   (forIn l cs λ(x:Str×NameKind) (r:List (Str×Addr))=>if (x.2==NameKind.free)=true then (do let a←cellOf env x.1;pure (ForInStep.yield ((x.1,a)::r))) else pure (ForInStep.yield r))=(pure (WH env l cs):Sem _):=by
  intro l;induction l with
  |nil=>intro cs _;rfl
  |cons y r ih=>
   intro cs hl;obtain ⟨n,k⟩:=y;rw [List.forIn_cons];by_cases hk:k=.free
   ·subst hk;obtain ⟨c,hc⟩:=hl (n,.free) List.mem_cons_self rfl;have e:cellOf env n=pure c:=by unfold cellOf;rw [show List.lookup n env.cells=some c from hc]
    simp only [beq_self_eq_true,if_true];rw [e,pure_bind,pure_bind];show forIn r ((n,c)::cs) _=_;rw [ih _ λz hz=>hl z (List.mem_cons_of_mem _ hz)];show _=(pure (if NameKind.free=NameKind.free then WH env r ((n,(env.cells.lookup n).getD 0)::cs) else WH env r cs):Sem _);rw [if_pos rfl,show List.lookup n env.cells=some c from hc];rfl
   ·have hb:(k==NameKind.free)=false:=by cases k<;>first|rfl|exact absurd rfl hk
    simp only [hb,Bool.false_eq_true,if_false];rw [pure_bind];show forIn r cs _=_;rw [ih _ λz hz=>hl z (List.mem_cons_of_mem _ hz)];show _=(pure (if k=NameKind.free then WH env r ((n,(env.cells.lookup n).getD 0)::cs) else WH env r cs):Sem _);rw [if_neg hk]
 have:=key scope.names [] h;unfold closureFor;refine Eq.trans ?_ this;exact bind_pure (m:=Sem) _
def YQ {env:Env}:∀ (l:List (Str×NameKind)) (cs:List (Str×Addr)) (x:Str) (c:Addr),(∀ y∈l,y.2=.free->∃ c,env.cells.lookup y.1=some c) ->
  (∀ x c,cs.lookup x=some c->env.cells.lookup x=some c)->(WH env l cs).lookup x=some c->env.cells.lookup x=some c
 |[],_,_,_,_,h,e=>h _ _ e
 | (n,k)::r,cs,x,c,hl,h,e=>by
  unfold WH at e;split at e
  ·rename_i hk;refine YQ r _ x c (λy hy=>hl y (List.mem_cons_of_mem _ hy)) (λx c e=>?_) e;rw [List.lookup_cons] at e;split at e
   ·rename_i hx;have hx':x=n:=by simpa using hx
    subst hx';obtain ⟨d,hd⟩:=hl (x,k) List.mem_cons_self hk;have hd:List.lookup x env.cells=some d:=hd;rw [hd] at e ⊢;exact e
   ·exact h _ _ e
  ·exact YQ r cs x c (λy hy=>hl y (List.mem_cons_of_mem _ hy)) h e
def U4 {env:Env}:∀ (l:List (Str×NameKind)) (cs:List (Str×Addr)) (x:Str),((x,NameKind.free)∈l\/∃ c,cs.lookup x=some c)->∃ c,(WH env l cs).lookup x=some c
 |[],_,_,h=>by
  rcases h with h|h
  ·simp at h
  ·exact h
 | (n,k)::r,cs,x,h=>by
  unfold WH;have put:∀ d:Addr,(x=n\/∃ c,cs.lookup x=some c)->∃ c,((n,d)::cs).lookup x=some c:=λd z=>by
   rw [List.lookup_cons];cases hx:x==n with
   |true=>exact ⟨d,rfl⟩
   |false=>
    rcases z with z|z
    ·rw [z] at hx;simp at hx
    ·exact z
  split
  ·rename_i hk;refine U4 r _ x ?_;rcases h with h|h
   ·rcases mem_cons.mp h with e|e
    ·cases e;exact .inr (put _ (.inl rfl))
    ·exact .inl e
   ·exact .inr (put _ (.inr h))
  ·rename_i hk;refine U4 r _ x ?_;rcases h with h|h
   ·rcases mem_cons.mp h with e|e
    ·cases e;exact absurd rfl hk
    ·exact .inl e
   ·exact .inr h
def XE {env:Env}:∀ (l:List (Str×NameKind)) (cs:List (Str×Addr)) (x:Str) (c:Addr),(WH env l cs).lookup x=some c->(x,NameKind.free)∈l\/cs.lookup x=some c
 |[],_,_,_,e=>.inr e
 | (n,k)::r,cs,x,c,e=>by
  unfold WH at e;split at e
  ·rename_i hk;rcases XE r _ x c e with z|z
   ·exact .inl (List.mem_cons_of_mem _ z)
   ·rw [List.lookup_cons] at z;split at z
    ·rename_i hx;have hx':x=n:=by simpa using hx
     subst hx';subst hk;exact .inl List.mem_cons_self
    ·exact .inr z
  ·rcases XE r cs x c e with z|z
   ·exact .inl (List.mem_cons_of_mem _ z)
   ·exact .inr z
def UJ {α:Type}:∀ (xs ys:List (Str×α)) (x:Str),(xs++ys).lookup x=(match xs.lookup x with|some c=>some c|none=>ys.lookup x)
 |[],ys,x=>rfl
 | (n,c)::xs,ys,x=>by
  rw [cons_append,List.lookup_cons,List.lookup_cons];cases x==n with
  |true=>rfl
  |false=>exact UJ xs ys x
def jf:∀ (l:List (Str×NameKind)) {n:Nat} {acc:List (Str×Addr)},cellsFrom n l acc=cellsFrom n l []++acc
 |[],_,_=>rfl
 | (x,k)::r,n,acc=>by
  unfold cellsFrom;split
  ·rw [jf r (acc:=(x,n)::acc),jf r (acc:=[(x,n)]),List.append_assoc];rfl
  ·exact jf r
def ZK:∀ (l:List (Str×NameKind)) (n:Nat) (acc:List (Str×Addr)) (x:Str) (c:Addr),(x,c)∈cellsFrom n l acc->(x,NameKind.cell)∈l\/(x,c)∈acc
 |[],_,_,_,_,h=>.inr h
 | (y,k)::r,n,acc,x,c,h=>by
  unfold cellsFrom at h;split at h
  ·rename_i hk;have hk:k=.cell:=by simpa using hk
   rcases ZK r _ _ x c h with z|z
   ·exact .inl (List.mem_cons_of_mem _ z)
   ·rcases mem_cons.mp z with e|e
    ·cases e;subst hk;exact .inl List.mem_cons_self
    ·exact .inr e
  ·rcases ZK r _ _ x c h with z|z
   ·exact .inl (List.mem_cons_of_mem _ z)
   ·exact .inr z
def jM:∀ (l:List (Str×NameKind)) (n:Nat) (acc:List (Str×Addr)) (x:Str),((x,NameKind.cell)∈l\/∃ c,acc.lookup x=some c)->∃ c,(cellsFrom n l acc).lookup x=some c
 |[],_,_,_,h=>by
  rcases h with h|h
  ·simp at h
  ·exact h
 | (y,k)::r,n,acc,x,h=>by
  unfold cellsFrom;have put:(x=y\/∃ c,acc.lookup x=some c)->∃ c,((y,n)::acc).lookup x=some c:=λz=>by
   rw [List.lookup_cons];cases hx:x==y with
   |true=>exact ⟨n,rfl⟩
   |false=>
    rcases z with z|z
    ·rw [z] at hx;simp at hx
    ·exact z
  split
  ·refine jM r _ _ x ?_;rcases h with h|h
   ·rcases mem_cons.mp h with e|e
    ·cases e;exact .inr (put (.inl rfl))
    ·exact .inl e
   ·exact .inr (put (.inr h))
  ·rename_i hk;refine jM r _ _ x ?_;rcases h with h|h
   ·rcases mem_cons.mp h with e|e
    ·cases e;exact absurd rfl hk
    ·exact .inl e
   ·exact .inr h
def jK {M:Model} {A:Around} {E:Value->Shared->Prop} {s:Shared} {scope:Scope} {globals:Addr} {cl:List (Str×Addr)} {qual:Str} {env:Env} {Q:Env->Shared->Prop}
  (hQ:∀ h₁:Heap,h₁.Ns s.heap.objs.size (λ_=>none)->(∀ b o,s.heap.get? b=some o->h₁.get? b=some o)->CellsOk h₁ (s.heap.objs.size+1) (cellsFrom (s.heap.objs.size+1) scope.names [])->Q (newEnv scope s.heap.objs.size globals (cellsFrom (s.heap.objs.size+1) scope.names cl) qual none .none (some env) builtinsNs) { s with heap:=h₁ }) :
  wpAny M A (newFunctionEnv scope globals cl [] qual none .none (some env)) Q E s:=by
 simp only [newFunctionEnv,Option.isSome_some,if_true];refine wpAny_bind (wpAny_alloc ?_);refine wpAny_bind (wpAny_layCells _ (λname kind cells=>by cases hkc:kind==NameKind.cell<;>simp [hkc]) _ _ _ _ ?_);have ok:=cellsFrom_ok scope.names (s.heap.push { cls:=.type "dict",data:=.dict #[] }) (s.heap.objs.size+1) [] ⟨λ_ _ hm=>(nomatch hm),List.Pairwise.nil⟩ (by rw [Heap.size_push];exact Nat.le_refl _);rw [Heap.size_push] at ok;rw [show ({ s with heap:=s.heap.push { cls:=.type "dict",data:=.dict #[] } }:Shared).heap.objs.size=s.heap.objs.size+1 from Heap.size_push ..];rw [List.forIn_nil];refine wpAny_bind (wpAny_pure (wpAny_pure ?_));exact hQ _ ((Heap.Ns.new s.heap (.type "dict")).keeps (pushCells_keeps _ _)) (λb o e=>pushCells_keeps _ _ b o (Heap.get?_push_of_some _ e)) ok
def ql (X:Cx) (N':List Str) (scope:Scope) (s:Shared) (H:Hp) (fp:List Addr):Cx where
 prog:=X.prog
 w:=X.w
 K:=X.K
 mg:=X.mg
 base:=X.base
 A:=X.A
 N:=N'
 s₀:=s
 H₀:=H
 env:=compEnvC scope (cellsFrom (s.heap.objs.size+1) scope.names (WH X.env scope.names [])) s.heap.objs.size X.env
 outer:=X.stack
 stack:=X.stack
 ex:=fp
 fn:=λx=>scope.names.lookup x==some .cell
 calm:=true
 pn:=[]
 xe:=λ_ _=>False
def MR (outer inner:Scope):Bool:=(inner.kind==.function)&&inner.names.all λy=>
 (y.2 != .cell||inner.names.lookup y.1==some .cell)&&(y.2 != .local||inner.names.lookup y.1==some .local)&&(y.2 != .free||(inner.names.lookup y.1==some .free&&(outer.names.lookup y.1==some .cell||outer.names.lookup y.1==some .free)))
def cap {α:Type} (m:List (Option Nat)) (σ:List (Option α)):List (Option α):=m.map λo=>match o with|some j=>(σ[j]?).join|none=>none
def YE (N N':List Str) (scope:Scope) (m:List (Option Nat)):Bool:=(m.length==N'.length)&&(m.zip N').all λp=>match p.1 with
 |none=>true
 |some j=>N[j]?==some p.2&&scope.names.lookup p.2==some .free
def qaa {α:Type} {m:List (Option Nat)} {σ:List (Option α)} {i:Nat} {v:α} (h:(cap m σ)[i]?=some (some v)):∃ j,m[i]?=some (some j)/\σ[j]?=some (some v):=by
 unfold cap at h;rw [getElem?_map] at h;cases e:m[i]? with
 |none=>rw [e] at h;cases h
 |some o=>
  rw [e] at h;cases o with
  |none=>cases h
  |some j=>
   refine ⟨j,rfl,?_⟩;have h':(σ[j]?).join=some v:=by simpa using h
   cases q:σ[j]? with
   |none=>rw [q] at h';cases h'
   |some z=>rw [q] at h';exact congrArg some h'
def M9 {N N':List Str} {scope:Scope} {m:List (Option Nat)} (h:YE N N' scope m=true) {i j:Nat} {x:Str} (e:m[i]?=some (some j)) (hx:N'[i]?=some x):N[j]?=some x/\scope.names.lookup x=some .free:=by
 unfold YE at h;rw [Bool.and_eq_true] at h;have hm:(some j,x)∈m.zip N':=mem_of_getElem? (i:=i) (List.getElem?_zip_eq_some.mpr ⟨e,hx⟩);have:=List.all_eq_true.mp h.2 _ hm;simp only [Bool.and_eq_true,beq_iff_eq] at this;exact this
def qe4 {N N':List Str} {scope:Scope} {m:List (Option Nat)} {α:Type} (σ:List (Option α)) (h:YE N N' scope m=true):(cap m σ).length=N'.length:=by
 unfold YE at h;rw [Bool.and_eq_true] at h;unfold cap;rw [length_map];simpa using h.1
structure ScFacts (outer inner:Scope):Prop where
 kind:inner.kind=.function
 own:∀ y∈inner.names,y.2=.cell->inner.names.lookup y.1=some .cell
 loc:∀ y∈inner.names,y.2=.local->inner.names.lookup y.1=some .local
 free:∀ y∈inner.names,y.2=.free->inner.names.lookup y.1=some .free/\(outer.names.lookup y.1=some .cell\/outer.names.lookup y.1=some .free)
def V8 {outer inner:Scope} (h:MR outer inner=true):ScFacts outer inner:=by
 unfold MR at h;rw [Bool.and_eq_true] at h;have ha:=List.all_eq_true.mp h.2;refine ⟨by simpa using h.1,λy hy e=>?_,λy hy e=>?_,λy hy e=>?_⟩
 ·have:=ha y hy;rw [e] at this;simpa using this
 ·have:=ha y hy;rw [e] at this;simpa using this
 ·have:=ha y hy;rw [e] at this;simpa using this
def QK {scope:Scope} {env:Env} {x:Str} {k:NameKind} (h:(relabel scope env).names.lookup x=some k):scope.names.lookup x=some k\/(k=.cell/\scope.names.lookup x=some .free):=by
 have key:∀ (l:List (Str×NameKind)),(l.map λ(n,k)=>if (k==NameKind.free&&env.scope.kind==.function&&env.kindOf n==some .cell) then (n,NameKind.cell) else (n,k)).lookup x=some k->l.lookup x=some k\/(k=.cell/\l.lookup x=some .free):=by
  intro l;induction l with
  |nil=>intro h;simp at h
  |cons y r ih=>
   intro h;obtain ⟨n,j⟩:=y;rw [map_cons] at h;dsimp only at h;by_cases hc:(j==NameKind.free&&env.scope.kind==.function&&env.kindOf n==some .cell)=true
   ·rw [if_pos hc,List.lookup_cons] at h;rw [List.lookup_cons];cases hx:x==n with
    |true=>
     rw [hx] at h;have hk:NameKind.cell=k:=by simpa using h
     have hj:j=.free:=by simp only [Bool.and_eq_true,beq_iff_eq] at hc;exact hc.1.1
     exact .inr ⟨hk.symm,by rw [hj]⟩
    |false=>rw [hx] at h;exact ih h
   ·rw [if_neg hc,List.lookup_cons] at h;rw [List.lookup_cons];cases hx:x==n with
    |true=>rw [hx] at h;exact .inl h
    |false=>rw [hx] at h;exact ih h
 exact key scope.names h
def PF (X:Cx) (ifs:List Expr) (t:TT):Prop:=
 ∀ (pins:List (Addr×Obj)) (s:Shared) (σ:L2.St) (H:Hp) (Q:Bool->Hp->Prop),Inv X pins σ H s->t σ H Q ->
  wpAny (model X.prog X.w) X.A (forIn ifs true λc r=>if r=true then do let ok←isTrue c X.env (eval c X.env);pure (ForInStep.yield ok) else pure (ForInStep.yield r)) (TP X pins σ Q) X.xe s
def qju {X:Cx}:PF X [] (λ_ H Q=>Q true H):=λ_ _ _ H _ I h=>wpAny_tests_nil ⟨H,I,h⟩
section
variable {X:Cx} {pins:List (Addr×Obj)} {σ:L2.St} {H:Hp} {s:Shared}
def CM {N':List Str} {scope:Scope} {fp:List Addr} {m:List (Option Nat)} {h1:Heap} {mm:Str->Option Value} (hc:X.calm=true) (I:Inv X pins σ H s) (sc:ScFacts X.env.scope scope) (hcap:YE X.N N' scope m=true)
  (hfp:∀ b∈fp,RO X pins H b) (hob:∀ b∈fp,∃ o,s.heap.get? b=some o) (hns:h1.Ns s.heap.objs.size mm) (hk:∀ b o,s.heap.get? b=some o->h1.get? b=some o) (hown:CellsOk h1 (s.heap.objs.size+1) (cellsFrom (s.heap.objs.size+1) scope.names [])) :
  Inv (ql X N' scope s H fp) [] (cap m σ) H { s with heap:=h1 }:=by
 have hcl:∀ y∈scope.names,y.2=.free->∃ c,X.env.cells.lookup y.1=some c:=λy hy e=>by
  rcases (sc.free y hy e).2 with z|z
  ·exact I.ok.has y.1 (.inl z)
  ·exact I.ok.has y.1 (.inr z)
 have cl:∀ x c,(WH X.env scope.names []).lookup x=some c->X.env.cells.lookup x=some c:=λx c e=>YQ scope.names [] x c hcl (λ_ _ z=>by simp at z) e;have clt:∀ x c,(WH X.env scope.names []).lookup x=some c->c<s.heap.objs.size:=λx c e=>by
  obtain ⟨v,q⟩:=I.cell x c (cl x c e);exact q.lt
 -- a cell of the block: its own,or one from around
 have cs:∀ x c,(cellsFrom (s.heap.objs.size+1) scope.names (WH X.env scope.names [])).lookup x=some c->((x,c)∈cellsFrom (s.heap.objs.size+1) scope.names []/\s.heap.objs.size+1<=c/\h1.IsCell c none)\/(WH X.env scope.names []).lookup x=some c:=λx c e=>by
  rw [jf,UJ] at e;cases q:(cellsFrom (s.heap.objs.size+1) scope.names []).lookup x with
  |none=>rw [q] at e;exact .inr e
  |some d=>
   rw [q] at e;cases e;have mem:=PySem.mem_of_lookup q;exact .inl ⟨mem,(hown.empty x _ mem).2,(hown.empty x _ mem).1⟩
 have fpne:∀ b∈fp,b≠s.heap.objs.size:=λb hb=>let ⟨o,e⟩:=hob b hb;Nat.ne_of_lt (Heap.lt_size e)
 refine ⟨⟨I.ok.mod,sc.kind,I.ok.glob,I.ok.blt,Nat.le_refl _,λx y c e1 e2=>?_,λx hx=>?_,λx c hf e=>?_,λ_=>I.ok.hd hc,I.ok.frames,.inl rfl,λb hb=>⟨fpne b hb,λx c e=>?_⟩,I.bs,Nat.le_trans I.ok.bsz I.sz,λb o e hb=>?_,λb hb z=>?_,I.stack,I.stkFree⟩,
  rfl,I.bare,Un.kept hk,⟨mm,hns,λi x v e1 e2 e3=>?_⟩,λx c e=>?_,I.fresh,λx c e=>?_,λp hp=>absurd (show p∈([]:List (Addr×Obj)) from hp) (by simp),I.hok.kept hk,qe4 σ hcap⟩
 ·rcases cs x c e1 with ⟨m1,l1,_⟩|z1<;>rcases cs y c e2 with ⟨m2,l2,_⟩|z2
  ·exact PySem.name_of_addr hown.apart m1 m2
  ·exact absurd (clt y c z2) (Nat.not_lt.mpr (Nat.le_trans (Nat.le_succ _) l1))
  ·exact absurd (clt x c z1) (Nat.not_lt.mpr (Nat.le_trans (Nat.le_succ _) l2))
  ·exact I.ok.inj x y c (cl x c z1) (cl y c z2)
 ·have hx:(relabel scope X.env).names.lookup x=some .cell\/(relabel scope X.env).names.lookup x=some .free:=hx;have hf:scope.names.lookup x=some .cell\/scope.names.lookup x=some .free:=by
   rcases hx with z|z
   ·rcases QK z with q|⟨_,q⟩
    ·exact .inl q
    ·exact .inr q
   ·rcases QK z with q|⟨q,_⟩
    ·exact .inr q
    ·cases q
  show ∃ c,(cellsFrom (s.heap.objs.size+1) scope.names (WH X.env scope.names [])).lookup x=some c;rcases hf with hf|hf
  ·exact jM scope.names _ _ x (.inl (PySem.mem_of_lookup hf))
  ·exact jM scope.names _ _ x (.inr (U4 scope.names [] x (.inl (PySem.mem_of_lookup hf))))
 ·have hf:scope.names.lookup x=some .cell:=by simpa [ql] using hf
  rcases cs x c e with ⟨_,l1,_⟩|z1
  ·exact Nat.le_trans (Nat.le_succ _) l1
  ·rcases XE scope.names [] x c z1 with q|q
   ·rw [(sc.free _ q rfl).1] at hf;cases hf
   ·simp at q
 ·rcases cs x c e with ⟨_,l1,_⟩|z1
  ·obtain ⟨o,eo⟩:=hob b hb;exact Nat.ne_of_gt (Nat.lt_of_lt_of_le (Heap.lt_size eo) (Nat.le_trans (Nat.le_succ _) l1))
  ·exact (hfp b hb).2.2.2.2.1 x c (cl x c z1)
 ·rcases (hfp b hb).2.2.2.1 with z|z
  ·exact I.ok.noex b o e z
  ·exact absurd (Nat.lt_of_lt_of_le (Heap.lt_size e) (Nat.le_trans I.ok.bsz z)) (Nat.lt_irrefl _)
 ·rcases mem_cons.mp (I.stkSub b z) with q|q
  ·exact (hfp b hb).2.1 q
  ·exact (hfp b hb).2.2.1 q
 ·obtain ⟨j,ej,es⟩:=qaa e2;obtain ⟨hN,hfr⟩:=M9 hcap ej e1;have mem:=PySem.mem_of_lookup hfr;have ho:=(sc.free _ mem rfl).2;obtain ⟨m0,hn0,hl0⟩:=I.loc;obtain ⟨u,ru,lk⟩:=hl0 j x v hN es (ho.elim (λz=>.inr (.inl z)) λz=>.inr (.inr z));refine ⟨u,ru,.inr ⟨?_,?_⟩⟩
  ·rcases e3 with z|z|z
   ·rcases QK z with q|⟨q,_⟩
    ·rw [hfr] at q;cases q
    ·cases q
   ·exact .inl z
   ·exact .inr z
  ·rcases lk with ⟨z,_⟩|⟨_,c,hc',hcell⟩
   ·have z:X.env.scope.names.lookup x=some .local:=z;rcases ho with q|q<;>(rw [z] at q;cases q)
   ·obtain ⟨c',hc2⟩:=U4 (env:=X.env) scope.names [] x (.inl mem);have e:=cl x c' hc2;rw [hc'] at e;cases e;obtain ⟨o,eo,d⟩:=hcell;refine ⟨c,?_,o,hk c o eo,d⟩;show (cellsFrom (s.heap.objs.size+1) scope.names (WH X.env scope.names [])).lookup x=some c;rw [jf,UJ];cases q:(cellsFrom (s.heap.objs.size+1) scope.names []).lookup x with
    |none=>exact hc2
    |some d=>
     rcases ZK scope.names _ [] x d (PySem.mem_of_lookup q) with z|z
     ·rw [sc.own _ z rfl] at hfr;cases hfr
     ·simp at z
 ·rcases cs x c e with ⟨_,_,z⟩|z1
  ·exact ⟨none,z⟩
  ·obtain ⟨v,o,eo,d⟩:=I.cell x c (cl x c z1);exact ⟨v,o,hk c o eo,d⟩
 ·rcases cs x c e with ⟨_,l1,_⟩|z1
  ·exact I.hok.fresh (Nat.le_trans (Nat.le_succ _) l1)
  ·exact I.freeC x c (cl x c z1)
def UM {N':List Str} {scope:Scope} {fp:List Addr} {pins':List (Addr×Obj)} {σ':L2.St} {H':Hp} {s':Shared} {h2:Heap} (I:Inv X pins σ H s) (hfp:∀ b∈fp,RO X pins H b) (J:Inv (ql X N' scope s H fp) pins' σ' H' s')
  (sb:Heap.SameBut s.heap.objs.size s'.heap h2):Inv X pins σ H' { s' with heap:=h2 }:=by
 have ne:∀ b o,s.heap.get? b=some o->b≠s.heap.objs.size:=λb o e=>Nat.ne_of_lt (Heap.lt_size e);have g:∀ b,b≠s.heap.objs.size->h2.get? b=s'.heap.get? b:=λb hb=>sb.2 b hb;have hn:H' s.heap.objs.size=none:=J.free;have u:Un (frs X.stack) fp H H' s.heap s'.heap:=J.base;refine I.call' (s':={ s' with heap:=h2 }) J.os ⟨λb o e n hb hx=>?_,λb o e n hb hx=>?_,u.free,λb o e hx=>?_,u.tups,u.frzs,u.tbls⟩ (λa o e=>?_) J.bare λb hb=>⟨(hfp b hb).2.2.2.1,(hfp b hb).2.1,(hfp b hb).2.2.2.2.1,(hfp b hb).2.2.2.2.2⟩
 ·show h2.get? b=_;rw [g b (ne b o e)];exact u.keep b o e n hb hx
 ·show ∃ sl,h2.get? b=_;rw [g b (ne b o e)];exact u.slot b o e n hb hx
 ·show ∃ o',h2.get? b=_;rw [g b (ne b o e)];exact u.there b o e hx
 ·refine (J.hok a o e).stay (λb v hb q=>?_) (λ_ q=>q) λ_ _ q=>q;have hb':b≠s.heap.objs.size:=by
   intro z;subst z;rcases hb with z|z
   ·rw [← z] at e;rw [hn] at e;cases e
   ·rw [hn] at z;cases z
  rw [g b hb'];exact q
end
def tLC (wi:TI) (g:TG) (tif:TT) (te:TE) (m:List (Option Nat)):TE:=λσ H Q=>wi σ H λJ H1=>∀ D,H1 D=none ->
 ∃ W:Nat->Nat->L2.St->Hp->Prop,(∃ n,W 0 n (cap m σ) (upd H1 D (.lst [])))/\∀ i n σ H,W i n σ H ->
  (J.stop i H/\Q (.ref D) H)\/(J.go i H/\∀ x H',J.yld i H x H'->g x σ H' λσ2 H2=>tif σ2 H2 λk H3=>
   if k=true then te σ2 H3 λy H4=>∃ zs,H4 D=some (.lst zs)/\zs.length<sizeLine/\∃ n',n'<n/\W (i+1) n' σ2 (upd H4 D (.lst (zs++[y])))
   else ∃ n',n'<n/\W (i+1) n' σ2 H3)
section
variable {X:Cx}
def qmV {elt tg iter:Expr} {ifs:List Expr} {scope:Scope} {pos:Pos} {N':List Str} {m:List (Option Nat)} {wi:TI} {g:TG} {tif:TT} {te:TE} (hc:X.calm=true) (hi:PI X tg iter wi)
  (hg:∀ s H fp,PG (ql X N' scope s H fp) tg g) (hf:∀ s H fp,PF (ql X N' scope s H fp) ifs tif) (he:∀ s H fp,PE (ql X N' scope s H fp) elt te)
  (hsc:MR X.env.scope scope=true) (hcap:YE X.N N' scope m=true) (hs:∀ x,foldedSetIterable iter X.env x=pure x:=by intro _;rfl) :
  PE X (.ListComp elt [⟨tg,iter,ifs,0⟩] scope pos) (tLC wi g tif te m):=by
 intro pins s σ H Q I h;have sc:=V8 hsc;have hcl:∀ y∈scope.names,y.2=.free->∃ c,X.env.cells.lookup y.1=some c:=λy hy e=>by
  rcases (sc.free y hy e).2 with z|z
  ·exact I.ok.has y.1 (.inl z)
  ·exact I.ok.has y.1 (.inr z)
 rw [eval_ListComp];refine wpAny_comprehension_free (use:=none) (g:=⟨tg,iter,ifs,0⟩) (gs:=[]) rfl hs (ZH hcl) sc.kind sc.loc ?_;show wpAny _ _ (eval iter X.env) _ _ s;refine thn (hi pins s σ H _ I h) λv s1 h1=>thn h1 λitv s2 h2=>?_;obtain ⟨it,fp,tn,J,H2,rfl,I2,T,st2,f2,hW⟩:=h2;refine wpAny_newObj_type ?_;have hD:H2 s2.heap.objs.size=none:=I2.fresh;obtain ⟨W,⟨n0,w0⟩,turn⟩:=hW _ hD;generalize hDe:s2.heap.objs.size=D at *;have I3:Inv X pins σ (upd H2 D (.lst [])) { s2 with heap:=s2.heap.push { cls:=.type "list",dict:=none,data:=.seq ([]:List Value).toArray } }:=by
  subst hDe;exact I2.laid (t':=s2.toks) (λb u e=>Heap.get?_push_of_some _ e) (Nat.le_refl _) ⟨Nat.zero_le _,[],0,.nil,Heap.get?_push_size _ rfl⟩
 have ob2:=T.obj 0 _ st2;have ob3:∀ b∈fp,∃ o,(s2.heap.push { cls:=.type "list",dict:=none,data:=.seq ([]:List Value).toArray }).get? b=some o:=λb hb=>let ⟨o,e,_⟩:=ob2 b hb;⟨o,Heap.get?_push_of_some _ e⟩
 have f3:∀ b∈fp,RO X pins (upd H2 D (.lst [])) b:=λb hb=>by
  obtain ⟨o,e,_⟩:=ob2 b hb;have:b≠D:=by rw [← hDe];exact Nat.ne_of_lt (Heap.lt_size e)
  exact ⟨by rw [qz this];exact (f2 b hb).1,(f2 b hb).2⟩
 have k23:∀ b o,s2.heap.get? b=some o->(s2.heap.push { cls:=.type "list",dict:=none,data:=.seq ([]:List Value).toArray }).get? b=some o:=λb o e=>Heap.get?_push_of_some _ e;generalize hH3:upd H2 D (.lst [])=H3 at *;generalize hs3:({ s2 with heap:=s2.heap.push { cls:=.type "list",dict:=none,data:=.seq ([]:List Value).toArray } }:Shared)=s3 at *;have ob3:∀ b∈fp,∃ o,s3.heap.get? b=some o:=by rw [← hs3];exact ob3
 have k23:∀ b o,s2.heap.get? b=some o->s3.heap.get? b=some o:=by rw [← hs3];exact k23
 refine jK λh₁ hns hk hown=>?_;have I4:Inv (ql X N' scope s3 H3 fp) [] (cap m σ) H3 { s3 with heap:=h₁ }:=CM hc I3 sc hcap f3 ob3 hns hk hown;have tn4:tn 0 h₁:=T.keep _ _ _ st2 λb hb o e=>hk b o (k23 b o e);have fr4:∀ b∈fp,H3 b=none:=λb hb=>(f3 b hb).1;have stat:∀ {H':Hp},(∀ b∈fp,H' b=none)->∀ b∈fp,RO (ql X N' scope s3 H3 fp) [] H' b:=λhn b hb=>by
  refine ⟨hn b hb,I4.ok.exf b hb |>.1,I4.ok.exfs b hb,.inl hb,λx c e=>(I4.ok.exf b hb).2 x c e,λp hp=>absurd (show p∈([]:List (Addr×Obj)) from hp) (by simp)⟩
 show codeAny (model X.prog X.w) X.A (.compStart (.ListComp elt [⟨tg,iter,ifs,0⟩] scope pos) 0 (.ref it) (.ref D) (ql X N' scope s3 H3 fp).env) (compPost (model X.prog X.w) X.A X.xe none (EP X pins σ Q) (.ref D) s3.heap.objs.size) { s3 with heap:=h₁ };have loop:codeAny (model X.prog X.w) X.A (.compLoop (.ListComp elt [⟨tg,iter,ifs,0⟩] scope pos) 0 (.ref it) (.ref D) (ql X N' scope s3 H3 fp).env) (compPost (model X.prog X.w) X.A X.xe none (EP X pins σ Q) (.ref D) s3.heap.objs.size) { s3 with heap:=h₁ }:=by
  refine codeAny_loop rfl (λn s'=>∃ i σ' H',Inv (ql X N' scope s3 H3 fp) [] σ' H' s'/\tn i s'.heap/\(∀ b∈fp,H' b=none)/\W i n σ' H') (λn s' hI=>?_) n0 ⟨0,cap m σ,H3,I4,tn4,fr4,w0⟩;show wpAny _ X.A ((compTurn (.ListComp elt [⟨tg,iter,ifs,0⟩] scope pos) 0 (.ref it) (.ref D) (ql X N' scope s3 H3 fp).env).onRaise (λx=>do noteFrame x (ql X N' scope s3 H3 fp).env;theTreesLotGoes x)) _ _ s';refine wpAny_noted ?_;rw [compTurn_list];refine wpAny_bind (wpAny_standAt (wpAny_bind ?_));obtain ⟨i,σ5,H5,I5,st5,fr5,w5⟩:=hI;rcases turn i n σ5 H5 w5 with ⟨stop,q⟩|⟨go,step⟩
  ·refine thn (T.done (ql X N' scope s3 H3 fp) rfl rfl rfl rfl i [] s' σ5 H5 _ I5 (stat fr5) st5 stop) λr s6 ⟨hr,I6⟩=>?_;subst hr;refine wpAny_pure ?_;obtain ⟨mm,hn6,_⟩:=I6.loc;exact ⟨mm,hn6,λh' sb=>⟨.ref D,H5,UM I3 f3 I6 sb,rfl,q⟩⟩
  ·refine thn (T.item (ql X N' scope s3 H3 fp) rfl rfl rfl rfl i [] s' σ5 H5 _ I5 (stat fr5) st5 go) λr s6 ⟨u,hr,h6⟩=>?_;subst hr;refine wpAny_bind (thn h6 λ_ s7 ⟨x,H7,I7,r7,y7,st7,fr7⟩=>?_);have I7':=I7.pinned (stat fr7) (T.obj _ _ st7);have again:∀ {σ8:L2.St} {H8:Hp} {s8:Shared},Inv (ql X N' scope s3 H3 fp) ([]++UP fp s7.heap) σ8 H8 s8->(∃ n',n'<n/\W (i+1) n' σ8 H8) ->
     ∃ m',m'<n/\∃ i σ' H',Inv (ql X N' scope s3 H3 fp) [] σ' H' s8/\tn i s8.heap/\(∀ b∈fp,H' b=none)/\W i m' σ' H':=λ{σ8 H8 s8} I8 ⟨n',hn,w8⟩=>by
    refine ⟨n',hn,i+1,σ8,H8,I8.unpinned,T.keep _ _ _ st7 λb hb o e=>(I8.pin (b,o) (mem_append_right _ (mem_append_right _ (zy hb e)))).1,λb hb=>?_,w8⟩;obtain ⟨o,e,d⟩:=T.obj _ _ st7 b hb;exact (I8.pin (b,o) (mem_append_right _ (mem_append_right _ (zy hb e)))).2.1
   refine wpAny_bind (wpAny_mono (hg s3 H3 fp _ s7 σ5 H7 x u _ I7' r7 (step x H7 y7)) (λ_ s8 ⟨σ8,H8,I8,q8⟩=>?_) λ_ _ z=>z.elim);refine wpAny_bind (wpAny_mono (hf s3 H3 fp _ s8 σ8 H8 _ I8 q8) (λk s9 ⟨H9,I9,q9⟩=>?_) λ_ _ z=>z.elim);cases k with
   |false=>
    rw [if_neg Bool.false_ne_true] at q9;exact wpAny_pure ⟨rfl,again I9 q9⟩
   |true=>
    rw [if_pos rfl] at q9;refine wpAny_bind (wpAny_bind (wpAny_mono (he s3 H3 fp _ s9 σ8 H9 _ I9 q9) (λw s10 ⟨y,H10,I10,r10,q10⟩=>?_) λ_ _ z=>z.elim));obtain ⟨zs,hz,hl,q10⟩:=q10;refine wpAny_bind (wpAny_mono (VC (X:=ql X N' scope s3 H3 fp) _ s10 σ8 H10 (.ref D) [y] (.ref D) [w] (λ_ H11=>H11=upd H10 D (.lst (zs++[y]))) I10 rfl (.cons r10 .nil) ⟨D,zs,y,rfl,rfl,hz,hl,rfl⟩) (λ_ s11 ⟨_,H11,I11,_,e11⟩=>?_) λ_ _ z=>z.elim);subst e11;exact wpAny_pure (wpAny_pure ⟨rfl,again I11 q10⟩)
 exact codeAny_compStart_list loop (T.self X.A 0 _ _ _ tn4 loop)
end
section
variable {K:Frg} {G G':Gp} {H H':Hp}
def qgD {D:Addr} {o:HO} {ws:List V} (hD:H D=some (.lst ws)) {a:Addr} {vs:List V} (h:SqT K H a vs):SqT K (upd H D o) a vs:=by
 rcases h with h|h
 ·refine .inl ?_;rcases h with h|⟨ob,h⟩
  ·have:a≠D:=by intro e;subst e;rw [hD] at h;cases h
   exact .inl (by rw [qz this];exact h)
  ·have:a≠D:=by intro e;subst e;rw [hD] at h;cases h
   exact .inr ⟨ob,by rw [qz this];exact h⟩
 ·exact .inr h
mutual
def Rp.wrD {D:Addr} {o:HO} {ws:List V} (hD:H D=some (.lst ws)):∀ {x:T} {v:V},Rp K H x v->Rp K (upd H D o) x v
 |_,_,.non=>.non
 |_,_,.bl b=>.bl b
 |_,_,.int i=>.int i
 |_,_,.str x=>.str x
 |_,_,.ref a=>.ref a
 |_,_,.tup h hs=>.tup (qgD hD h) (Rps.wrD hD hs)
def Rps.wrD {D:Addr} {o:HO} {ws:List V} (hD:H D=some (.lst ws)):∀ {x:List T} {v:List V},Rps K H x v->Rps K (upd H D o) x v
 |_,_,.nil=>.nil
 |_,_,.cons a b=>.cons (Rp.wrD hD a) (Rps.wrD hD b)
end
def HR.wrD {D:Addr} {o:HO} {ws:List V} (hr:HR K G H) (hD:H D=some (.lst ws)) (g:G D=none):HR K G (upd H D o):=λa ob e=>by
 have ha:a≠D:=by intro z;subst z;rw [g] at e;cases e
 have q:=hr a ob e;cases ob with
 |lst xs=>obtain ⟨vs,h1,h2⟩:=q;exact ⟨vs,by rw [qz ha];exact h1,h2.wrD hD⟩
 |frz xs=>obtain ⟨vs,⟨o1,h1⟩,h2⟩:=q;exact ⟨vs,⟨o1,by rw [qz ha];exact h1⟩,h2.wrD hD⟩
 |dct kvs=>obtain ⟨vs,h1,h2⟩:=q;exact ⟨vs,by rw [qz ha];exact h1,h2.wrD hD⟩
 |exn C=>have h1:H a=some (.ext (IsX a C)):=q;exact (show _=_ by rw [qz ha];exact h1)
def Rel.wrD {D:Addr} {o:HO} {ws:List V} {τ:St3} {σ:L2.St} (r:Rel K τ G σ H) (hD:H D=some (.lst ws)) (g:G D=none):Rel K τ G σ (upd H D o):=
 ⟨r.hp.wrD hD g,r.len,λi t e=>let ⟨v,h1,h2⟩:=r.st i t e;⟨v,h1,h2.wrD hD⟩⟩
def Kp.wrD {D:Addr} {o:HO} (k:Kp G H G' H') (hD:H D=none):Kp G H G' (upd H' D o):=λa ob h g=>by
 obtain ⟨h1,h2⟩:=k a ob h g;exact ⟨by rw [qz (qF h hD)];exact h1,h2⟩
def qbS {α:Type} {m:List (Option Nat)} {σ:List (Option α)} {i j:Nat} (h:m[i]?=some (some j)):(cap m σ)[i]?=some ((σ[j]?).join):=by
 unfold cap;rw [getElem?_map,h];rfl
def Rel.cap {τ:St3} {σ:L2.St} (r:Rel K τ G σ H) (m:List (Option Nat)):Rel K (cap m τ) G (L3.cap m σ) H:=by
 refine ⟨r.hp,by simp [L3.cap],λi t e=>?_⟩;obtain ⟨j,e1,e2⟩:=qaa e;obtain ⟨v,h1,h2⟩:=r.st j t e2;exact ⟨v,by rw [qbS e1,h1];rfl,h2⟩
end
def WR (stay:Gp->Prop) (g:TG3) (tif:TT3) (te:TE3) (q:Q3):List T->List T->St3->Gp->Prop
 |[],ys,_,G=>stay G/\∀ p,G p=none->q (.ref p) (gu G p (.lst ys))
 |x::r,ys,τ,G=>stay G/\g x τ G λτ2 G2=>tif τ2 G2 λk G3=>if k=true then te τ2 G3 λy G4=>ys.length<sizeLine/\WR stay g tif te q r (ys++[y]) τ2 G4 else WR stay g tif te q r ys τ2 G3
def lc3 (wi:TI3) (g:TG3) (tif:TT3) (te:TE3) (m:List (Option Nat)):TE3:=λτ G q=>wi τ G λitems stay G1=>WR stay g tif te q items [] (cap m τ) G1
abbrev F3 (X:Cx) (ifs:List Expr) (t:TT3):Prop:=PF X ifs (lT X.K t)
def tt3:TT3:=λ_ G q=>q true G
def qmF {X:Cx}:F3 X [] tt3:=λpins s σ H Q I ⟨τ,G,q,rl,h,af⟩=>qju pins s σ H Q I (af true G h H rl.hp Kp.refl)
section
variable {X:Cx}
def qpH {elt tg iter:Expr} {ifs:List Expr} {scope:Scope} {pos:Pos} (N':List Str) (m:List (Option Nat)) {wi:TI3} {g:TG3} {tif:TT3} {te:TE3} (hc:X.calm=true) (hi:I3 X tg iter wi)
  (hg:∀ s H fp,G3 (ql X N' scope s H fp) tg g) (hf:∀ s H fp,F3 (ql X N' scope s H fp) ifs tif) (he:∀ s H fp,E3 (ql X N' scope s H fp) elt te)
  (hsc:MR X.env.scope scope=true) (hcap:YE X.N N' scope m=true) (hs:∀ x,foldedSetIterable iter X.env x=pure x:=by intro _;rfl) :
  E3 X (.ListComp elt [⟨tg,iter,ifs,0⟩] scope pos) (lc3 wi g tif te m):=
 UZ (qmV (g:=lG X.K g) (tif:=lT X.K tif) (te:=lE X.K te) hc hi hg hf he hsc hcap hs) λσ H Q ⟨τ,G,q,rl,h,af⟩=>by
  refine ⟨τ,G,_,rl,h,λitems stay G1 h1 J H1 hr1 k1 ok D hD=>?_⟩;have gD:G1 D=none:=hr1.free hD;refine ⟨λi n σ' H'=>n=items.length-i/\i<=items.length/\∃ τ' G' ys vs,Rel X.K τ' G' σ' H'/\Kp G1 H1 G' H'/\H' D=some (.lst vs)/\Rps X.K H' ys vs/\G' D=none/\WR stay g tif te q (items.drop i) ys τ' G',
   ⟨_,rfl,Nat.zero_le _,cap m τ,G1,[],[],((rl.next hr1 k1).cap m).next (hr1.laid hD) (Kp.laid hD),Kp.laid hD,zg,.nil,gD,by simpa using h1⟩,?_⟩
  rintro i n σ' H' ⟨rfl,hi,τ',G',ys,vs,rl',k',hDl,rys,gD',h'⟩;by_cases hlt:i<items.length
  ·rw [List.drop_eq_getElem_cons hlt] at h';obtain ⟨hst,h'⟩:=h';obtain ⟨go,yld,_⟩:=ok G' H' rl'.hp k' hst;have hx:items[i]?=some items[i]:=getElem?_eq_getElem hlt;refine .inr ⟨go i _ hx,λv H2 y=>?_⟩;obtain ⟨rv,hr2,k2⟩:=yld i _ v H2 hx y;have nxt:∀ {τ4:St3} {G4:Gp} {σ4:L2.St} {H4:Hp} {ys4:List T} {vs4:List V},Rel X.K τ4 G4 σ4 H4->Kp G1 H1 G4 H4->H4 D=some (.lst vs4)->Rps X.K H4 ys4 vs4->G4 D=none->WR stay g tif te q (items.drop (i+1)) ys4 τ4 G4 ->
     ∃ n',n'<items.length-i/\(n'=items.length-(i+1)/\i+1<=items.length/\∃ τ' G' ys vs,Rel X.K τ' G' σ4 H4/\Kp G1 H1 G' H4/\H4 D=some (.lst vs)/\Rps X.K H4 ys vs/\G' D=none/\WR stay g tif te q (items.drop (i+1)) ys τ' G'):=
    λ{τ4 G4 σ4 H4 ys4 vs4} a b c d e f=>⟨_,by omega,rfl,hlt,τ4,G4,ys4,vs4,a,b,c,d,e,f⟩
   refine ⟨_,τ',G',_,rv,rl'.next hr2 k2,h',λτ3 G3 h3 σ3 H3 rl3 k3=>⟨τ3,G3,_,rl3,h3,λk G4 h4 H4 hr4 k4=>?_⟩⟩;have kk:=(k2.trans k3).trans k4;obtain ⟨hD4,gD4⟩:=kk D _ hDl gD';have rys4:=rys.keep rl'.hp kk;cases k with
   |false=>
    rw [if_neg Bool.false_ne_true] at h4;refine qmq ?_;exact nxt (rl3.next hr4 k4) (k'.trans kk) hD4 rys4 gD4 h4
   |true=>
    rw [if_pos rfl] at h4;refine qml ?_;refine ⟨τ3,G4,_,rl3.next hr4 k4,h4,λz G5 h5 w H5 rw5 hr5 k5=>?_⟩;obtain ⟨hD5,gD5⟩:=k5 D _ hD4 gD4;have rys5:=rys4.keep hr4 k5;exact ⟨vs,hD5,by rw [← rys.length];exact h5.1,nxt (((rl3.next hr4 k4).next hr5 k5).wrD hD5 gD5) (((k'.trans kk).trans k5).wrD hD) zg ((rys5.append (.cons rw5 .nil)).wrD hD5) gD5 h5.2⟩
  ·have e:i=items.length:=by omega
   subst e;rw [List.drop_length] at h';obtain ⟨_,_,stop⟩:=ok G' H' rl'.hp k' h'.1;refine .inl ⟨stop,af _ _ (h'.2 D gD') _ H' (.ref D) (λa o e=>?_) λa o e ga=>?_⟩
   ·by_cases ha:a=D
    ·subst ha;rw [qq] at e;cases e;exact ⟨vs,hDl,rys⟩
    ·rw [zS ha] at e;exact rl'.hp a o e
   ·obtain ⟨e1,g1⟩:=k1 a o e ga;obtain ⟨e2,g2⟩:=k' a o e1 g1;exact ⟨e2,by rw [zS (qF e1 hD)];exact g2⟩
end
structure Src (P:Program) (w:World) (it c:Addr) (St:Nat->Heap->Prop) (Has:Array Value->Heap->Prop):Prop where
 obj:∀ {k h},St k h->∃ o,h.get? it=some o/\∀ v,o.data≠.cell v
 keep:∀ {k h h'},St k h->(∀ o,h.get? it=some o->h'.get? it=some o)->St k h'
 hkeep:∀ {xs h h'},Has xs h->(∀ o,h.get? c=some o->h'.get? c=some o)->Has xs h'
 item:∀ {A:Around} {s:Shared} {k:Nat} {xs:Array Value} {x:Value} {Q:Value->Shared->Prop} {E:Value->Shared->Prop},St k s.heap->Has xs s.heap->xs[k]?=some x ->
  (∀ h',St (k+1) h'->Heap.SameBut it s.heap h'->Q x { s with heap:=h' })->wpAny (model P w) A (Builtin.SmallTypes.nextOf (.ref it)) Q E s
 done:∀ {A:Around} {s:Shared} {k:Nat} {xs:Array Value} {Q:Value->Shared->Prop} {E:Value->Shared->Prop},A.handled=none->St k s.heap->Has xs s.heap->xs[k]?=none ->
  (∀ h' e,Heap.ExtBut it s.heap h'->(∃ o,h'.get? e=some o/\o.cls=.type "StopIteration")->E (.ref e) { s with heap:=h' })->wpAny (model P w) A (Builtin.SmallTypes.nextOf (.ref it)) Q E s
def qb4 {P:Program} {w:World} (it l:Addr):Src P w it l (λk h=>h.IsListIter it l k) (λxs h=>h.IsList l xs) where
 obj:=λst=>let ⟨o,e,_,d⟩:=st;⟨o,e,λv z=>by rw [d] at z;cases z⟩
 keep:=λst k=>st.at λo e=>k o e
 hkeep:=λst k=>st.at λo e=>k o e
 item:=λst hl hx hQ=>wpAny_nextOf_list_item st hl hx hQ
 done:=λhh st hl hx hE=>wpAny_nextOf_list_end hh st hl hx hE
def MC {P:Program} {w:World} {A:Around} {s:Shared} {it t:Addr} {i:Nat} {its:Array Value} {x:Value} {Q:Value->Shared->Prop} {E:Value->Shared->Prop} (hit:s.heap.IsTupleIter it t i) (ht:s.heap.IsTuple t its) (hx:its[i]?=some x)
  (hQ:∀ h',h'.IsTupleIter it t (i+1)->Heap.SameBut it s.heap h'->Q x { s with heap:=h' }):wpAny (model P w) A (Builtin.SmallTypes.nextOf (.ref it)) Q E s:=by
 obtain ⟨o1,e1,c1,d1⟩:=id hit;obtain ⟨o2,e2,_,n2,d2⟩:=ht;unfold Builtin.SmallTypes.nextOf;refine wpAny_bind (wpAny_callSpecial?_slot (name:=Str.ofString "__next__") hit.typeIs F.slot_tuple_iterator_next (wpAny_call_entry F.slot_tuple_iterator_next hit.typeIs F.entry_tuple_iterator_next ?_ (F.args_tuple_iterator_next_1 _)));refine wpAny_bind (m:=field (.ref it) 0) (wpAny_field e1 d1 (x:=.ref t) rfl ?_);rw [if_neg (show ¬ ((Value.ref t==Value.none)=true) by exact Bool.false_ne_true)];refine wpAny_bind (m:=field (.ref it) 1) (wpAny_field e1 d1 (x:=.int i 0) rfl ?_);refine wpAny_bind (m:=seqItems? (.ref t)) (wpAny_seqItems e2 d2 ?_);simp only [Int.toNat_natCast,hx];refine wpAny_bind (wpAny_setField e1 d1 (by simp) (wpAny_pure ⟨x,rfl,wpAny_pure (hQ _ ⟨_,Heap.get?_update_self _ e1 (Obj.isFreed_of_fields (Obj.data_mapFields d1 _)),(Obj.cls_mapFields ..).trans c1,?_⟩ (Heap.SameBut.update ..))⟩));rw [Obj.data_mapFields d1];simp [rawInt]
def D9 {P:Program} {w:World} {A:Around} {s:Shared} {it t:Addr} {i:Nat} {its:Array Value} {Q:Value->Shared->Prop} {E:Value->Shared->Prop} (hh:A.handled=none) (hit:s.heap.IsTupleIter it t i) (ht:s.heap.IsTuple t its) (hx:its[i]?=none)
  (hE:∀ h' e,Heap.ExtBut it s.heap h'->(∃ o,h'.get? e=some o/\o.cls=.type "StopIteration")->E (.ref e) { s with heap:=h' }):wpAny (model P w) A (Builtin.SmallTypes.nextOf (.ref it)) Q E s:=by
 obtain ⟨o1,e1,c1,d1⟩:=id hit;obtain ⟨o2,e2,_,n2,d2⟩:=ht;unfold Builtin.SmallTypes.nextOf;refine wpAny_bind (wpAny_callSpecial?_slot (name:=Str.ofString "__next__") hit.typeIs F.slot_tuple_iterator_next (wpAny_call_entry F.slot_tuple_iterator_next hit.typeIs F.entry_tuple_iterator_next ?_ (F.args_tuple_iterator_next_1 _)));refine wpAny_bind (m:=field (.ref it) 0) (wpAny_field e1 d1 (x:=.ref t) rfl ?_);rw [if_neg (show ¬ ((Value.ref t==Value.none)=true) by exact Bool.false_ne_true)];refine wpAny_bind (m:=field (.ref it) 1) (wpAny_field e1 d1 (x:=.int i 0) rfl ?_);refine wpAny_bind (m:=seqItems? (.ref t)) (wpAny_seqItems e2 d2 ?_);simp only [Int.toNat_natCast,hx];refine wpAny_bind (wpAny_rule (wpAny_bind (wpAny_setField e1 d1 (by simp) ?_)));refine wpAny_bind (m:=newExc (.type "StopIteration") []) ?_;simp only [newExc,newTuple];refine wpAny_bind (wpAny_newObj_type ?_ (by size_fits));refine wpAny_bind (m:=firstArgMember _ _) (wpAny_of_eq (a:=Value.none) (by first|rfl|(simp only [firstArgMember]<;>rfl)) (wpAny_newObj_type ?_ (by size_fits)));simp only [raiseNew];refine wpAny_bind (wpAny_handled ?_)
 first|rw [show A.in1.handled=Option.none from hh]|rw [show A.handled=Option.none from hh]
 exact wpAny_bind (wpAny_pure (wpAny_throw (hE _ _ (((Heap.SameBut.update ..).extBut.push _).push _) ⟨_,Heap.get?_push_size _ rfl,rfl⟩)))
def qe8 {P:Program} {w:World} (it t:Addr):Src P w it t (λk h=>h.IsTupleIter it t k) (λxs h=>h.IsTuple t xs) where
 obj:=λst=>let ⟨o,e,_,d⟩:=st;⟨o,e,λv z=>by rw [d] at z;cases z⟩
 keep:=λst k=>st.at λo e=>k o e
 hkeep:=λst k=>st.at λo e=>k o e
 item:=λst hl hx hQ=>MC st hl hx hQ
 done:=λhh st hl hx hE=>D9 hh st hl hx hE
structure ZA (z ti to i1 i2 c1 c2:Addr):Prop where
 ne:([z,ti,to,i1,i2]:List Addr).Nodup
 a1:c1∉[z,to,i1,i2]
 a2:c2∉[z,to,i1,i2]
section
variable {P:Program} {w:World} {A:Around} {s:Shared} {z ti to i1 i2 c1 c2:Addr} {S1 S2:Nat->Heap->Prop} {H1 H2:Array Value->Heap->Prop} {k1 k2:Nat} {xs ys:Array Value} {x y a b:Value} {E:Value->Shared->Prop}
def qbV {Q:Value->Shared->Prop} (R1:Src P w i1 c1 S1 H1) (R2:Src P w i2 c2 S2 H2) (D:ZA z ti to i1 i2 c1 c2) (hz:IsZip s.heap z ti to .none) (hi:IsPair s.heap ti (.ref i1) (.ref i2)) (ho:IsPair s.heap to a b)
  (p1:S1 k1 s.heap) (p2:S2 k2 s.heap) (l1:H1 xs s.heap) (l2:H2 ys s.heap) (hx:xs[k1]?=some x) (hy:ys[k2]?=some y)
  (hQ:∀ h',IsZip h' z ti to (rawInt s.heap.objs.size)->IsPair h' to x y->S1 (k1+1) h'->S2 (k2+1) h'->IsPair h' s.heap.objs.size x y->(∀ c o,c∉[z,to,i1,i2]->s.heap.get? c=some o->h'.get? c=some o)->Q (.ref s.heap.objs.size) { s with heap:=h' }) :
  wpAny (model P w) A (Builtin.«zip.__next__» ⟨[.ref z],[]⟩) (λfin s'=>∃ v,fin=.done (.ret v)/\Q v s') E s:=by
 have ne:=D.ne;simp only [List.nodup_cons,mem_cons,not_mem_nil,not_or,or_false] at ne;obtain ⟨⟨n1,n2,n3,n4⟩,⟨n5,n6,n7⟩,⟨n8,n9⟩,n10,_⟩:=ne;have a1:=D.a1;have a2:=D.a2;simp only [mem_cons,not_mem_nil,not_or,or_false] at a1 a2;obtain ⟨q1,q2,q3,q4⟩:=a1;obtain ⟨r1,r2,r3,r4⟩:=a2;refine wpAny_bind (m:=field (.ref z) 2) (wpAny_field hz rfl (x:=.bool false) rfl ?_);refine wpAny_bind (m:=field (.ref z) 3) (wpAny_field hz rfl (x:=.ref ti) rfl ?_);refine wpAny_bind (wpAny_seqItems hi rfl ?_);refine wpAny_bind (m:=Builtin.SmallTypes.ownedTupleIsFree (.ref z)) ?_;unfold Builtin.SmallTypes.ownedTupleIsFree;refine wpAny_bind (wpAny_field hz rfl (x:=Value.none) rfl (wpAny_pure ?_));simp only [if_true];refine wpAny_bind (wpAny_rule (wpAny_bind (wpAny_field hz rfl (x:=.ref to) rfl (wpAny_bind (wpAny_setField_rec hz (by simp) λg1 z1 s1=>?_)))))
 replace z1:IsZip g1 z ti to Value.ellipsis:=z1
 refine wpAny_bind ?_;simp only [List.zipIdx_cons,List.zipIdx_nil,List.forIn_cons,List.forIn_nil];refine wpAny_bind (wpAny_bind (wpAny_onRaise (wpAny_bind (m:=Builtin.SmallTypes.nextOf (.ref i1)) ?_)));refine R1.item (R1.keep p1 λo e=>s1.extBut _ _ (Ne.symm n3) e) (R1.hkeep l1 λo e=>s1.extBut _ _ q1 e) hx λg2 p12 s2=>wpAny_pure ?_;have t2:IsPair g2 to a b:=s2.extBut _ _ n8 (s1.extBut _ _ (Ne.symm n2) ho);refine wpAny_bind (wpAny_seqItems t2 rfl (wpAny_bind (wpAny_updateSeq_pair t2 λg3 t3 s3=>?_)))
 replace t3:IsPair g3 to x b:=t3
 refine wpAny_bind (wpAny_letGo (wpAny_pure (wpAny_bind (wpAny_bind (wpAny_onRaise (wpAny_bind (m:=Builtin.SmallTypes.nextOf (.ref i2)) ?_))))));refine R2.item (R2.keep p2 λo e=>s3.extBut _ _ (Ne.symm n9) (s2.extBut _ _ (Ne.symm n10) (s1.extBut _ _ (Ne.symm n4) e))) (R2.hkeep l2 λo e=>s3.extBut _ _ r2 (s2.extBut _ _ r3 (s1.extBut _ _ r1 e))) hy λg4 p24 s4=>wpAny_pure ?_;have t4:IsPair g4 to x b:=s4.extBut _ _ n9 t3;refine wpAny_bind (wpAny_seqItems t4 rfl (wpAny_bind (wpAny_updateSeq_pair t4 λg5 t5 s5=>?_)))
 replace t5:IsPair g5 to x y:=t5
 refine wpAny_bind (wpAny_letGo (wpAny_pure (wpAny_pure (wpAny_bind (wpAny_seqItems t5 rfl (wpAny_bind (wpAny_newTuple ?_)))))));have sz:g5.objs.size=s.heap.objs.size:=by rw [s5.1,s4.1,s3.1,s2.1,s1.1]
 have z5:IsZip g5 z ti to Value.ellipsis:=s5.extBut _ _ n2 (s4.extBut _ _ n4 (s3.extBut _ _ n2 (s2.extBut _ _ n3 z1)));have kk:∀ c o,c∉[z,to,i1,i2]->s.heap.get? c=some o->g5.get? c=some o:=λc o hc e=>by
  simp only [mem_cons,not_mem_nil,not_or,or_false] at hc;exact s5.extBut _ _ hc.2.1 (s4.extBut _ _ hc.2.2.2 (s3.extBut _ _ hc.2.1 (s2.extBut _ _ hc.2.2.1 (s1.extBut _ _ hc.1 e))))
 have p15:S1 (k1+1) g5:=R1.keep p12 λo e=>s5.extBut _ _ (Ne.symm n8) (s4.extBut _ _ n10 (s3.extBut _ _ (Ne.symm n8) e));have p25:S2 (k2+1) g5:=R2.keep p24 λo e=>s5.extBut _ _ (Ne.symm n9) e;have zlt:z<g5.objs.size:=Heap.lt_size z5;refine wpAny_bind (m:=Builtin.SmallTypes.ownedTupleHandOut (.ref z) (.ref g5.objs.size)) ?_;unfold Builtin.SmallTypes.ownedTupleHandOut;have z6:IsZip (g5.push { cls:=.type "tuple",data:=.seq #[x,y] }) z ti to Value.ellipsis:=Heap.get?_push_of_some _ z5;refine wpAny_bind (wpAny_setField_rec z6 (by simp) λg7 z7 s7=>?_)
 replace z7:IsZip g7 z ti to (rawInt g5.objs.size):=z7
 refine wpAny_setField_rec z7 (by simp) λg8 z8 s8=>?_
 replace z8:IsZip g8 z ti to (rawInt g5.objs.size):=z8
 have up:∀ c o,c≠z->g5.get? c=some o->g8.get? c=some o:=λc o hc e=>s8.extBut _ _ hc (s7.extBut _ _ hc (Heap.get?_push_of_some _ e));have t8:IsPair g8 g5.objs.size x y:=s8.extBut _ _ (Nat.ne_of_gt zlt) (s7.extBut _ _ (Nat.ne_of_gt zlt) (Heap.get?_push_size _ rfl));rw [sz] at z8 t8;refine wpAny_pure ⟨_,rfl,?_⟩;show Q (Value.ref g5.objs.size) _;rw [sz];exact hQ g8 z8 (up _ _ (Ne.symm n2) t5) (R1.keep p15 λo e=>up _ o (Ne.symm n3) e) (R2.keep p25 λo e=>up _ o (Ne.symm n4) e) t8 λc o hc e=>up c o (λq=>hc (by simp [q])) (kk c o hc e)
def qgf {Q:Fin->Shared->Prop} (hh:A.handled=none) (R1:Src P w i1 c1 S1 H1) (R2:Src P w i2 c2 S2 H2) (D:ZA z ti to i1 i2 c1 c2) (hz:IsZip s.heap z ti to .none) (hi:IsPair s.heap ti (.ref i1) (.ref i2)) (ho:IsPair s.heap to a b)
  (p1:S1 k1 s.heap) (p2:S2 k2 s.heap) (l1:H1 xs s.heap) (l2:H2 ys s.heap) (hend:xs[k1]?=none\/ys[k2]?=none)
  (hE:∀ h' e,(∀ c o,c∉[z,to,i1,i2]->s.heap.get? c=some o->h'.get? c=some o)->(∃ o,h'.get? e=some o/\o.cls=.type "StopIteration")->E (.ref e) { s with heap:=h' }) :
  wpAny (model P w) A (Builtin.«zip.__next__» ⟨[.ref z],[]⟩) Q E s:=by
 have ne:=D.ne;simp only [List.nodup_cons,mem_cons,not_mem_nil,not_or,or_false] at ne;obtain ⟨⟨n1,n2,n3,n4⟩,⟨n5,n6,n7⟩,⟨n8,n9⟩,n10,_⟩:=ne;have a1:=D.a1;have a2:=D.a2;simp only [mem_cons,not_mem_nil,not_or,or_false] at a1 a2;obtain ⟨q1,q2,q3,q4⟩:=a1;obtain ⟨r1,r2,r3,r4⟩:=a2;refine wpAny_bind (m:=field (.ref z) 2) (wpAny_field hz rfl (x:=.bool false) rfl ?_);refine wpAny_bind (m:=field (.ref z) 3) (wpAny_field hz rfl (x:=.ref ti) rfl ?_);refine wpAny_bind (wpAny_seqItems hi rfl ?_);refine wpAny_bind (m:=Builtin.SmallTypes.ownedTupleIsFree (.ref z)) ?_;unfold Builtin.SmallTypes.ownedTupleIsFree;refine wpAny_bind (wpAny_field hz rfl (x:=Value.none) rfl (wpAny_pure ?_));simp only [if_true];refine wpAny_bind (wpAny_rule (wpAny_bind (wpAny_field hz rfl (x:=.ref to) rfl (wpAny_bind (wpAny_setField_rec hz (by simp) λg1 z1 s1=>?_)))))
 replace z1:IsZip g1 z ti to Value.ellipsis:=z1
 refine wpAny_bind ?_;simp only [List.zipIdx_cons,List.zipIdx_nil,List.forIn_cons,List.forIn_nil];refine wpAny_bind (wpAny_bind (wpAny_onRaise (wpAny_bind (m:=Builtin.SmallTypes.nextOf (.ref i1)) ?_)));cases hx:xs[k1]? with
 |none=>
  refine R1.done hh (R1.keep p1 λo e=>s1.extBut _ _ (Ne.symm n3) e) (R1.hkeep l1 λo e=>s1.extBut _ _ q1 e) hx λg2 e s2 ⟨oe,he,ce⟩=>?_;have z2:IsZip g2 z ti to Value.ellipsis:=s2 _ _ n3 z1;have ez:e≠z:=λq=>by subst q;rw [z2] at he;cases he;simp at ce
  refine wpAny_setField_rec z2 (by simp) λg3 _ s3=>hE g3 e (λc o hc q=>?_) ⟨oe,s3.extBut _ _ ez he,ce⟩;simp only [mem_cons,not_mem_nil,not_or,or_false] at hc;exact s3.extBut _ _ hc.1 (s2 _ _ hc.2.2.1 (s1.extBut _ _ hc.1 q))
 |some x=>
  have hy:ys[k2]?=none:=by rcases hend with q|q;rw [hx] at q;cases q;exact q
  refine R1.item (R1.keep p1 λo e=>s1.extBut _ _ (Ne.symm n3) e) (R1.hkeep l1 λo e=>s1.extBut _ _ q1 e) hx λg2 p12 s2=>wpAny_pure ?_;have t2:IsPair g2 to a b:=s2.extBut _ _ n8 (s1.extBut _ _ (Ne.symm n2) ho);refine wpAny_bind (wpAny_seqItems t2 rfl (wpAny_bind (wpAny_updateSeq_pair t2 λg3 t3 s3=>?_)));refine wpAny_bind (wpAny_letGo (wpAny_pure (wpAny_bind (wpAny_bind (wpAny_onRaise (wpAny_bind (m:=Builtin.SmallTypes.nextOf (.ref i2)) ?_))))));refine R2.done hh (R2.keep p2 λo e=>s3.extBut _ _ (Ne.symm n9) (s2.extBut _ _ (Ne.symm n10) (s1.extBut _ _ (Ne.symm n4) e))) (R2.hkeep l2 λo e=>s3.extBut _ _ r2 (s2.extBut _ _ r3 (s1.extBut _ _ r1 e))) hy λg4 e s4 ⟨oe,he,ce⟩=>?_;have z4:IsZip g4 z ti to Value.ellipsis:=s4 _ _ n4 (s3.extBut _ _ n2 (s2.extBut _ _ n3 z1));have ez:e≠z:=λq=>by subst q;rw [z4] at he;cases he;simp at ce
  refine wpAny_setField_rec z4 (by simp) λg5 _ s5=>hE g5 e (λc o hc q=>?_) ⟨oe,s5.extBut _ _ ez he,ce⟩;simp only [mem_cons,not_mem_nil,not_or,or_false] at hc;exact s5.extBut _ _ hc.1 (s4 _ _ hc.2.2.2 (s3.extBut _ _ hc.2.1 (s2.extBut _ _ hc.2.2.1 (s1.extBut _ _ hc.1 q))))
end
abbrev qmB (b:Bool):String:=if b then "list_iterator" else "tuple_iterator"
abbrev zY (b:Bool) (c:Addr):Obj:={ cls:=.type (qmB b),data:=.fields #[.ref c,.int 0 0] }
def qlH (b:Bool) (it c:Addr) (k:Nat) (h:Heap):Prop:=match b with|true=>h.IsListIter it c k|false=>h.IsTupleIter it c k
def MX (b:Bool) (c:Addr) (xs:Array Value) (h:Heap):Prop:=match b with|true=>h.IsList c xs|false=>h.IsTuple c xs
def ZY {P:Program} {w:World} (b:Bool) (it c:Addr):Src P w it c (qlH b it c) (MX b c):=by
 cases b
 ·exact qe8 it c
 ·exact qb4 it c
def NH {P:Program} {w:World} {A:Around} {s:Shared} {b:Bool} {c:Addr} {xs:Array Value} {Q:Value->Shared->Prop} {E:Value->Shared->Prop} (h:MX b c xs s.heap) (q:Q (.ref s.heap.objs.size) { s with heap:=s.heap.push (zY b c) }) :
  wpAny (model P w) A (pyIter (.ref c)) Q E s:=by
 cases b
 ·exact wpAny_pyIter_tuple (show s.heap.IsTuple c xs from h) q
 ·exact wpAny_pyIter_list (show s.heap.IsList c xs from h) q
def qaS {b:Bool} {c:Addr} {xs:Array Value} {h:Heap} {o:Obj} (q:MX b c xs h):MX b c xs (h.push o):=by
 cases b
 ·exact (show h.IsTuple c xs from q).at λ_ e=>Heap.get?_push_of_some _ e
 ·exact (show h.IsList c xs from q).at λ_ e=>Heap.get?_push_of_some _ e
abbrev zh1 (h:Heap) (o1:Obj):Heap:=h.push o1
abbrev zh2 (h:Heap) (o1 o2:Obj):Heap:=(zh1 h o1).push o2
abbrev zh3 (h:Heap) (o1 o2:Obj):Heap:=(zh2 h o1 o2).push { cls:=.type "tuple",data:=.seq #[.ref h.objs.size,.ref (zh1 h o1).objs.size] }
abbrev zh4 (h:Heap) (o1 o2:Obj):Heap:=(zh3 h o1 o2).push { cls:=.type "tuple",data:=.seq #[.none,.none] }
abbrev zh5 (h:Heap) (o1 o2:Obj):Heap:=(zh4 h o1 o2).push { cls:=.type "zip",data:=.fields #[.none,.bool false,.bool false,.ref (zh2 h o1 o2).objs.size,.ref (zh3 h o1 o2).objs.size] }
def qad (c1 c2:Addr) (o1 o2:Obj) :
  Meets (Builtin.«zip.__new__» ⟨[.type "zip",.ref c1,.ref c2],[]⟩) (λ_ R s=>
   (∀ (P:Program) (w:World) (A:Around) (Q:Value->Shared->Prop) (E:Value->Shared->Prop),Q (.ref s.heap.objs.size) { s with heap:=zh1 s.heap o1 }->wpAny (model P w) A (pyIter (.ref c1)) Q E s) /\
   (∀ (P:Program) (w:World) (A:Around) (Q:Value->Shared->Prop) (E:Value->Shared->Prop),Q (.ref (zh1 s.heap o1).objs.size) { s with heap:=zh2 s.heap o1 o2 }->wpAny (model P w) A (pyIter (.ref c2)) Q E { s with heap:=zh1 s.heap o1 }) /\
   R (.ok (.ret (.ref (zh4 s.heap o1 o2).objs.size))) { s with heap:=zh5 s.heap o1 o2 }):=
 .of_wp λprog w A R s h=>by
  obtain ⟨hp,g,d,tk,os⟩:=s;obtain ⟨h1,h2,h⟩:=h;have hsub:=sub_zip;have k1:=λA Q E=>h1 prog w A Q E;have k2:=λA Q E=>h2 prog w A Q E
  wp_walk using k1 _ _ _,k2 _ _ _
  exact ⟨_,rfl,h⟩
def qbv (b1 b2:Bool) (z ti to i1 i2 c1 c2:Addr) (k:Nat) (h:Heap):Prop:=
 IsZip h z ti to .none/\IsPair h ti (.ref i1) (.ref i2)/\(∃ a b,IsPair h to a b)/\qlH b1 i1 c1 k h/\qlH b2 i2 c2 k h
section
variable {P:Program} {w:World} {A:Around} {s:Shared} {E:Value->Shared->Prop}
def qb8 {b1 b2:Bool} {c1 c2:Addr} {xs ys:Array Value} {Q:Value->Shared->Prop} (h1:MX b1 c1 xs s.heap) (h2:MX b2 c2 ys s.heap)
  (q:∀ h',qbv b1 b2 (s.heap.objs.size+4) (s.heap.objs.size+2) (s.heap.objs.size+3) s.heap.objs.size (s.heap.objs.size+1) c1 c2 0 h'->(∀ c o,s.heap.get? c=some o->h'.get? c=some o)->Q (.ref (s.heap.objs.size+4)) { s with heap:=h' }) :
  wpAny (model P w) A (call (.type "zip") [.ref c1,.ref c2]) Q E s:=by
 refine callType_new F.called_zip (by decide) (F.typeCall_zip_2 _ _) (F.newCall_zip_2 _ _) (λobj=>F.args_object_init_3 obj _ _) F.entry_zip_new
  (qad c1 c2 (zY b1 c1) (zY b2 c2)) ⟨λP w A Q E q=>NH h1 q,λP w A Q E q=>NH (s:={ s with heap:=zh1 s.heap (zY b1 c1) }) (qaS h2) q,?_⟩
 have e1:(zh1 s.heap (zY b1 c1)).objs.size=s.heap.objs.size+1:=Heap.size_push ..;have e2:(zh2 s.heap (zY b1 c1) (zY b2 c2)).objs.size=s.heap.objs.size+2:=by rw [Heap.size_push,e1]
 have e3:(zh3 s.heap (zY b1 c1) (zY b2 c2)).objs.size=s.heap.objs.size+3:=by rw [Heap.size_push,e2]
 have e4:(zh4 s.heap (zY b1 c1) (zY b2 c2)).objs.size=s.heap.objs.size+4:=by rw [Heap.size_push,e3]
 have g5:(zh5 s.heap (zY b1 c1) (zY b2 c2)).get? (zh4 s.heap (zY b1 c1) (zY b2 c2)).objs.size=some _:=Heap.get?_push_size _ rfl;have g4:(zh5 s.heap (zY b1 c1) (zY b2 c2)).get? (zh3 s.heap (zY b1 c1) (zY b2 c2)).objs.size=some _:=Heap.get?_push_of_some _ (Heap.get?_push_size _ rfl);have g3:(zh5 s.heap (zY b1 c1) (zY b2 c2)).get? (zh2 s.heap (zY b1 c1) (zY b2 c2)).objs.size=some _:=Heap.get?_push_of_some _ (Heap.get?_push_of_some _ (Heap.get?_push_size _ rfl));have g2:(zh5 s.heap (zY b1 c1) (zY b2 c2)).get? (zh1 s.heap (zY b1 c1)).objs.size=some (zY b2 c2):=Heap.get?_push_of_some _ (Heap.get?_push_of_some _ (Heap.get?_push_of_some _ (Heap.get?_push_size _ rfl)));have g1:(zh5 s.heap (zY b1 c1) (zY b2 c2)).get? s.heap.objs.size=some (zY b1 c1):=Heap.get?_push_of_some _ (Heap.get?_push_of_some _ (Heap.get?_push_of_some _ (Heap.get?_push_of_some _ (Heap.get?_push_size _ rfl))));show _/\_;rw [e2,e3,e4] at g5;rw [e1,e2] at g3;rw [e3] at g4;rw [e1] at g2;rw [e4];refine ⟨⟨_,g5,rfl⟩,q _ ⟨g5,g3,⟨_,_,g4⟩,?_,?_⟩ λc o e=>Heap.get?_push_of_some _ (Heap.get?_push_of_some _ (Heap.get?_push_of_some _ (Heap.get?_push_of_some _ (Heap.get?_push_of_some _ e))))⟩
 ·cases b1<;>exact ⟨_,g1,rfl,rfl⟩
 ·cases b2<;>exact ⟨_,g2,rfl,rfl⟩
def qb5 {b1 b2:Bool} {z ti to i1 i2 c1 c2:Addr} {k:Nat} {xs ys:Array Value} {x y:Value} {Q:Option Value->Shared->Prop} (D:ZA z ti to i1 i2 c1 c2) (st:qbv b1 b2 z ti to i1 i2 c1 c2 k s.heap) (l1:MX b1 c1 xs s.heap) (l2:MX b2 c2 ys s.heap) (hx:xs[k]?=some x) (hy:ys[k]?=some y)
  (hQ:∀ h',IsZip h' z ti to (rawInt s.heap.objs.size)->IsPair h' ti (.ref i1) (.ref i2)->(∃ a b,IsPair h' to a b)->qlH b1 i1 c1 (k+1) h'->qlH b2 i2 c2 (k+1) h'->IsPair h' s.heap.objs.size x y->(∀ c o,c∉[z,to,i1,i2]->s.heap.get? c=some o->h'.get? c=some o)->Q (some (.ref s.heap.objs.size)) { s with heap:=h' }) :
  wpAny (model P w) A (pyNext (.ref z)) Q E s:=by
 obtain ⟨hz,hi,⟨a,b,ho⟩,p1,p2⟩:=st;have ty:s.TypeIs (.ref z) "zip" := ⟨_,hz,rfl⟩
 have nti:ti∉[z,to,i1,i2]:=by
  have ne:=D.ne;simp only [List.nodup_cons,mem_cons,not_mem_nil,not_or,or_false] at ne ⊢;exact ⟨Ne.symm ne.1.1,ne.2.1.1,ne.2.1.2.1,ne.2.1.2.2⟩
 unfold pyNext;exact wpAny_bind (wpAny_attempt (wpAny_callSpecial?_slot (name:=Str.ofString "__next__") ty F.slot_zip_next (wpAny_call_entry F.slot_zip_next ty F.entry_zip_next
  (qbV (ZY b1 i1 c1) (ZY b2 i2 c2) D hz hi ho p1 p2 l1 l2 hx hy λh' u1 u2 u3 u4 u5 u6=>wpAny_pure (hQ h' u1 (u6 _ _ nti hi) ⟨_,_,u2⟩ u3 u4 u5 u6)) (F.args_zip_next_1 _))))
def C6 {b1 b2:Bool} {z ti to i1 i2 c1 c2:Addr} {k:Nat} {xs ys:Array Value} {Q:Option Value->Shared->Prop} (hh:A.handled=none) (D:ZA z ti to i1 i2 c1 c2) (st:qbv b1 b2 z ti to i1 i2 c1 c2 k s.heap) (l1:MX b1 c1 xs s.heap) (l2:MX b2 c2 ys s.heap) (hend:xs[k]?=none\/ys[k]?=none)
  (hQ:∀ h',(∀ c o,c∉[z,to,i1,i2]->s.heap.get? c=some o->h'.get? c=some o)->Q none { s with heap:=h' }):wpAny (model P w) A (pyNext (.ref z)) Q E s:=by
 obtain ⟨hz,hi,⟨a,b,ho⟩,p1,p2⟩:=st;have ty:s.TypeIs (.ref z) "zip" := ⟨_,hz,rfl⟩
 unfold pyNext;refine wpAny_bind (wpAny_attempt (wpAny_callSpecial?_slot (name:=Str.ofString "__next__") ty F.slot_zip_next (wpAny_call_entry F.slot_zip_next ty F.entry_zip_next
  (qgf hh (ZY b1 i1 c1) (ZY b2 i2 c2) D hz hi ho p1 p2 l1 l2 hend λh' e hk ⟨o,q1,q2⟩=>?_) (F.args_zip_next_1 _))))
 exact wpAny_bind (wpAny_isInstance (T:="StopIteration") (b:=true) ⟨o,q1,q2⟩ isSubtype_stop (wpAny_pure (hQ _ hk)))
end
def SqB (K:Frg) (b:Bool) (H:Hp) (a:Addr) (xs:List V):Prop:=match b with|true=>SqL K H a xs|false=>SqT K H a xs
def SqB.get {X:Cx} {pins:List (Addr×Obj)} {σ:L2.St} {H:Hp} {s:Shared} {b:Bool} {a:Addr} {xs:List V} (I:Inv X pins σ H s) (h:SqB X.K b H a xs):∃ its:List Value,zQ xs its/\MX b a its.toArray s.heap/\xs.length<=sizeLine:=by
 cases b
 ·obtain ⟨its,r,p,hz⟩:=I.tuple (show SqT X.K H a xs from h);exact ⟨its,r,(show s.heap.IsTuple a its.toArray from p),hz⟩
 ·obtain ⟨its,r,p,hz⟩:=I.list (show SqL X.K H a xs from h);exact ⟨its,r,p.isList,hz⟩
def SqB.inj {X:Cx} {pins:List (Addr×Obj)} {σ:L2.St} {H:Hp} {s:Shared} {b:Bool} {a:Addr} {xs ys:List V} (I:Inv X pins σ H s) (h:SqB X.K b H a xs) (h':SqB X.K b H a ys):xs=ys:=by
 cases b
 ·exact I.tuple_inj h h'
 ·exact I.list_inj h h'
def Itz (K:Frg) (b1 b2:Bool) (c1 c2:Addr):It:=
  ⟨λi H=>∃ xs ys x y,SqB K b1 H c1 xs/\SqB K b2 H c2 ys/\xs[i]?=some x/\ys[i]?=some y,
   λi H v H'=>∃ p x y,H p=none/\v=.ref p/\H'=upd H p (.tup [x,y])/\(∀ xs,SqB K b1 H c1 xs->xs[i]?=some x)/\(∀ ys,SqB K b2 H c2 ys->ys[i]?=some y),
   λi H=>∃ xs ys,SqB K b1 H c1 xs/\SqB K b2 H c2 ys/\(xs.length<=i\/ys.length<=i)⟩
def qk8 {b:Bool} {c:Addr} {xs:Array Value} {h:Heap} (q:MX b c xs h):c<h.objs.size:=by
 cases b
 ·obtain ⟨o,e,_⟩:=(show h.IsTuple c xs from q);exact Heap.lt_size e
 ·obtain ⟨o,e,_⟩:=(show h.IsList c xs from q);exact Heap.lt_size e
def qby {P:Program} {w:World} {K:Frg} {es:List Expr} {k1:Nat} {pt:Pos} {b1 b2:Bool} {z ti to i1 i2 c1 c2:Addr} (D:ZA z ti to i1 i2 c1 c2):Turn P w K (.Tuple es k1 pt) (Itz K b1 b2 c1 c2) [z,ti,to,i1,i2] z (qbv b1 b2 z ti to i1 i2 c1 c2) where
 mem:=by simp
 obj:=λi h ⟨hz,hi,⟨a,b,ho⟩,p1,p2⟩ c hc=>by
  simp only [mem_cons,not_mem_nil,or_false] at hc;rcases hc with rfl|rfl|rfl|rfl|rfl
  ·exact ⟨_,hz,λv q=>by cases q⟩
  ·exact ⟨_,hi,λv q=>by cases q⟩
  ·exact ⟨_,ho,λv q=>by cases q⟩
  ·exact (ZY (P:=P) (w:=w) b1 c c1).obj p1
  ·exact (ZY (P:=P) (w:=w) b2 c c2).obj p2
 keep:=λi h h' ⟨hz,hi,⟨a,b,ho⟩,p1,p2⟩ k=>
  ⟨k z (by simp) _ hz,k ti (by simp) _ hi,⟨a,b,k to (by simp) _ ho⟩,(ZY (P:=P) (w:=w) b1 i1 c1).keep p1 λo e=>k i1 (by simp) o e,(ZY (P:=P) (w:=w) b2 i2 c2).keep p2 λo e=>k i2 (by simp) o e⟩
 item:=by
  intro X hP hw hK hc i pins s σ H E I hf st hg;subst hP hw hK;obtain ⟨xs,ys,x,y,sq1,sq2,hx,hy⟩:=hg;obtain ⟨its1,rv1,l1,z1⟩:=sq1.get I;obtain ⟨its2,rv2,l2,z2⟩:=sq2.get I;obtain ⟨u1,hu1,ru1⟩:=rv1.get hx;obtain ⟨u2,hu2,ru2⟩:=rv2.get hy;refine qb5 D st l1 l2 (x:=u1) (y:=u2) (by simpa using hu1) (by simpa using hu2) λh' hz hi ho p1 p2 hp hk=>?_;have hfr:H s.heap.objs.size=none:=I.fresh;have free:∀ b∈[z,ti,to,i1,i2],H b=none:=λb hb=>(hf b hb).1;refine ⟨_,rfl,wpAny_letOwnedTupleGo_zip hz λh2 hz2 s2=>?_⟩;have zlt:z<s.heap.objs.size:=Heap.lt_size st.1;have hp2:IsPair h2 s.heap.objs.size u1 u2:=(s2.2 _ (Nat.ne_of_gt zlt)).trans hp;have ne:=D.ne;simp only [List.nodup_cons,mem_cons,not_mem_nil,not_or,or_false] at ne;have up:∀ c o,c≠z->h'.get? c=some o->h2.get? c=some o:=λc o hc e=>(s2.2 c hc).trans e;have kk:∀ c o,c∉[z,to,i1,i2]->s.heap.get? c=some o->h2.get? c=some o:=λc o hc e=>up c o (λq=>hc (by simp [q])) (hk c o hc e);have I3:Inv X pins σ (upd H s.heap.objs.size (.tup [x,y])) { s with heap:=h2 }:=by
   refine I.step (g':=s.gens) (d':=s.drawn) (t':=s.toks) (ch:=[z,to,i1,i2]) (λb hb=>?_) (λb o _ _ hcb e _=>kk b o hcb e) (λb o _ _ hcb e _=>⟨o.slots,kk b o hcb e⟩) (λb o _ e n=>by rw [qz (Nat.ne_of_lt (Heap.lt_size e))];exact n) (λb o hcb e=>⟨o,kk b o hcb e⟩)
    (λb _ e=>by rw [qz (qF e hfr)];exact e) (λb _ _ e=>by rw [qz (qF e hfr)];exact e) (λb ps e=>⟨#[],by rw [qz (qF e hfr),e];simp⟩) (λm hm=>?_) (λb u e=>?_) I.bare
   ·obtain ⟨f0,f1,f2,f3,f4,f5⟩:=hf b (by simp only [mem_cons,not_mem_nil,or_false] at hb ⊢;rcases hb with q|q|q|q<;>simp [q]);exact ⟨f3,f1,f4,f5⟩
   ·obtain ⟨o,es',ep,ho',r⟩:=hm;refine ⟨o,es',ep,kk _ o (λq=>?_) ho',r⟩;obtain ⟨f0,f1,_⟩:=hf X.env.locals (by simp only [mem_cons,not_mem_nil,or_false] at q ⊢;rcases q with q|q|q|q<;>simp [q]);exact f1 rfl
   ·by_cases hb:b=s.heap.objs.size
    ·subst hb;rw [zg] at e;cases e;exact ⟨by show 2<=sizeLine;decide,[u1,u2],.cons ru1 (.cons ru2 .nil),⟨_,hp2,rfl,_,rfl⟩⟩
    ·rw [qz hb] at e;refine (I.hok b u e).stay (λc v hcb q=>kk c v (λm=>?_) q) (λ_ q=>by rw [qz (qF q hfr)];exact q) λ_ _ q=>by rw [qz (qF q hfr)];exact q
     have hn:=free c (by simp only [mem_cons,not_mem_nil,or_false] at m ⊢;rcases m with q|q|q|q<;>simp [q]);rcases hcb with q|q
     ·rw [q] at hn;rw [hn] at e;cases e
     ·rw [hn] at q;cases q
  refine ⟨.ref s.heap.objs.size,_,I3,rfl,⟨_,x,y,hfr,rfl,rfl,λzs q=>by rw [q.inj I sq1];exact hx,λzs q=>by rw [q.inj I sq2];exact hy⟩,⟨hz2,up _ _ (Ne.symm ne.1.1) hi,let ⟨a,b,q⟩:=ho;⟨a,b,up _ _ (Ne.symm ne.1.2.1) q⟩,(ZY (P:=X.prog) (w:=X.w) b1 i1 c1).keep p1 λo e=>up _ o (Ne.symm ne.1.2.2.1) e,(ZY (P:=X.prog) (w:=X.w) b2 i2 c2).keep p2 λo e=>up _ o (Ne.symm ne.1.2.2.2) e⟩,λb hb=>?_⟩;rw [qz (λq=>?_)]
  ·exact free b hb
  ·subst q;obtain ⟨hz0,hi0,⟨a0,b0,ho0⟩,q1,q2⟩:=st;simp only [mem_cons,not_mem_nil,or_false] at hb;rcases hb with q|q|q|q|q
   ·exact absurd q (Nat.ne_of_gt zlt)
   ·exact absurd q (Nat.ne_of_gt (Heap.lt_size hi0))
   ·exact absurd q (Nat.ne_of_gt (Heap.lt_size ho0))
   ·obtain ⟨o,e,_⟩:=(ZY (P:=X.prog) (w:=X.w) b1 i1 c1).obj q1;exact absurd q (Nat.ne_of_gt (Heap.lt_size e))
   ·obtain ⟨o,e,_⟩:=(ZY (P:=X.prog) (w:=X.w) b2 i2 c2).obj q2;exact absurd q (Nat.ne_of_gt (Heap.lt_size e))
 done:=by
  intro X hP hw hK hc i pins s σ H E I hf st hg;subst hP hw hK;obtain ⟨xs,ys,sq1,sq2,hend⟩:=hg;obtain ⟨its1,rv1,l1,z1⟩:=sq1.get I;obtain ⟨its2,rv2,l2,z2⟩:=sq2.get I;have e1:=rv1.length;have e2:=rv2.length;refine C6 (I.ok.hd hc) D st l1 l2 (by rcases hend with q|q;exact .inl (by simp;omega);exact .inr (by simp;omega)) λh' hk=>⟨rfl,?_⟩
  have free:∀ b∈[z,ti,to,i1,i2],H b=none:=λb hb=>(hf b hb).1;refine I.step (g':=s.gens) (d':=s.drawn) (t':=s.toks) (ch:=[z,to,i1,i2]) (λb hb=>?_) (λb o _ _ hcb e _=>hk b o hcb e) (λb o _ _ hcb e _=>⟨o.slots,hk b o hcb e⟩) (λ_ _ _ _ n=>n) (λb o hcb e=>⟨o,hk b o hcb e⟩) (λ_ _ e=>e) (λ_ _ _ e=>e) (λb ps e=>⟨#[],by rw [e];simp⟩) (λm hm=>?_) (λb u e=>?_) I.bare
  ·obtain ⟨f0,f1,f2,f3,f4,f5⟩:=hf b (by simp only [mem_cons,not_mem_nil,or_false] at hb ⊢;rcases hb with q|q|q|q<;>simp [q]);exact ⟨f3,f1,f4,f5⟩
  ·obtain ⟨o,es',ep,ho',r⟩:=hm;refine ⟨o,es',ep,hk _ o (λq=>?_) ho',r⟩;obtain ⟨f0,f1,_⟩:=hf X.env.locals (by simp only [mem_cons,not_mem_nil,or_false] at q ⊢;rcases q with q|q|q|q<;>simp [q]);exact f1 rfl
  ·refine (I.hok b u e).stay (λc v hcb q=>hk c v (λm=>?_) q) (λ_ q=>q) λ_ _ q=>q;have hn:=free c (by simp only [mem_cons,not_mem_nil,or_false] at m ⊢;rcases m with q|q|q|q<;>simp [q]);rcases hcb with q|q
   ·rw [q] at hn;rw [hn] at e;cases e
   ·rw [hn] at q;cases q
 self:=λA i s Q E st h=>wpAny_pyIter_zip st.1 h
def qkC {n c1 c2:Addr} (h1:c1<n) (h2:c2<n):ZA (n+4) (n+2) (n+3) n (n+1) c1 c2:=by
 have k:∀ n c:Nat,c<n->c≠n+4/\c≠n+3/\c≠n/\c≠n+1:=λn c h=>by omega
 have d:∀ n:Nat,(([n+4,n+2,n+3,n,n+1]:List Nat)).Nodup:=λn=>by
  simp only [List.nodup_cons,mem_cons,not_mem_nil,not_or,or_false,List.nodup_nil,and_true,not_false_eq_true];omega
 refine ⟨d n,?_,?_⟩
 ·simp only [mem_cons,not_mem_nil,not_or,or_false];exact k n c1 h1
 ·simp only [mem_cons,not_mem_nil,not_or,or_false];exact k n c2 h2
section
variable {X:Cx} {a b e l:Expr} {es:List Expr} {pos:Pos}
def qkg {p pt:Pos} {k1:Nat} {ta:TA} (hg:Gl X "zip") (hm:X.mg "zip" = none) (ha:PA X [a,b] ta) (hs:starEach [a,b] X.env=[(false,eval a X.env),(false,eval b X.env)]:=by rfl) (hs2:starEach [b] X.env=[(false,eval b X.env)]:=by rfl) :
  PI X (.Tuple es k1 pt) (.Call (.Name "zip" p) [a,b] [] pos) (λσ H R=>ta σ H λvs H1=>∃ b1 b2 c1 c2 xs ys,vs=[.ref c1,.ref c2]/\SqB X.K b1 H1 c1 xs/\SqB X.K b2 H1 c2 ys/\R (Itz X.K b1 b2 c1 c2) H1):=by
 intro pins s σ H R I h;refine Call_ (WW I hg hm PyProof.Rows.boot_zip (PyProof.Rows.callWith_type1 (thn (ha pos pins s σ H _ I h) λus s1 ⟨vs,H1,I1,r1,q1⟩=>?_) (by rw [hs,hs2]) (by rw [hs2];rfl)));obtain ⟨b1,b2,c1,c2,xs,ys,rfl,sq1,sq2,q⟩:=q1;obtain ⟨u1,u2,rfl,e1,e2⟩:=N6 r1;cases (show u1=Value.ref c1 from e1);cases (show u2=Value.ref c2 from e2);obtain ⟨its1,rv1,l1,z1⟩:=sq1.get I1;obtain ⟨its2,rv2,l2,z2⟩:=sq2.get I1;refine qb8 l1 l2 λh' st hk=>wpAny_pyIter_zip st.1 ?_;refine ⟨s1.heap.objs.size+4,[s1.heap.objs.size+4,s1.heap.objs.size+2,s1.heap.objs.size+3,s1.heap.objs.size,s1.heap.objs.size+1],_,_,H1,rfl,I1.kept (t':=s1.toks) hk,qby (qkC (qk8 l1) (qk8 l2)),st,λc hc=>?_,q⟩;have hle:s1.heap.objs.size<=c:=by
  simp only [mem_cons,not_mem_nil,or_false] at hc;rcases hc with rfl|rfl|rfl|rfl|rfl<;>first|exact Nat.le_refl _|exact Nat.le_add_right _ _
 exact I1.fpOk hle (I1.hok.fresh hle)
end
def YK (G:Gp):T->Option (List T)
 |.tup xs=>some xs
 |.ref p=>zG G p
 |_=>none
def qeS {K:Frg} {G0:Gp} {H0:Hp} {x:T} {v:V} {us:List T} (hr0:HR K G0 H0) (rx:Rp K H0 x v) (h:YK G0 x=some us) :
  ∃ b c,v=.ref c/\∀ G H,HR K G H->Kp G0 H0 G H->YK G x=some us->∃ vs,SqB K b H c vs/\Rps K H us vs:=by
 cases rx with
 |tup hs rs=>
  cases h;exact ⟨false,_,rfl,λG H hr k _=>⟨_,(XQ hr0 k hs:SqT K H _ _),rs.keep hr0 k⟩⟩
 |ref a=>exact ⟨true,a,rfl,λG H hr k hq=>let ⟨vs,h1,h2⟩:=zE hr (show zG G a=some us from hq);⟨vs,h1,h2⟩⟩
 |_=>cases h
def qbj (us vs:List T):List T:=(us.zip vs).map λp=>.tup [p.1,p.2]
def KZ {us vs:List T} {i:Nat} {x:T} (h:(qbj us vs)[i]?=some x):∃ a b,us[i]?=some a/\vs[i]?=some b/\x=.tup [a,b]:=by
 unfold qbj at h;rw [getElem?_map] at h;cases e:(us.zip vs)[i]? with
 |none=>rw [e] at h;cases h
 |some p=>
  rw [e] at h;have:=List.getElem?_zip_eq_some.mp e;exact ⟨p.1,p.2,this.1,this.2,by simpa using h.symm⟩
def qiw {K:Frg} {b1 b2:Bool} {c1 c2:Addr} {x y:T} {us vs:List T} {G0:Gp} {H0:Hp}
  (f1:∀ G H,HR K G H->Kp G0 H0 G H->YK G x=some us->∃ vs,SqB K b1 H c1 vs/\Rps K H us vs) (f2:∀ G H,HR K G H->Kp G0 H0 G H->YK G y=some vs->∃ ws,SqB K b2 H c2 ws/\Rps K H vs ws) :
  qke K (Itz K b1 b2 c1 c2) (qbj us vs) (λG=>YK G x=some us/\YK G y=some vs) G0 H0:=by
 intro G H hr k ⟨h1,h2⟩;obtain ⟨p,sp,rp⟩:=f1 G H hr k h1;obtain ⟨q,sq,rq⟩:=f2 G H hr k h2;refine ⟨λi z hz=>?_,λi z v H' hz hy=>?_,⟨p,q,sp,sq,?_⟩⟩
 ·obtain ⟨a,b,ha,hb,_⟩:=KZ hz;obtain ⟨v,hv,_⟩:=rp.get ha;obtain ⟨w,hw,_⟩:=rq.get hb;exact ⟨p,q,v,w,sp,sq,hv,hw⟩
 ·obtain ⟨a,b,ha,hb,rfl⟩:=KZ hz;obtain ⟨t,v1,v2,ht,rfl,rfl,g1,g2⟩:=hy;obtain ⟨v,hv,rv⟩:=rp.get ha;obtain ⟨w,hw,rw'⟩:=rq.get hb;have e1:=(g1 p sp).symm.trans hv;have e2:=(g2 q sq).symm.trans hw;obtain rfl:v1=v:=Option.some.inj e1;obtain rfl:v2=w:=Option.some.inj e2;have kk:Kp G H G (upd H t (.tup [v1,v2])):=Kp.laid ht;exact ⟨.tup (SqT.of zg) (.cons (rv.keep hr kk) (.cons (rw'.keep hr kk) .nil)),hr.laid ht,kk⟩
 ·rw [← rp.length,← rq.length,show (qbj us vs).length=min us.length vs.length by simp [qbj]];omega
def qbD (ta:TA3):TI3:=λτ G r=>ta τ G λxs G1=>match xs with
 |[x,y]=>(match YK G1 x,YK G1 y with|some us,some vs=>r (qbj us vs) (λG=>YK G x=some us/\YK G y=some vs) G1|_,_=>False)
 |_=>False
section
variable {X:Cx} {a b e l:Expr} {es:List Expr} {pos:Pos} {t:TA3}
def qnG {p pt:Pos} {k1:Nat} (hg:Gl X "zip") (hm:X.mg "zip" = none) (ha:A3 X [a,b] t) (hs:starEach [a,b] X.env=[(false,eval a X.env),(false,eval b X.env)]:=by rfl) (hs2:starEach [b] X.env=[(false,eval b X.env)]:=by rfl) :
  I3 X (.Tuple es k1 pt) (.Call (.Name "zip" p) [a,b] [] pos) (qbD t):=
 ql8 (qkg hg hm ha hs hs2) λσ H R ⟨τ,G,r,rl,h,af⟩=>ZX rl h λxs G1 h1 vs H1 rs hr1 k1 rl1=>by
  split at h1
  ·rename_i x y;split at h1
   ·rename_i us ws e1 e2;obtain ⟨v,u,rfl,r1,r2⟩:=qmg rs;obtain ⟨b1,c1,rfl,f1⟩:=qeS hr1 r1 e1;obtain ⟨b2,c2,rfl,f2⟩:=qeS hr1 r2 e2;obtain ⟨p,sp,_⟩:=f1 G1 H1 hr1 Kp.refl e1;obtain ⟨q,sq,_⟩:=f2 G1 H1 hr1 Kp.refl e2;exact ⟨b1,b2,c1,c2,p,q,rfl,sp,sq,af _ _ G1 h1 _ H1 hr1 k1 (qiw f1 f2)⟩
   ·exact h1.elim
  ·exact h1.elim
def WM:List T->Gp->Q3->Prop:=λxs G q=>match xs with
 |[.ref p]=>(match zG G p with|some ys=>(match qgO ys with|some k=>q (.bl k) G|none=>False)|none=>False)
 |_=>False
def qaN {K:Frg} {H:Hp}:∀ {ys:List T} {vs:List V} {k:Bool},Rps K H ys vs->qgO ys=some k->∃ ks:List Bool,vs=ks.map V.bl/\ks.all id=k
 |_,_,_,.nil,h=>by cases h;exact ⟨[],rfl,rfl⟩
 |y::ys,_,k,.cons a b,h=>by
  unfold qgO at h;split at h
  ·rename_i e;cases e
  ·rename_i j r e;cases e;split at h
   ·rename_i i ei;obtain ⟨ks,rfl,hk⟩:=qaN b ei;cases a;cases h;exact ⟨j::ks,rfl,by rw [List.all_cons,hk];rfl⟩
   ·cases h
  ·cases h
def qba {K:Frg}:KI K WM (λxs H Q=>∃ (p:Addr) (ks:List Bool),xs=[.ref p]/\SqL K H p (ks.map V.bl)/\Q (.bl (ks.all id)) H):=λxs vs G H q Q hr rs h af=>by
 unfold WM at h;split at h
 ·rename_i p;obtain ⟨v,rfl,r⟩:=SM rs;cases r;split at h
  ·rename_i ys e0;split at h
   ·rename_i k e1;obtain ⟨us,hs,r2⟩:=zE hr e0;obtain ⟨ks,rfl,hk⟩:=qaN r2 e1;exact ⟨p,ks,rfl,hs,by rw [hk];exact af _ G h _ H (.bl _) hr Kp.refl⟩
   ·exact h.elim
  ·exact h.elim
 ·exact h.elim
end
def qor:Value->Bool
 |.type t=>t == "list"
 |_=>false
def V6:List (Addr×Obj)->Bool
 |[]=>true
 |p::r=>if qor p.2.cls then false else V6 r
def WQ:∀ {K:List (Addr×Obj)} {a:Addr} {o:Obj},V6 K=true->K.lookup a=some o->o.cls≠.type "list"
 |[],_,_,_,e=>by simp at e
 | (b,x)::r,a,o,h,e=>by
  unfold V6 at h;split at h
  ·cases h
  ·rename_i hx;rw [List.lookup_cons] at e;split at e
   ·cases e;intro z;rw [z] at hx;exact hx rfl
   ·exact WQ h e
def LW {K:Frg} {H:Hp} {a:Addr} {ns:List Int} (hK:V6 K=true) (hO:qmp H) (hS:SqL K H a (ns.map V.int)):∃ o,H a=some (.frz o (.lst (ns.map V.int))):=by
 rcases hS with (h|h)|⟨o,its,n,h1,h2,_⟩
 ·rcases hO a with z|⟨o,xs,z⟩<;>(rw [h] at z;cases z)
 ·exact h
 ·exact absurd h2 (WQ hK h1)
def only (a:Addr) (ns:List Int):Gp:=λb=>if b=a then some (.frz (ns.map T.int)) else none
def qfR {K:Frg} {H:Hp} {a:Addr} {ns:List Int} (h:∃ o,H a=some (.frz o (.lst (ns.map V.int)))):HR K (only a ns) H:=λb o e=>by
 unfold only at e;split at e
 ·rename_i hb;subst hb;cases e;exact ⟨_,h,Rps.ints ns⟩
 ·cases e
def WY:Sp3:=λts G q=>∃ (a:Addr) (ns:List Int),ts=[.ref a]/\G a=some (.frz (ns.map T.int))/\ns.length<=63/\∀ G',q (.bl true) G'
def qm1 {l:PySem.W.OpenLaw} {k:Nat} {q:Program} {loose:List Str} {XP:(Str->Option Value)->Heap->Prop} {YP:World->Heap->Prop} {d:DefRec} {K:Params->PySem.W.Frag} {x:Str} (hn:l.most=some 63) (hdf:d.params.defaults=[]) (hr:Room k callerA)
  (hY:∀ (w:World) (h:Heap),YP w h->(K w.params).In h) (hK:∀ w:World,V6 (K w.params)=true)
  (F:∀ (w:World) (mg:Str->Option Value) (fa:Addr) (h:Heap),(K w.params).In h->h.Ns mainGlobals mg->mg d.name=some (.ref fa) ->
   ∃ fd:FuncData,(∀ (s:Shared) (u:Value),BindsTo s fd ⟨[u],[]⟩ [(x,u)])/\∀ base:Heap,(K w.params).In base->base.Ns mainGlobals mg->FnOk l.prog w (K w.params) mg base CX0 k fa fd [x] (lSp (K w.params) WY)) :
  PySem.W.WalkO q loose XP YP l.row.toRowW d [] (λf vs=>PySem.call f vs):=
 L2.qeZ (n:=63) (k:=k) (x:=x) (CX:=λ_=>CX0) (sp:=λw=>lSp (K w.params) WY) hn (by decide) hdf hr hY F
  (λw H a ns hl hO hS=>⟨[.ref a],only a ns,λt _=>t=.bl true,qfR (LW (hK w) hO hS),.cons (.ref a) .nil,⟨a,ns,rfl,by simp [only],hl,λ_=>rfl⟩,λt G' e v H' r _ _=>by subst e;cases r;rfl⟩) λ_ _ _ _ _ z=>z
def qgd {P:Program} {w:World} {K:Frg} {mg:Str->Option Value} {base:Heap} {x qual:Str} {st:Stmt} {f:Addr} {fd:FuncData} {N ps:List Str} {k:Nat} {sp:Sp3} {t3:TS3} (F:Fun K x qual st f fd) (S:FnScope N ps (qi st))
  (body:∀ (cdv:Value) (A:Around) (outer:List Env) (s:Shared) (H:Hp) (E:XK),Room k (A.deeper (envOfC qual (qi st) s.heap.objs.size f cdv)) ->
   B3 (U2 CX0 P w K mg base N qual (qi st) f cdv A outer s H E).nox (zi st) t3)
  (read:∀ ts G q,sp ts G q->ts.length=ps.length/\t3 { nx:=λ_ G'=>q .non G',rt:=q } (qk N ts) G):FnOk P w K mg base CX0 (k+1) f fd ps (lSp K sp):=by
 refine F.ok S (λvs H Q E ⟨ts,G,q,h1,h2,h3,h4⟩=>by rw [← h2.length];exact (read ts G q h3).1) λcdv A outer s H vs Q E hr ⟨ts,G,q,h1,h2,h3,h4⟩=>?_;refine ⟨_,body cdv A outer s H E hr,qk N ts,G,_,EG h1 h2,(read ts G q h3).2,⟨λτ' G' h' σ' H' rl' k'=>h4 _ G' h' _ H' .non rl'.hp k',h4,λ_ _ z=>z.elim,λ_ _ z=>z.elim⟩⟩
section
variable {P:Program} {w:World} {A:Around} {s:Shared} {E:Value->Shared->Prop}
end
section
variable {X:Cx} {a b e l:Expr} {es:List Expr} {pos:Pos}
end
section
variable {X:Cx} {a b e l:Expr} {es:List Expr} {pos:Pos} {t:TA3}
end
section
variable {X:Cx} {a b c e:Expr} {es:List Expr} {ta tb tc te:TE3} {t:TA3} {pos:Pos}
def KM (i:Nat) (r:R3) (te:TE3):TS3:=λd τ G=>match τ[i]? with
 |some (some x)=>te τ G λy G1=>r x y G1 λz G2=>d.nx (τ.set i (some z)) G2
 |_=>False
def C9:List T->Option (List Int)
 |[]=>some []
 |.int i::r=>(match C9 r with|some ns=>some (i::ns)|none=>none)
 |_=>none
def RV (ns:List Int):C9 (ns.map T.int)=some ns:=by
 induction ns with
 |nil=>rfl
 |cons n r ih=>simp [C9,ih]
def X8:∀ {xs:List T} {ns:List Int},C9 xs=some ns->xs=ns.map T.int
 |[],_,h=>by simp [C9] at h;subst h;rfl
 |x::r,ns,h=>by
  unfold C9 at h;split at h
  ·rename_i e;cases e
  ·rename_i i r' e;cases e;split at h
   ·rename_i ms e2;cases h;rw [X8 e2];rfl
   ·cases h
  ·cases h
def XI {K:Frg} {H:Hp}:∀ {ns:List Int} {vs:List V},Rps K H (ns.map T.int) vs->vs=ns.map V.int
 |[],_,r=>by cases r;rfl
 |n::ns,_,r=>by
  cases r with
  |cons a b=>cases a;rw [XI b];rfl
def KD:List T->Gp->Q3->Prop:=λxs G q=>match xs with
 |[.ref p]=>(match zG G p with|some ys=>(match qme ys with|some k=>q (.bl k) G|none=>False)|none=>False)
 |_=>False
end
section
variable {X:Cx}
def qfw {elt tg iter:Expr} {ifs:List Expr} {scope:Scope} {pos cpos:Pos} {N':List Str} {m:List (Option Nat)} {wi:TI} {g:TG} {tif:TT} {te:TE} {use:Option (Value->Sem Unit)} {Qc:Value->Shared->Prop} {QD:Addr->Hp->Prop} (hc:X.calm=true) (hi:PI X tg iter wi)
  (hg:∀ s H fp,PG (ql X N' scope s H fp) tg g) (hf:∀ s H fp,PF (ql X N' scope s H fp) ifs tif) (he:∀ s H fp,PE (ql X N' scope s H fp) elt te)
  (hsc:MR X.env.scope scope=true) (hcap:YE X.N N' scope m=true) (hs:∀ x,foldedSetIterable iter X.env x=pure x) {pins:List (Addr×Obj)} {s:Shared} {σ:L2.St} {H:Hp} (I:Inv X pins σ H s)
  (h:wi σ H λJ H1=>∀ D,H1 D=none ->
   ∃ W:Nat->Nat->L2.St->Hp->Prop,(∃ n,W 0 n (cap m σ) (upd H1 D (.lst [])))/\∀ i n σ H,W i n σ H ->
    (J.stop i H/\QD D H)\/(J.go i H/\∀ x H',J.yld i H x H'->g x σ H' λσ2 H2=>tif σ2 H2 λk H3=>
     if k=true then te σ2 H3 λy H4=>∃ zs,H4 D=some (.lst zs)/\zs.length<sizeLine/\∃ n',n'<n/\W (i+1) n' σ2 (upd H4 D (.lst (zs++[y])))
     else ∃ n',n'<n/\W (i+1) n' σ2 H3))
  (fin:∀ (D:Addr) (s3:Shared) (H3:Hp) (fp:List Addr) (s6:Shared) (H6:Hp) (σ6:L2.St) (r:Flow),Inv X pins σ H3 s3->(∀ b∈fp,RO X pins H3 b)->Inv (ql X N' scope s3 H3 fp) [] σ6 H6 s6->QD D H6->compPost (model X.prog X.w) X.A X.xe use Qc (.ref D) s3.heap.objs.size (.ok r) s6) :
  wpAny (model X.prog X.w) X.A (comprehension (.ListComp elt [⟨tg,iter,ifs,0⟩] scope pos) scope X.env cpos (newList []) false (eval iter X.env) use) Qc X.xe s:=by
 have sc:=V8 hsc;have hcl:∀ y∈scope.names,y.2=.free->∃ c,X.env.cells.lookup y.1=some c:=λy hy e=>by
  rcases (sc.free y hy e).2 with z|z
  ·exact I.ok.has y.1 (.inl z)
  ·exact I.ok.has y.1 (.inr z)
 refine wpAny_comprehension_free (g:=⟨tg,iter,ifs,0⟩) (gs:=[]) rfl hs (ZH hcl) sc.kind sc.loc ?_;show wpAny _ _ (eval iter X.env) _ _ s;refine thn (hi pins s σ H _ I h) λv s1 h1=>thn h1 λitv s2 h2=>?_;obtain ⟨it,fp,tn,J,H2,rfl,I2,T,st2,f2,hW⟩:=h2;refine wpAny_newObj_type ?_;have hD:H2 s2.heap.objs.size=none:=I2.fresh;obtain ⟨W,⟨n0,w0⟩,turn⟩:=hW _ hD;generalize hDe:s2.heap.objs.size=D at *;have I3:Inv X pins σ (upd H2 D (.lst [])) { s2 with heap:=s2.heap.push { cls:=.type "list",dict:=none,data:=.seq ([]:List Value).toArray } }:=by
  subst hDe;exact I2.laid (t':=s2.toks) (λb u e=>Heap.get?_push_of_some _ e) (Nat.le_refl _) ⟨Nat.zero_le _,[],0,.nil,Heap.get?_push_size _ rfl⟩
 have ob2:=T.obj 0 _ st2;have ob3:∀ b∈fp,∃ o,(s2.heap.push { cls:=.type "list",dict:=none,data:=.seq ([]:List Value).toArray }).get? b=some o:=λb hb=>let ⟨o,e,_⟩:=ob2 b hb;⟨o,Heap.get?_push_of_some _ e⟩
 have f3:∀ b∈fp,RO X pins (upd H2 D (.lst [])) b:=λb hb=>by
  obtain ⟨o,e,_⟩:=ob2 b hb;have:b≠D:=by rw [← hDe];exact Nat.ne_of_lt (Heap.lt_size e)
  exact ⟨by rw [qz this];exact (f2 b hb).1,(f2 b hb).2⟩
 have k23:∀ b o,s2.heap.get? b=some o->(s2.heap.push { cls:=.type "list",dict:=none,data:=.seq ([]:List Value).toArray }).get? b=some o:=λb o e=>Heap.get?_push_of_some _ e;generalize hH3:upd H2 D (.lst [])=H3 at *;generalize hs3:({ s2 with heap:=s2.heap.push { cls:=.type "list",dict:=none,data:=.seq ([]:List Value).toArray } }:Shared)=s3 at *;have ob3:∀ b∈fp,∃ o,s3.heap.get? b=some o:=by rw [← hs3];exact ob3
 have k23:∀ b o,s2.heap.get? b=some o->s3.heap.get? b=some o:=by rw [← hs3];exact k23
 refine jK λh₁ hns hk hown=>?_;have I4:Inv (ql X N' scope s3 H3 fp) [] (cap m σ) H3 { s3 with heap:=h₁ }:=CM hc I3 sc hcap f3 ob3 hns hk hown;have tn4:tn 0 h₁:=T.keep _ _ _ st2 λb hb o e=>hk b o (k23 b o e);have fr4:∀ b∈fp,H3 b=none:=λb hb=>(f3 b hb).1;have stat:∀ {H':Hp},(∀ b∈fp,H' b=none)->∀ b∈fp,RO (ql X N' scope s3 H3 fp) [] H' b:=λhn b hb=>by
  refine ⟨hn b hb,I4.ok.exf b hb |>.1,I4.ok.exfs b hb,.inl hb,λx c e=>(I4.ok.exf b hb).2 x c e,λp hp=>absurd (show p∈([]:List (Addr×Obj)) from hp) (by simp)⟩
 show codeAny (model X.prog X.w) X.A (.compStart (.ListComp elt [⟨tg,iter,ifs,0⟩] scope pos) 0 (.ref it) (.ref D) (ql X N' scope s3 H3 fp).env) (compPost (model X.prog X.w) X.A X.xe use Qc (.ref D) s3.heap.objs.size) { s3 with heap:=h₁ };have loop:codeAny (model X.prog X.w) X.A (.compLoop (.ListComp elt [⟨tg,iter,ifs,0⟩] scope pos) 0 (.ref it) (.ref D) (ql X N' scope s3 H3 fp).env) (compPost (model X.prog X.w) X.A X.xe use Qc (.ref D) s3.heap.objs.size) { s3 with heap:=h₁ }:=by
  refine codeAny_loop rfl (λn s'=>∃ i σ' H',Inv (ql X N' scope s3 H3 fp) [] σ' H' s'/\tn i s'.heap/\(∀ b∈fp,H' b=none)/\W i n σ' H') (λn s' hI=>?_) n0 ⟨0,cap m σ,H3,I4,tn4,fr4,w0⟩;show wpAny _ X.A ((compTurn (.ListComp elt [⟨tg,iter,ifs,0⟩] scope pos) 0 (.ref it) (.ref D) (ql X N' scope s3 H3 fp).env).onRaise (λx=>do noteFrame x (ql X N' scope s3 H3 fp).env;theTreesLotGoes x)) _ _ s';refine wpAny_noted ?_;rw [compTurn_list];refine wpAny_bind (wpAny_standAt (wpAny_bind ?_));obtain ⟨i,σ5,H5,I5,st5,fr5,w5⟩:=hI;rcases turn i n σ5 H5 w5 with ⟨stop,q⟩|⟨go,step⟩
  ·refine thn (T.done (ql X N' scope s3 H3 fp) rfl rfl rfl rfl i [] s' σ5 H5 _ I5 (stat fr5) st5 stop) λr s6 ⟨hr,I6⟩=>?_;subst hr;refine wpAny_pure ?_;exact fin D s3 H3 fp s6 H5 σ5 _ I3 f3 I6 q
  ·refine thn (T.item (ql X N' scope s3 H3 fp) rfl rfl rfl rfl i [] s' σ5 H5 _ I5 (stat fr5) st5 go) λr s6 ⟨u,hr,h6⟩=>?_;subst hr;refine wpAny_bind (thn h6 λ_ s7 ⟨x,H7,I7,r7,y7,st7,fr7⟩=>?_);have I7':=I7.pinned (stat fr7) (T.obj _ _ st7);have again:∀ {σ8:L2.St} {H8:Hp} {s8:Shared},Inv (ql X N' scope s3 H3 fp) ([]++UP fp s7.heap) σ8 H8 s8->(∃ n',n'<n/\W (i+1) n' σ8 H8) ->
     ∃ m',m'<n/\∃ i σ' H',Inv (ql X N' scope s3 H3 fp) [] σ' H' s8/\tn i s8.heap/\(∀ b∈fp,H' b=none)/\W i m' σ' H':=λ{σ8 H8 s8} I8 ⟨n',hn,w8⟩=>by
    refine ⟨n',hn,i+1,σ8,H8,I8.unpinned,T.keep _ _ _ st7 λb hb o e=>(I8.pin (b,o) (mem_append_right _ (mem_append_right _ (zy hb e)))).1,λb hb=>?_,w8⟩;obtain ⟨o,e,d⟩:=T.obj _ _ st7 b hb;exact (I8.pin (b,o) (mem_append_right _ (mem_append_right _ (zy hb e)))).2.1
   refine wpAny_bind (wpAny_mono (hg s3 H3 fp _ s7 σ5 H7 x u _ I7' r7 (step x H7 y7)) (λ_ s8 ⟨σ8,H8,I8,q8⟩=>?_) λ_ _ z=>z.elim);refine wpAny_bind (wpAny_mono (hf s3 H3 fp _ s8 σ8 H8 _ I8 q8) (λk s9 ⟨H9,I9,q9⟩=>?_) λ_ _ z=>z.elim);cases k with
   |false=>
    rw [if_neg Bool.false_ne_true] at q9;exact wpAny_pure ⟨rfl,again I9 q9⟩
   |true=>
    rw [if_pos rfl] at q9;refine wpAny_bind (wpAny_bind (wpAny_mono (he s3 H3 fp _ s9 σ8 H9 _ I9 q9) (λw s10 ⟨y,H10,I10,r10,q10⟩=>?_) λ_ _ z=>z.elim));obtain ⟨zs,hz,hl,q10⟩:=q10;refine wpAny_bind (wpAny_mono (VC (X:=ql X N' scope s3 H3 fp) _ s10 σ8 H10 (.ref D) [y] (.ref D) [w] (λ_ H11=>H11=upd H10 D (.lst (zs++[y]))) I10 rfl (.cons r10 .nil) ⟨D,zs,y,rfl,rfl,hz,hl,rfl⟩) (λ_ s11 ⟨_,H11,I11,_,e11⟩=>?_) λ_ _ z=>z.elim);subst e11;exact wpAny_pure (wpAny_pure ⟨rfl,again I11 q10⟩)
 exact codeAny_compStart_list loop (T.self X.A 0 _ _ _ tn4 loop)
def qbu {i:Nat} {y:Str} {py spos:Pos} {elt tg iter:Expr} {ifs:List Expr} {scope:Scope} {pos:Pos} {N':List Str} {m:List (Option Nat)} {wi:TI} {g:TG} {tif:TT} {te:TE} (hc:X.calm=true) (hN:X.N.Nodup) (hi:PI X tg iter wi)
  (hg:∀ s H fp,PG (ql X N' scope s H fp) tg g) (hf:∀ s H fp,PF (ql X N' scope s H fp) ifs tif) (he:∀ s H fp,PE (ql X N' scope s H fp) elt te)
  (hsc:MR X.env.scope scope=true) (hcap:YE X.N N' scope m=true) (hs:∀ x,foldedSetIterable iter X.env x=pure x) (hiy:X.N[i]?=some y) (hl:X.env.scope.names.lookup y=some .local)
  (hsw:swapsWith (.ListComp elt [⟨tg,iter,ifs,0⟩] scope pos) (some (.Name y py)) spos.line X.env=pure true) :
  PS X (.Assign [.Name y py] (.ListComp elt [⟨tg,iter,ifs,0⟩] scope pos) spos) (qnK (tLC wi g tif te m) (qfV i)):=by
 intro pins s σ H D I h;rw [exec_Assign_Name_used _ _ _ _ hsw];refine wpAny_bind (wpAny_standAt (wpAny_bind ?_));show wpAny _ X.A (do let _←comprehension (.ListComp elt [⟨tg,iter,ifs,0⟩] scope pos) scope X.env _ (newList []) false (eval iter X.env) (some (assign (.Name y py) X.env))) _ _ s;refine wpAny_bind (wpAny_mono (qfw (use:=some (assign (.Name y py) X.env)) (QD:=λD' H'=>D.nx (σ.set i (some (.ref D'))) H') (Qc:=λ_ s'=>∃ σ' H',Inv X pins σ' H' s'/\D.nx σ' H') hc hi hg hf he hsc hcap hs I h λD' s3 H3 fp s6 H6 σ6 r I3 f3 I6 q=>?_) (λ_ s' hq=>wpAny_pure (wpAny_pure hq)) λ_ _ e=>e);have I7:Inv X pins σ H6 s6:=UM (h2:=s6.heap) I3 f3 I6 ⟨rfl,λ_ _=>rfl⟩;obtain ⟨mm,hn6,_⟩:=I6.loc;have hfC:RO X pins H6 s3.heap.objs.size:=I3.fpOk (Nat.le_refl _) I6.free;obtain ⟨f0,f1,f2,f3',f4,f5⟩:=hfC;show wpAny _ X.A (assign (.Name y py) X.env (.ref D')) _ _ _;refine wpAny_assign_Name (R9 I7 hN hiy (.inl hl) (v:=.ref D') rfl (λs8 I8 hch=>?_) (.inr hl));obtain ⟨a,sb,ha⟩:=hch;have hne:s3.heap.objs.size≠a:=by
  rcases ha with rfl|ha
  ·exact f1
  ·exact Ne.symm (f4 _ _ ha)
 refine ⟨mm,hn6.sameBut sb hne,λh' sb'=>⟨_,_,I8.turned (t':=s8.toks) (λb o hb e=>(sb'.2 b hb).trans e) f0 f1 f3' f4 f5,q⟩⟩
end
def qmY {K:Frg} {m:List (Option Nat)} {wi:TI3} {g:TG3} {tif:TT3} {te:TE3} {σ:L2.St} {H:Hp} {Q:VK} (hh:lE K (lc3 wi g tif te m) σ H Q):tLC (lI K wi) (lG K g) (lT K tif) (lE K te) m σ H Q:=by
  obtain ⟨τ,G,q,rl,h,af⟩:=hh;refine ⟨τ,G,_,rl,h,λitems stay G1 h1 J H1 hr1 k1 ok D hD=>?_⟩;have gD:G1 D=none:=hr1.free hD;refine ⟨λi n σ' H'=>n=items.length-i/\i<=items.length/\∃ τ' G' ys vs,Rel K τ' G' σ' H'/\Kp G1 H1 G' H'/\H' D=some (.lst vs)/\Rps K H' ys vs/\G' D=none/\WR stay g tif te q (items.drop i) ys τ' G',
   ⟨_,rfl,Nat.zero_le _,cap m τ,G1,[],[],((rl.next hr1 k1).cap m).next (hr1.laid hD) (Kp.laid hD),Kp.laid hD,zg,.nil,gD,by simpa using h1⟩,?_⟩
  rintro i n σ' H' ⟨rfl,hi,τ',G',ys,vs,rl',k',hDl,rys,gD',h'⟩;by_cases hlt:i<items.length
  ·rw [List.drop_eq_getElem_cons hlt] at h';obtain ⟨hst,h'⟩:=h';obtain ⟨go,yld,_⟩:=ok G' H' rl'.hp k' hst;have hx:items[i]?=some items[i]:=getElem?_eq_getElem hlt;refine .inr ⟨go i _ hx,λv H2 y=>?_⟩;obtain ⟨rv,hr2,k2⟩:=yld i _ v H2 hx y;have nxt:∀ {τ4:St3} {G4:Gp} {σ4:L2.St} {H4:Hp} {ys4:List T} {vs4:List V},Rel K τ4 G4 σ4 H4->Kp G1 H1 G4 H4->H4 D=some (.lst vs4)->Rps K H4 ys4 vs4->G4 D=none->WR stay g tif te q (items.drop (i+1)) ys4 τ4 G4 ->
     ∃ n',n'<items.length-i/\(n'=items.length-(i+1)/\i+1<=items.length/\∃ τ' G' ys vs,Rel K τ' G' σ4 H4/\Kp G1 H1 G' H4/\H4 D=some (.lst vs)/\Rps K H4 ys vs/\G' D=none/\WR stay g tif te q (items.drop (i+1)) ys τ' G'):=
    λ{τ4 G4 σ4 H4 ys4 vs4} a b c d e f=>⟨_,by omega,rfl,hlt,τ4,G4,ys4,vs4,a,b,c,d,e,f⟩
   refine ⟨_,τ',G',_,rv,rl'.next hr2 k2,h',λτ3 G3 h3 σ3 H3 rl3 k3=>⟨τ3,G3,_,rl3,h3,λk G4 h4 H4 hr4 k4=>?_⟩⟩;have kk:=(k2.trans k3).trans k4;obtain ⟨hD4,gD4⟩:=kk D _ hDl gD';have rys4:=rys.keep rl'.hp kk;cases k with
   |false=>
    rw [if_neg Bool.false_ne_true] at h4;refine qmq ?_;exact nxt (rl3.next hr4 k4) (k'.trans kk) hD4 rys4 gD4 h4
   |true=>
    rw [if_pos rfl] at h4;refine qml ?_;refine ⟨τ3,G4,_,rl3.next hr4 k4,h4,λz G5 h5 w H5 rw5 hr5 k5=>?_⟩;obtain ⟨hD5,gD5⟩:=k5 D _ hD4 gD4;have rys5:=rys4.keep hr4 k5;exact ⟨vs,hD5,by rw [← rys.length];exact h5.1,nxt (((rl3.next hr4 k4).next hr5 k5).wrD hD5 gD5) (((k'.trans kk).trans k5).wrD hD) zg ((rys5.append (.cons rw5 .nil)).wrD hD5) gD5 h5.2⟩
  ·have e:i=items.length:=by omega
   subst e;rw [List.drop_length] at h';obtain ⟨_,_,stop⟩:=ok G' H' rl'.hp k' h'.1;refine .inl ⟨stop,af _ _ (h'.2 D gD') _ H' (.ref D) (λa o e=>?_) λa o e ga=>?_⟩
   ·by_cases ha:a=D
    ·subst ha;rw [qq] at e;cases e;exact ⟨vs,hDl,rys⟩
    ·rw [zS ha] at e;exact rl'.hp a o e
   ·obtain ⟨e1,g1⟩:=k1 a o e ga;obtain ⟨e2,g2⟩:=k' a o e1 g1;exact ⟨e2,by rw [zS (qF e1 hD)];exact g2⟩
def qfd {X:Cx} {py spos:Pos} {elt tg iter:Expr} {ifs:List Expr} {scope:Scope} {pos:Pos} {y:Str} (i:Nat) (N':List Str) (m:List (Option Nat)) {wi:TI3} {g:TG3} {tif:TT3} {te:TE3} (hc:X.calm=true) (hN:X.N.Nodup) (hi:I3 X tg iter wi)
  (hg:∀ s H fp,G3 (ql X N' scope s H fp) tg g) (hf:∀ s H fp,F3 (ql X N' scope s H fp) ifs tif) (he:∀ s H fp,E3 (ql X N' scope s H fp) elt te)
  (hsc:MR X.env.scope scope=true) (hcap:YE X.N N' scope m=true) (hl:X.env.scope.names.lookup y=some .local) (hsw:swapsWith (.ListComp elt [⟨tg,iter,ifs,0⟩] scope pos) (some (.Name y py)) spos.line X.env=pure true) (hiy:X.N[i]?=some y:=by rfl) (hs:∀ x,foldedSetIterable iter X.env x=pure x:=by intro _;rfl) :
  S3 X (.Assign [.Name y py] (.ListComp elt [⟨tg,iter,ifs,0⟩] scope pos) spos) (qJ (lc3 wi g tif te m) (gn3 i)):=
 MY (qbu (g:=lG X.K g) (tif:=lT X.K tif) (te:=lE X.K te) hc hN hi hg hf he hsc hcap hs hiy hl hsw) λ_ σ H ⟨τ,G,d,rl,h,af⟩=>
  qmY ⟨τ,G,_,rl,h,λx G1 h1 v H1 rx hr1 k1=>af.nx _ G1 h1 _ H1 ((rl.next hr1 k1).set i rx) k1⟩
end L3
set_option autoImplicit true
namespace L3
open PySem PySem.Spec PyProof.Rows L2
structure jE3 (X:Cx) (e:Expr) (t:TE3):Prop where h:E3 X e t
structure jC3 (X:Cx) (e:Expr) (t:TT3):Prop where h:C3 X e t
structure jW3 (X:Cx) (e:Expr) (t:TT3):Prop where h:W3 X e t
structure jA3 (X:Cx) (e:List Expr) (t:TA3):Prop where h:A3 X e t
structure jP3 (X:Cx) (e:Option Expr) (t:TO3):Prop where h:P3 X e t
structure jS3 (X:Cx) (e:Stmt) (t:TS3):Prop where h:S3 X e t
structure jB3 (X:Cx) (e:List Stmt) (t:TS3):Prop where h:B3 X e t
structure jG3 (X:Cx) (e:Expr) (t:TG3):Prop where h:G3 X e t
structure jGs3 (X:Cx) (e:List Expr) (t:SN):Prop where h:Gs3 X e t
structure jI3 (X:Cx) (tg e:Expr) (t:TI3):Prop where h:I3 X tg e t
structure jF3 (X:Cx) (e:List Expr) (t:TT3):Prop where h:F3 X e t
def qc {X:Cx} (i:Nat) {x:Str} {pos:Pos} (hN:X.N[i]?=some x:=by rfl) (hv:Vis X.env.scope x:=by first|exact Or.inl rfl|exact Or.inr (Or.inl rfl)|exact Or.inr (Or.inr rfl)) (hd:(x==("__debug__" : Str))=false:=by decide)
  (hcd:(x==("__classdict__" : Str))=false:=by decide):jE3 X (.Name x pos) (v3 i):=
 ⟨qno (i:=i) (hN:=hN) (hv:=hv) (hd:=hd) (hcd:=hcd)⟩
def qd {X:Cx} {i:Int} {j pos}:jE3 X (.Constant (.int i) j pos) (c3 (.int i)):=
 ⟨qmD ⟩
def X6 {X:Cx} {b:Bool} {j pos}:jE3 X (.Constant (.bool b) j pos) (c3 (.bl b)):=
 ⟨qpT ⟩
def RP {X:Cx} {j pos}:jE3 X (.Constant .none j pos) (c3 .non):=
 ⟨qoy ⟩
def qC {X:Cx} {x:Str} {j pos}:jE3 X (.Constant (.str x) j pos) (c3 (.str x)):=
 ⟨qns ⟩
def YC {ta:TE3} {tb:TE3} {pos:Pos} {a:Expr} {b:Expr} {X:Cx} {op:CmpOp} {r3:R3} {r:R2} (ho:OpR X (compareOp op) r) (hr:D0 X.K r3 r) (ha:jE3 X a ta) (hb:jE3 X b tb) (hm:behindInMarks op b=false):jE3 X (.Compare a [op] [b] pos) (o3 r3 ta tb):=
 ⟨qoi (ho:=ho) (hr:=hr) (ha:=ha.h) (hb:=hb.h) (hm:=hm)⟩
def qT {ta:TE3} {tb:TE3} {pos:Pos} {a:Expr} {b:Expr} {X:Cx} {op:CmpOp} {r3:R3} {r:R2} (ho:OpR X (compareOp op) r) (hr:D0 X.K r3 r) (ha:jE3 X a ta) (hb:jE3 X b tb) (hm:behindInMarks op b=false):jC3 X (.Compare a [op] [b] pos) (tb3 (o3 r3 ta tb)):=
 ⟨qnr (ho:=ho) (hr:=hr) (ha:=ha.h) (hb:=hb.h) (hm:=hm)⟩
def LG {ta:TE3} {tb:TE3} {tc:TE3} {pos:Pos} {a:Expr} {b:Expr} {c:Expr} {X:Cx} {op op':CmpOp} {r3 r3':R3} {r r':R2} (ho:OpR X (compareOp op) r) (hr:D0 X.K r3 r) (ho':OpR X (compareOp op') r') (hr':D0 X.K r3' r') (ha:jE3 X a ta) (hb:jE3 X b tb) (hc:jE3 X c tc)
  (hm:lastMarks [op,op'] [b,c]=false:=by with_unfolding_all rfl):jE3 X (.Compare a [op,op'] [b,c] pos) (ch3 r3 r3' ta tb tc):=
 ⟨qgG (ho:=ho) (hr:=hr) (ho':=ho') (hr':=hr') (ha:=ha.h) (hb:=hb.h) (hc:=hc.h) (hm:=hm)⟩
def VP {ta:TE3} {tb:TE3} {pos:Pos} {a:Expr} {b:Expr} {X:Cx} (ha:jE3 X a ta) (hb:jE3 X b tb):jE3 X (.BinOp a .Sub b pos) (o3 (iI (·-·)) ta tb):=
 ⟨qmK (ha:=ha.h) (hb:=hb.h)⟩
def zV {ta:TE3} {tb:TE3} {pos:Pos} {a:Expr} {b:Expr} {X:Cx} (ha:jE3 X a ta) (hb:jE3 X b tb):jE3 X (.BinOp a .Mult b pos) (o3 (iC JD (·*·)) ta tb):=
 ⟨qmx (ha:=ha.h) (hb:=hb.h)⟩
def UR {ta:TE3} {tb:TE3} {pos:Pos} {a:Expr} {b:Expr} {X:Cx} (ha:jE3 X a ta) (hb:jE3 X b tb):jE3 X (.BinOp a .Mod b pos) (o3 (iC (λ_ j=>0<j) (·%·)) ta tb):=
 ⟨qnT (ha:=ha.h) (hb:=hb.h)⟩
def RW {ta:TE3} {tb:TE3} {pos:Pos} {a:Expr} {b:Expr} {X:Cx} (ha:jE3 X a ta) (hb:jE3 X b tb):jE3 X (.BinOp a .FloorDiv b pos) (o3 (iC qcJ (·/·)) ta tb):=
 ⟨qm3 (ha:=ha.h) (hb:=hb.h)⟩
def qlI {ta:TE3} {tb:TE3} {pos:Pos} {a:Expr} {b:Expr} {X:Cx} (ha:jE3 X a ta) (hb:jE3 X b tb):jE3 X (.BinOp a .Pow b pos) (o3 (iC MV (λi j=>i ^ j.toNat)) ta tb):=
 ⟨qmU (ha:=ha.h) (hb:=hb.h)⟩
def qaW {ta:TE3} {tb:TE3} {pos:Pos} {a:Expr} {b:Expr} {X:Cx} (ha:jE3 X a ta) (hb:jE3 X b tb):jE3 X (.BinOp a .LShift b pos) (o3 (iC MV (λi j=>i*2 ^ j.toNat)) ta tb):=
 ⟨qm6 (ha:=ha.h) (hb:=hb.h)⟩
def QA {ta:TE3} {pos:Pos} {a:Expr} {X:Cx} (ha:jE3 X a ta):jE3 X (.UnaryOp .USub a pos) (u3 JP ta):=
 ⟨qof (ha:=ha.h)⟩
def qfi {tA:TT3} {pos:Pos} {a:Expr} {X:Cx} (ha:jC3 X a tA):jW3 X (.BoolOp .And [a] pos) tA:=
 ⟨qgU (ha:=ha.h)⟩
def qeT {tA:TT3} {pos:Pos} {a:Expr} {X:Cx} (ha:jC3 X a tA):jW3 X (.BoolOp .Or [a] pos) tA:=
 ⟨qmM (ha:=ha.h)⟩
def qip {j8:List Expr} {tA:TT3} {tB:TT3} {pos:Pos} {a:Expr} {X:Cx} (ha:jC3 X a tA) (hb:jW3 X (.BoolOp .And (b::j8) pos) tB):jW3 X (.BoolOp .And (a::b::j8) pos) (CC tA tB):=
 ⟨qmQ (ha:=ha.h) (hb:=hb.h)⟩
def qfg {j8:List Expr} {tA:TT3} {tB:TT3} {pos:Pos} {a:Expr} {X:Cx} (ha:jC3 X a tA) (hb:jW3 X (.BoolOp .Or (b::j8) pos) tB):jW3 X (.BoolOp .Or (a::b::j8) pos) (or3 tA tB):=
 ⟨qpW (ha:=ha.h) (hb:=hb.h)⟩
def DA {tA:TT3} {pos:Pos} {a:Expr} {X:Cx} (ha:jC3 X a tA):jC3 X (.UnaryOp .Not a pos) (UT tA):=
 ⟨qnR (ha:=ha.h)⟩
def JF {X:Cx} {e:Expr} {t:TE3} (h:jE3 X e t) (he:∀ whole,isTrue e X.env whole=(do let v←whole;standAt e.pos;holding [v] (truthy v)):=by intro _;rfl):jC3 X e (tb3 t):=
 ⟨qnJ (h:=h.h) (he:=he)⟩
def VG {ta:TE3} {pos:Pos} {a:Expr} {X:Cx} {op} (h:jE3 X a ta):jE3 X (.BoolOp op [a] pos) ta:=
 ⟨qnX (h:=h.h)⟩
def JH {j8:List Expr} {ta:TE3} {tb:TE3} {pos:Pos} {a:Expr} {X:Cx} (ha:jE3 X a ta) (hb:jE3 X (.BoolOp .And (b::j8) pos) tb):jE3 X (.BoolOp .And (a::b::j8) pos) (zT ta tb):=
 ⟨qny (ha:=ha.h) (hb:=hb.h)⟩
def qkI {ta:TE3} {pos:Pos} {a:Expr} {X:Cx} (ha:jE3 X a ta):jE3 X (.UnaryOp .Not a pos) (Z2 ta):=
 ⟨qnj (ha:=ha.h)⟩
def qln {tA:TT3} {ta:TE3} {tb:TE3} {pos:Pos} {a:Expr} {b:Expr} {X:Cx} {c:Expr} (hc:jC3 X c tA) (ha:jE3 X a ta) (hb:jE3 X b tb):jE3 X (.IfExp c a b pos) (if3 tA ta tb):=
 ⟨qpw (hc:=hc.h) (ha:=ha.h) (hb:=hb.h)⟩
def qe {X:Cx} :jA3 X [] qg:=
 ⟨qmu ⟩
def qa {te:TE3} {t:TA3} {es:List Expr} {X:Cx} (ha:jE3 X e te) (hr:jA3 X es t) (hs:starEach (e::es) X.env=(false,eval e X.env)::starEach es X.env:=by rfl):jA3 X (e::es) (qb te t):=
 ⟨qlx (ha:=ha.h) (hr:=hr.h) (hs:=hs)⟩
def qo {t:TA3} {pos:Pos} {es:List Expr} {X:Cx} {x1} (h:jA3 X es t):jE3 X (.Tuple es x1 pos) (qP t):=
 ⟨qot (h:=h.h)⟩
def zp {t:TA3} {pos:Pos} {es:List Expr} {X:Cx} (h:jA3 X es t):jE3 X (.List es pos) (ja t):=
 ⟨qnp (h:=h.h)⟩
def qW {t:TA3} {pos:Pos} {es:List Expr} {X:Cx} {x:Str} {p:Pos} {id:String} {r3:List T->Gp->Q3->Prop} {r:List V->Hp->VK->Prop} (hc:J6 X (.builtin id) r) (hr:KI X.K r3 r) (hg:Gl X x) (hm:X.mg x=none) (hv:bootBuiltins x=some (.builtin id)) (ha:jA3 X (e::es) t) (hn:x≠"__name__" := by decide) (hdb:(x==("__debug__" : Str))=false:=by decide)
  (he:starEach (e::es) X.env=(false,eval e X.env)::starEach es X.env:=by rfl) (hpl:(backTo pos (starEach es X.env)).any (·.1)=false:=by rfl):jE3 X (.Call (.Name x p) (e::es) [] pos) (cb3 r3 t):=
 ⟨qfB (hc:=hc) (hr:=hr) (hg:=hg) (hm:=hm) (hv:=hv) (ha:=ha.h) (hn:=hn) (hdb:=hdb) (he:=he) (hpl:=hpl)⟩
def qX {t:TA3} {pos:Pos} {es:List Expr} {X:Cx} {x:Str} {p:Pos} {ty:String} {r3:List T->Gp->Q3->Prop} {r:List V->Hp->VK->Prop} (hc:J6 X (.type ty) r) (hr:KI X.K r3 r) (hg:Gl X x) (hm:X.mg x=none) (hv:bootBuiltins x=some (.type ty)) (ha:jA3 X (e::es) t) (hn:x≠"__name__" := by decide) (hdb:(x==("__debug__" : Str))=false:=by decide)
  (he:starEach (e::es) X.env=(false,eval e X.env)::starEach es X.env:=by rfl) (hpl:(backTo pos (starEach es X.env)).any (·.1)=false:=by rfl):jE3 X (.Call (.Name x p) (e::es) [] pos) (cb3 r3 t):=
 ⟨qb3 (hc:=hc) (hr:=hr) (hg:=hg) (hm:=hm) (hv:=hv) (ha:=ha.h) (hn:=hn) (hdb:=hdb) (he:=he) (hpl:=hpl)⟩
def qu {ta:TE3} {tb:TE3} {pos:Pos} {a:Expr} {b:Expr} {X:Cx} (ha:jE3 X a ta) (hb:jE3 X b tb) (hs:UD b:=by intro _ _;rfl):jE3 X (.Subscript a b pos) (o3 ix3 ta tb):=
 ⟨qpA (ha:=ha.h) (hb:=hb.h) (hs:=hs)⟩
def XU {te:TE3} {e:Expr} {X:Cx} (h:jE3 X e te):jP3 X (some e) (sp3 te):=
 ⟨qjw (h:=h.h)⟩
def KT {te:TE3} {pos:Pos} {e:Expr} {X:Cx} {lo hi:Option Expr} {tl th:TO3} {p2:Pos} (he:jE3 X e te) (hl:jP3 X lo tl) (hu:jP3 X hi th):jE3 X (.Subscript e (.Slice lo hi none p2) pos) (D6 te tl th):=
 ⟨qgF (he:=he.h) (hl:=hl.h) (hu:=hu.h)⟩
def qx {ta:TE3} {tb:TE3} {pos:Pos} {a:Expr} {b:Expr} {X:Cx} (ha:jE3 X a ta) (hb:jE3 X b tb):jE3 X (.BinOp a .Add b pos) (o3 za ta tb):=
 ⟨qkH (ha:=ha.h) (hb:=hb.h)⟩
def ES {t:TA3} {e:Expr} {X:Cx} {o:Expr} {to:TE3} {apos cpos:Pos} (ho:jE3 X o to) (ha:jA3 X [e] t)
  (hbase:attributeBase o "append" X.env (eval o X.env)=eval o X.env:=by rfl)
  (hfew:((backTo cpos (starEach [e] X.env)).all (λx=>!x.1)&&(backToKw cpos (keywordEach [] X.env)).all (λx=>x.1.isSome)
   && decide (([e]:List Expr).length+([]:List Keyword).length+(if ([]:List Keyword).isEmpty then 0 else 1)<30))=true:=by rfl)
  (hline:(apos.endLine==cpos.line)=true:=by rfl) (hs:starEach [e] X.env=(false,eval e X.env)::starEach [] X.env:=by rfl) (hplain:(backTo cpos (starEach [] X.env)).any (·.1)=false:=by rfl):jE3 X (.Call (.Attribute o "append" apos) [e] [] cpos) (bm3 EU to t):=
 ⟨qcd (ho:=ho.h) (ha:=ha.h) (hbase:=hbase) (hfew:=hfew) (hline:=hline) (hs:=hs) (hplain:=hplain)⟩
def EK {t:TA3} {e:Expr} {X:Cx} {o:Expr} {to:TE3} {apos cpos:Pos} (ho:jE3 X o to) (ha:jA3 X [e] t)
  (hbase:attributeBase o "extend" X.env (eval o X.env)=eval o X.env:=by rfl)
  (hfew:((backTo cpos (starEach [e] X.env)).all (λx=>!x.1)&&(backToKw cpos (keywordEach [] X.env)).all (λx=>x.1.isSome)
   && decide (([e]:List Expr).length+([]:List Keyword).length+(if ([]:List Keyword).isEmpty then 0 else 1)<30))=true:=by rfl)
  (hline:(apos.endLine==cpos.line)=true:=by rfl) (hs:starEach [e] X.env=(false,eval e X.env)::starEach [] X.env:=by rfl) (hplain:(backTo cpos (starEach [] X.env)).any (·.1)=false:=by rfl):jE3 X (.Call (.Attribute o "extend" apos) [e] [] cpos) (bm3 DM to t):=
 ⟨qcg (ho:=ho.h) (ha:=ha.h) (hbase:=hbase) (hfew:=hfew) (hline:=hline) (hs:=hs) (hplain:=hplain)⟩
def JN {te:TE3} {pos:Pos} {e:Expr} {X:Cx} {tn:Str} {ty:String} {p p2:Pos} (he:jE3 X e te) (hg:Gl X "isinstance") (hm:X.mg "isinstance" = none) (hg2:Gl X tn) (hm2:X.mg tn=none) (hv:bootBuiltins tn=some (.type ty)) (hmem:ty∈TH:=by decide) (hn:tn≠"__name__" := by decide) (hdb:(tn==("__debug__" : Str))=false:=by decide)
  (hs:starEach [e,.Name tn p2] X.env=(false,eval e X.env)::starEach [.Name tn p2] X.env:=by rfl) (hs2:starEach [.Name tn p2] X.env=(false,eval (.Name tn p2) X.env)::starEach [] X.env:=by rfl) (hpl:(backTo pos (starEach [.Name tn p2] X.env)).any (·.1)=false:=by rfl):jE3 X (.Call (.Name "isinstance" p) [e,.Name tn p2] [] pos) (YL (λt=>z9 t ty) te):=
 ⟨qnS (he:=he.h) (hg:=hg) (hm:=hm) (hg2:=hg2) (hm2:=hm2) (hv:=hv) (hmem:=hmem) (hn:=hn) (hdb:=hdb) (hs:=hs) (hs2:=hs2) (hpl:=hpl)⟩
def qN {X:Cx} :jB3 X [] qt:=
 ⟨qmH ⟩
def qf {j8:List Stmt} {st:Stmt} {t1:TS3} {t2:TS3} {X:Cx} (h1:jS3 X st t1) (h2:jB3 X j8 t2):jB3 X (st::j8) (qv t1 t2):=
 ⟨qiR (h1:=h1.h) (h2:=h2.h)⟩
def qm {st:Stmt} {t1:TS3} {X:Cx} (h1:jS3 X st t1):jB3 X [st] t1:=
 ⟨qna (h1:=h1.h)⟩
def YY {te:TE3} {pos:Pos} {e:Expr} {X:Cx} (he:jE3 X e te) (hs:swapsWith e none pos.line X.env=pure false:=by rfl):jS3 X (.Expr e pos) (zZ te):=
 ⟨qhi (he:=he.h) (hs:=hs)⟩
def qr {te:TE3} {pos:Pos} {e:Expr} {X:Cx} (he:jE3 X e te):jS3 X (.Return (some e) pos) (qH te):=
 ⟨qnz (he:=he.h)⟩
def zw {tA:TT3} {t1:TS3} {t2:TS3} {pos:Pos} {X:Cx} {c:Expr} {ba bb:List Stmt} (hc:jC3 X c tA) (ha:jB3 X ba t1) (hb:jB3 X bb t2):jS3 X (.If c ba bb pos) (qY tA t1 t2):=
 ⟨qpL (hc:=hc.h) (ha:=ha.h) (hb:=hb.h)⟩
def K6 {X:Cx} {sts:List Stmt}:jB3 X sts WL:=
 ⟨qfA ⟩
def qw {pos:Pos} {X:Cx} {i:Nat} {x:Str} (hN:X.N.Nodup) (hi:X.N[i]?=some x:=by rfl) (hx:Loc X.env.scope x:=by first|exact Or.inl rfl|exact Or.inr rfl) (hf:X.fn x=true\/X.env.scope.names.lookup x=some .local:=by first|exact .inl rfl|exact .inr rfl):jG3 X (.Name x pos) (gn3 i):=
 ⟨qg3 (hN:=hN) (hi:=hi) (hx:=hx) (hf:=hf)⟩
def jB {X:Cx} :jGs3 X [] zn:=
 ⟨qne ⟩
def qy {es:List Expr} {X:Cx} {tg:TG3} {tgs:SN} (h1:jG3 X e tg) (h2:jGs3 X es tgs) (hs:(assignEach (e::es) X.env).map (·.2)=assign e X.env::(assignEach es X.env).map (·.2):=by rfl):jGs3 X (e::es) (qp tg tgs):=
 ⟨qko (h1:=h1.h) (h2:=h2.h) (hs:=hs)⟩
def jz {pos:Pos} {es:List Expr} {X:Cx} {k:Nat} {tgs:SN} {n:Nat} (hc:X.calm=true) (h:jGs3 X es tgs) (hn:(assignEach es X.env).length=n:=by rfl) (hst:(assignEach es X.env).findIdx? (·.1)=none:=by rfl):jG3 X (.Tuple es k pos) (zl n tgs):=
 ⟨qnM (hc:=hc) (h:=h.h) (hn:=hn) (hst:=hst)⟩
def qeQ {pos : Pos} {X : Cx} {o i : Expr} {to ti : TE3} (ho : jE3 X o to) (hi : jE3 X i ti) (ha : ∀ v,assign (.Subscript o i pos) X.env v = (do
      let ov←holding [v] (eval o X.env)
      let iv←holding [v,ov] (eval i X.env)
      standAt pos
      holding [v,ov,iv] (setItem ov iv v)
      release [v,ov,iv] []):=by intro _;rfl):jG3 X (.Subscript o i pos) (jT to ti):=
  ⟨qmN (ho:=ho.h) (hi:=hi.h) (ha:=ha)⟩
def QI {te:TE3} {pos:Pos} {X:Cx} {tg e:Expr} {g:TG3} (he:jE3 X e te) (hg:jG3 X tg g) (hs:swapsWithSole [tg] e pos.line X.env=pure false:=by rfl) (hw:swappedStores [tg] e X.env=pure none:=by rfl)
  (h1:(assignEach [tg] X.env).map (·.2)=[assign tg X.env]:=by rfl):jS3 X (.Assign [tg] e pos) (qJ te g):=
 ⟨qn7 (he:=he.h) (hg:=hg.h) (hs:=hs) (hw:=hw) (h1:=h1)⟩
def qI {te:TE3} {pos:Pos} {X:Cx} (i:Nat) {x:Str} {e:Expr} {pos':Pos} (hN:X.N.Nodup) (he:jE3 X e te) (hi:X.N[i]?=some x:=by rfl) (hx:Loc X.env.scope x:=by first|exact Or.inl rfl|exact Or.inr rfl) (hs:swapsWith e (some (.Name x pos')) pos.line X.env=pure false:=by rfl) (hf:X.fn x=true\/X.env.scope.names.lookup x=some .local:=by first|exact .inl rfl|exact .inr rfl):jS3 X (.Assign [.Name x pos'] e pos) (qJ te (gn3 i)):=
 ⟨qm2 (i:=i) (hN:=hN) (he:=he.h) (hi:=hi) (hx:=hx) (hs:=hs) (hf:=hf)⟩
def Z8 {pos:Pos} {X:Cx} {i j:Nat} {x y:Str} {a b:Expr} {tt:TA3} {px py pt:Pos} {kt k2 pt2} (hc:X.calm=true) (hN:X.N.Nodup) (hi:X.N[i]?=some x) (hj:X.N[j]?=some y) (hij:i≠j)
  (hx:X.env.scope.names.lookup x=some .local) (hy:X.env.scope.names.lookup y=some .local) (ha:jA3 X [a,b] tt)
  (hw:swappedStores [.Tuple [.Name x px,.Name y py] kt pt] (.Tuple [a,b] k2 pt2) X.env=pure (some [x,y]):=by rfl)
  (hs:swapsWithSole [.Tuple [.Name x px,.Name y py] kt pt] (.Tuple [a,b] k2 pt2) pos.line X.env=pure false:=by rfl):jS3 X (.Assign [.Tuple [.Name x px,.Name y py] kt pt] (.Tuple [a,b] k2 pt2) pos) (QS i j tt):=
 ⟨qmP (hc:=hc) (hN:=hN) (hi:=hi) (hj:=hj) (hij:=hij) (hx:=hx) (hy:=hy) (ha:=ha.h) (hw:=hw) (hs:=hs)⟩
def ZW {te:TE3} {X:Cx} {tg:Expr} {l:Expr} (hl:jE3 X l te):jI3 X tg l (QP te):=
 ⟨qmG (hl:=hl.h)⟩
def qQ {t:TA3} {pos:Pos} {a:Expr} {X:Cx} {tg:Expr} {p:Pos} (hg:Gl X "range") (hm:X.mg "range" = none) (ha:jA3 X [a] t) (hs:starEach [a] X.env=[(false,eval a X.env)]:=by rfl) (h1:∀ τ G q,t τ G q->t τ G λxs G=>q xs G/\xs.length=1):jI3 X tg (.Call (.Name "range" p) [a] [] pos) (zz t):=
 ⟨qbr (hg:=hg) (hm:=hm) (ha:=ha.h) (hs:=hs) (h1:=h1)⟩
def CY {t:TA3} {pos:Pos} {a:Expr} {b:Expr} {X:Cx} {tg:Expr} {p:Pos} (hg:Gl X "range") (hm:X.mg "range" = none) (ha:jA3 X [a,b] t) (hs:starEach [a,b] X.env=[(false,eval a X.env),(false,eval b X.env)]:=by rfl) (hs2:starEach [b] X.env=[(false,eval b X.env)]:=by rfl) (h1:∀ τ G q,t τ G q->t τ G λxs G=>q xs G/\xs.length=2):jI3 X tg (.Call (.Name "range" p) [a,b] [] pos) (zz t):=
 ⟨qbq (hg:=hg) (hm:=hm) (ha:=ha.h) (hs:=hs) (hs2:=hs2) (h1:=h1)⟩
def YB {pos:Pos} {X:Cx} {tg:Expr} {iter:Expr} {body:List Stmt} {wi:TI3} {g:TG3} {tb:TS3} (hp:PassesOwn (model X.prog X.w) X.A X.env X.xe) (hc:X.calm=true) (hi:jI3 X tg iter wi) (hg:jG3 X tg g) (hb:jB3 X body tb)
  (hs:∀ x,foldedSetIterable iter X.env x=pure x:=by intro _;rfl):jS3 X (.For tg iter body [] pos) (WF wi g tb):=
 ⟨qnl (hp:=hp) (hc:=hc) (hi:=hi.h) (hg:=hg.h) (hb:=hb.h) (hs:=hs)⟩
def qcp {pos:Pos} {X:Cx} {c:Expr} {body:List Stmt} {tc:TT3} {tb:TS3} (hp:PassesOwn (model X.prog X.w) X.A X.env X.xe) (hc:jC3 X c tc) (hb:jB3 X body tb):jS3 X (.While c body [] pos) (LB tc tb):=
 ⟨qfv (hp:=hp) (hc:=hc.h) (hb:=hb.h)⟩
def qh {t:TA3} {pos:Pos} {es:List Expr} {X:Cx} {k:Nat} {x:Str} {p:Pos} {sp:Sp3} (F:Fn3 X.prog X.w X.K X.mg X.base k x sp) (hr:Room k X.A) (hg:Gl X x) (ha:jA3 X (e::es) t) (hdb:(x==("__debug__" : Str))=false:=by decide)
  (he:starEach (e::es) X.env=(false,eval e X.env)::starEach es X.env:=by rfl) (hpl:(backTo pos (starEach es X.env)).any (·.1)=false:=by rfl):jE3 X (.Call (.Name x p) (e::es) [] pos) (cb3 sp t):=
 ⟨qiz (F:=F) (hr:=hr) (hg:=hg) (ha:=ha.h) (hdb:=hdb) (he:=he) (hpl:=hpl)⟩
def J7 {X:Cx} {elt tg iter:Expr} {ifs:List Expr} {scope:Scope} {pos:Pos} (N':List Str) (m:List (Option Nat)) {wi:TI3} {g:TG3} {tif:TT3} {te:TE3} (hc:X.calm=true) (hi:jI3 X tg iter wi)
  (hg:∀ s H fp,jG3 (ql X N' scope s H fp) tg g) (hf:∀ s H fp,jF3 (ql X N' scope s H fp) ifs tif) (he:∀ s H fp,jE3 (ql X N' scope s H fp) elt te)
  (hsc:MR X.env.scope scope=true) (hcap:YE X.N N' scope m=true) (hs:∀ x,foldedSetIterable iter X.env x=pure x:=by intro _;rfl):jE3 X (.ListComp elt [⟨tg,iter,ifs,0⟩] scope pos) (lc3 wi g tif te m):=
 ⟨qpH (N':=N') (m:=m) (hc:=hc) (hi:=hi.h) (hg:=(λs H fp=>(hg s H fp).h)) (hf:=(λs H fp=>(hf s H fp).h)) (he:=(λs H fp=>(he s H fp).h)) (hsc:=hsc) (hcap:=hcap) (hs:=hs)⟩
def zF {X:Cx}:jF3 X [] tt3:=
 ⟨qmF ⟩
def qhq {t:TA3} {pos:Pos} {es:List Expr} {a:Expr} {b:Expr} {X:Cx} {p pt:Pos} {k1:Nat} (hg:Gl X "zip") (hm:X.mg "zip" = none) (ha:jA3 X [a,b] t) (hs:starEach [a,b] X.env=[(false,eval a X.env),(false,eval b X.env)]:=by rfl) (hs2:starEach [b] X.env=[(false,eval b X.env)]:=by rfl):jI3 X (.Tuple es k1 pt) (.Call (.Name "zip" p) [a,b] [] pos) (qbD t):=
 ⟨qnG (hg:=hg) (hm:=hm) (ha:=ha.h) (hs:=hs) (hs2:=hs2)⟩
def VO {X:Cx} {py spos:Pos} {elt tg iter:Expr} {ifs:List Expr} {scope:Scope} {pos:Pos} {y:Str} (i:Nat) (N':List Str) (m:List (Option Nat)) {wi:TI3} {g:TG3} {tif:TT3} {te:TE3} (hc:X.calm=true) (hN:X.N.Nodup) (hi:jI3 X tg iter wi)
  (hg:∀ s H fp,jG3 (ql X N' scope s H fp) tg g) (hf:∀ s H fp,jF3 (ql X N' scope s H fp) ifs tif) (he:∀ s H fp,jE3 (ql X N' scope s H fp) elt te)
  (hsc:MR X.env.scope scope=true) (hcap:YE X.N N' scope m=true) (hl:X.env.scope.names.lookup y=some .local) (hsw:swapsWith (.ListComp elt [⟨tg,iter,ifs,0⟩] scope pos) (some (.Name y py)) spos.line X.env=pure true) (hiy:X.N[i]?=some y:=by rfl) (hs:∀ x,foldedSetIterable iter X.env x=pure x:=by intro _;rfl):jS3 X (.Assign [.Name y py] (.ListComp elt [⟨tg,iter,ifs,0⟩] scope pos) spos) (qJ (lc3 wi g tif te m) (gn3 i)):=
 ⟨qfd (i:=i) (N':=N') (m:=m) (hc:=hc) (hN:=hN) (hi:=hi.h) (hg:=(λs H fp=>(hg s H fp).h)) (hf:=(λs H fp=>(hf s H fp).h)) (he:=(λs H fp=>(he s H fp).h)) (hsc:=hsc) (hcap:=hcap) (hl:=hl) (hsw:=hsw) (hiy:=hiy) (hs:=hs)⟩
def jpt {X:Cx} {e:Expr} {t:TT3} (h:jW3 X e t):jC3 X e t:=⟨PW.pt h.h⟩
def qO {P:Program} {w:World} {K:Frg} {mg:Str->Option Value} {base:Heap} {x qual:Str} {st:Stmt} {f:Addr} {fd:FuncData} {N ps:List Str} {k:Nat} {sp:Sp3} {t3:TS3} (F:Fun K x qual st f fd) (S:FnScope N ps (qi st)) (bd:zm K fd ps []) (hm:mg x=some (.ref f))
  (body:∀ (cdv:Value) (A:Around) (outer:List Env) (s:Shared) (H:Hp) (E:XK),Room k (A.deeper (envOfC qual (qi st) s.heap.objs.size f cdv)) ->
   jB3 (U2 CX0 P w K mg base N qual (qi st) f cdv A outer s H E).nox (zi st) t3)
  (read:∀ ts G q,sp ts G q->ts.length=ps.length/\t3 { nx:=λ_ G'=>q .non G',rt:=q } (qk N ts) G):Fn3 P w K mg base (k+1) x sp:=
 qk3 F S bd hm (λcdv A outer s H E hr=>(body cdv A outer s H E hr).h) read
def qcc {P:Program} {w:World} {K:Frg} {mg:Str->Option Value} {base:Heap} {x qual:Str} {st:Stmt} {f:Addr} {fd:FuncData} {N ps:List Str} {k:Nat} {sp:Sp3} {t3:TS3} (F:Fun K x qual st f fd) (S:FnScope N ps (qi st))
  (body:∀ (cdv:Value) (A:Around) (outer:List Env) (s:Shared) (H:Hp) (E:XK),Room k (A.deeper (envOfC qual (qi st) s.heap.objs.size f cdv)) ->
   jB3 (U2 CX0 P w K mg base N qual (qi st) f cdv A outer s H E).nox (zi st) t3)
  (read:∀ ts G q,sp ts G q->ts.length=ps.length/\t3 { nx:=λ_ G'=>q .non G',rt:=q } (qk N ts) G):FnOk P w K mg base CX0 (k+1) f fd ps (lSp K sp):=
 qgd F S (λcdv A outer s H E hr=>(body cdv A outer s H E hr).h) read
open PySem.SeqAt
def Ex (G G':Gp):Prop:=∀ b o,G b=some o->G' b=some o
def Ex.refl {G:Gp}:Ex G G:=λ_ _ e=>e
def Ex.trans {G G1 G2:Gp} (a:Ex G G1) (b:Ex G1 G2):Ex G G2:=λx o e=>b x o (a x o e)
def QB {G:Gp} {p:Addr} {o:O} (hp:G p=none):Ex G (gu G p o):=λb ob e=>by
 rw [zS (by rintro rfl;rw [hp] at e;cases e)];exact e
mutual
inductive Dp (G:Gp):T->PyData->Prop
 |non:Dp G .non .none
 |bl (b:Bool):Dp G (.bl b) (.bool b)
 |int (i:Int):Dp G (.int i) (.int i)
 |str (x:Str):Dp G (.str x) (.str x)
 |tup {xs:List T} {ds:List PyData}:Dps G xs ds->Dp G (.tup xs) (.tuple ds)
 |lst {p:Addr} {xs:List T} {ds:List PyData}:zG G p=some xs->Dps G xs ds->Dp G (.ref p) (.list ds)
inductive Dps (G:Gp):List T->List PyData->Prop
 |nil:Dps G [] []
 |cons {x:T} {d:PyData} {xs:List T} {ds:List PyData}:Dp G x d->Dps G xs ds->Dps G (x::xs) (d::ds)
end
mutual
inductive DV (K:Frg) (H:Hp):V->PyData->Prop
 |non:DV K H .non .none
 |bl (b:Bool):DV K H (.bl b) (.bool b)
 |int (i:Int):DV K H (.int i) (.int i)
 |str (x:Str):DV K H (.str x) (.str x)
 |tup {a:Addr} {vs:List V} {ds:List PyData}:SqT K H a vs->DVs K H vs ds->DV K H (.ref a) (.tuple ds)
 |lst {a:Addr} {vs:List V} {ds:List PyData}:SqL K H a vs->DVs K H vs ds->DV K H (.ref a) (.list ds)
inductive DVs (K:Frg) (H:Hp):List V->List PyData->Prop
 |nil:DVs K H [] []
 |cons {x:V} {d:PyData} {xs:List V} {ds:List PyData}:DV K H x d->DVs K H xs ds->DVs K H (x::xs) (d::ds)
end
mutual
def Dp.dv {K:Frg} {G:Gp} {H:Hp} (hr:HR K G H):∀ {x:T} {d:PyData} {v:V},Dp G x d->Rp K H x v->DV K H v d
 |_,_,_,.non,.non=>.non
 |_,_,_,.bl b,.bl _=>.bl b
 |_,_,_,.int i,.int _=>.int i
 |_,_,_,.str x,.str _=>.str x
 |_,_,_,.tup h,.tup hs rs=>.tup hs (Dps.dv hr h rs)
 |_,_,_,.lst g h,r=>by
  cases r;obtain ⟨_,hs,rs⟩:=zE hr g;exact .lst hs (Dps.dv hr h rs)
def Dps.dv {K:Frg} {G:Gp} {H:Hp} (hr:HR K G H):∀ {x:List T} {d:List PyData} {v:List V},Dps G x d->Rps K H x v->DVs K H v d
 |_,_,_,.nil,.nil=>.nil
 |_,_,_,.cons a b,.cons c d=>.cons (Dp.dv hr a c) (Dps.dv hr b d)
end
mutual
def zH:PyData->PyData->Option Bool
 |.none,.none=>some true
 |.bool a,.bool b=>some (a==b)
 |.int a,.int b=>some (a==b)
 |.str a,.str b=>some (a==b)
 |.list xs,.list ys=>QJ xs ys
 |.tuple xs,.tuple ys=>QJ xs ys
 |.int _,.none=>some false
 |.none,.int _=>some false
 |_,_=>none
def QJ:List PyData->List PyData->Option Bool
 |[],[]=>some true
 |x::xs,y::ys=>match zH x y,QJ xs ys with|some a,some b=>some (a&&b)|_,_=>none
 |_,_=>some false
end
mutual
def dpt:PyData->Nat
 |.list xs=>CT xs+1
 |.tuple xs=>CT xs+1
 |_=>0
def CT:List PyData->Nat
 |[]=>0
 |x::xs=>max (dpt x) (CT xs)
end
section
variable {X:Cx} {pins:List (Addr×Obj)} {σ:L2.St} {H:Hp} {s:Shared}
mutual
def DV.inj (I:Inv X pins σ H s):∀ {v:V} {d e:PyData},DV X.K H v d->DV X.K H v e->d=e
 |_,_,_,.non,.non=>rfl
 |_,_,_,.bl _,.bl _=>rfl
 |_,_,_,.int _,.int _=>rfl
 |_,_,_,.str _,.str _=>rfl
 |_,_,_,.tup h hs,.tup k ks=>by
  have:=I.tuple_inj h k;subst this;rw [DVs.inj I hs ks]
 |_,_,_,.lst h hs,.lst k ks=>by
  have:=I.list_inj h k;subst this;rw [DVs.inj I hs ks]
 |_,_,_,.tup h hs,.lst k ks=>by
  obtain ⟨i1,_,p1,_⟩:=I.tuple h;obtain ⟨i2,_,p2,_⟩:=I.list k;exact absurd rfl (ne_of_list_tuple p2.isList (show s.heap.IsTuple _ i1.toArray from p1))
 |_,_,_,.lst k ks,.tup h hs=>by
  obtain ⟨i1,_,p1,_⟩:=I.tuple h;obtain ⟨i2,_,p2,_⟩:=I.list k;exact absurd rfl (ne_of_list_tuple p2.isList (show s.heap.IsTuple _ i1.toArray from p1))
def DVs.inj (I:Inv X pins σ H s):∀ {v:List V} {d e:List PyData},DVs X.K H v d->DVs X.K H v e->d=e
 |_,_,_,.nil,.nil=>rfl
 |_,_,_,.cons a b,.cons c d=>by rw [DV.inj I a c,DVs.inj I b d]
end
mutual
def C1:∀ {d:PyData} {b:Bool},zH d d=some b->b=true
 |.none,_,h=>by simp [zH] at h;exact h
 |.bool _,_,h=>by simp [zH] at h;exact h
 |.int _,_,h=>by simp [zH] at h;exact h
 |.str _,_,h=>by simp [zH] at h;exact h
 |.list xs,_,h=>by simp only [zH] at h;exact UF h
 |.tuple xs,_,h=>by simp only [zH] at h;exact UF h
 |.dict _,_,h=>by simp [zH] at h
def UF:∀ {d:List PyData} {b:Bool},QJ d d=some b->b=true
 |[],_,h=>by simp [QJ] at h;exact h
 |x::xs,b,h=>by
  simp only [QJ] at h;split at h
  ·rename_i a c e1 e2;rw [C1 e1,UF e2] at h;simpa using h.symm
  ·cases h
end
def JK:∀ {xs ys:List PyData} {b:Bool},QJ xs ys=some b->xs.length=ys.length->∃ e:Nat->Bool,(∀ (j:Nat) x y,xs[j]?=some x->ys[j]?=some y->zH x y=some (e j))/\b=(List.range xs.length).all e
 |[],[],b,h,_=>by simp [QJ] at h;exact ⟨λ_=>true,by simp,by simp [h]⟩
 |x::xs,y::ys,b,h,hl=>by
  simp only [QJ] at h;split at h
  ·rename_i a c e1 e2;obtain ⟨e,h1,h2⟩:=JK e2 (by simpa using hl);refine ⟨λj=>match j with|0=>a|j+1=>e j,λj u v hu hv=>?_,?_⟩
   ·cases j with
    |zero=>simp at hu hv;subst hu;subst hv;exact e1
    |succ j=>exact h1 j u v (by simpa using hu) (by simpa using hv)
   ·rw [length_cons,List.range_succ_eq_map,List.all_cons,List.all_map];cases h;rw [h2];rfl
  ·cases h
 |[],_::_,_,_,hl=>by simp at hl
 |_::_,[],_,_,hl=>by simp at hl
def JO:∀ {xs ys:List PyData} {b:Bool},QJ xs ys=some b->xs.length≠ys.length->b=false/\∃ e:Nat->Bool,∀ (j:Nat) x y,xs[j]?=some x->ys[j]?=some y->zH x y=some (e j)
 |[],[],_,_,hl=>by simp at hl
 |[],_::_,b,h,_=>by simp [QJ] at h;exact ⟨h,λ_=>true,by simp⟩
 |_::_,[],b,h,_=>by simp [QJ] at h;exact ⟨h,λ_=>true,by simp⟩
 |x::xs,y::ys,b,h,hl=>by
  simp only [QJ] at h;split at h
  ·rename_i a c e1 e2;obtain ⟨h0,e,h1⟩:=JO e2 (by simpa using hl);subst h0;refine ⟨by simpa using h.symm,λj=>match j with|0=>a|j+1=>e j,λj u v hu hv=>?_⟩;cases j with
   |zero=>simp at hu hv;subst hu;subst hv;exact e1
   |succ j=>exact h1 j u v (by simpa using hu) (by simpa using hv)
  ·cases h
def VZ:∀ {xs:List PyData} {x:PyData},x∈xs->dpt x<=CT xs
 |[],_,h=>by simp at h
 |y::ys,x,h=>by
  simp only [CT];rcases mem_cons.mp h with e|e
  ·subst e;omega
  ·have:=VZ e;omega
def DVs.get {K:Frg} {H:Hp}:∀ {xs:List V} {ds:List PyData} {i:Nat} {x:V},DVs K H xs ds->xs[i]?=some x->∃ d,ds[i]?=some d/\DV K H x d
 |_,_,_,_,.nil,e=>by simp at e
 |_,_,0,_,.cons r _,e=>by simp at e;subst e;exact ⟨_,rfl,r⟩
 |_,_,i+1,x,.cons _ t,e=>by
  obtain ⟨u,h1,h2⟩:=DVs.get (i:=i) (x:=x) t (by simpa using e);exact ⟨u,by simpa using h1,h2⟩
def DVs.length {K:Frg} {H:Hp}:∀ {xs:List V} {ds:List PyData},DVs K H xs ds->xs.length=ds.length
 |_,_,.nil=>rfl
 |_,_,.cons _ b=>by simp [DVs.length b]
def JI {vs:List V} {us:List Value} (r:zQ vs us) {j:Nat} (h:j<us.toArray.size):∃ v,vs[j]?=some v/\jg v us.toArray[j]:=by
 have hj:j<vs.length:=by rw [r.length];simpa using h
 obtain ⟨u,hu,ru⟩:=r.get (getElem?_eq_getElem hj);refine ⟨vs[j],getElem?_eq_getElem hj,?_⟩;have hj2:j<us.length:=by simpa using h
 rw [getElem?_eq_getElem hj2] at hu;have:us[j]=u:=Option.some.inj hu;simpa [this] using ru
def CL (I:Inv X pins σ H s):∀ (n:Nat) {v u:V} {d e:PyData} {b:Bool} {x y:Value} {A:Around},DV X.K H v d->DV X.K H u e->zH d e=some b->dpt d<=n->A.units+n<cLine->jg v x->jg u y ->
  RcAt A s x y b/\EqAt A s x y b:=by
 intro n;induction n with
 |zero=>
  intro v u d e b x y A hv hu h hd hn rx ry;cases hv with
  |non=>
   cases hu with
   |non=>simp [zH] at h;subst h;cases (show x=Value.none from rx);cases (show y=Value.none from ry);exact ⟨RcAt.none_none,EqAt.same _⟩
   |int c=>simp [zH] at h;subst h;cases (show x=Value.none from rx);obtain ⟨t',rfl⟩:=(show ∃ t,y=Value.int _ t from ry);exact ⟨RcAt.none_int _ _,EqAt.none_int _ _⟩
   |bl _=>simp [zH] at h
   |str _=>simp [zH] at h
   |tup _ _=>simp [zH] at h
   |lst _ _=>simp [zH] at h
  |bl a=>cases hu<;>simp [zH] at h;subst h;cases (show x=Value.bool _ from rx);cases (show y=Value.bool _ from ry);exact ⟨RcAt.bool_bool _ _,EqAt.bool_bool _ _⟩
  |int a=>
   cases hu with
   |int c=>simp [zH] at h;subst h;obtain ⟨t,rfl⟩:=(show ∃ t,x=Value.int _ t from rx);obtain ⟨t',rfl⟩:=(show ∃ t,y=Value.int _ t from ry);exact ⟨RcAt.int_int _ _ _ _,EqAt.int_int _ _ _ _⟩
   |non=>simp [zH] at h;subst h;obtain ⟨t,rfl⟩:=(show ∃ t,x=Value.int _ t from rx);cases (show y=Value.none from ry);exact ⟨RcAt.int_none _ _,EqAt.int_none _ _⟩
   |bl _=>simp [zH] at h
   |str _=>simp [zH] at h
   |tup _ _=>simp [zH] at h
   |lst _ _=>simp [zH] at h
  |str a=>cases hu<;>simp [zH] at h;subst h;obtain ⟨t,rfl⟩:=(show ∃ t,x=Value.str _ t from rx);obtain ⟨t',rfl⟩:=(show ∃ t,y=Value.str _ t from ry);exact ⟨RcAt.str_str _ _ _ _,EqAt.str_str _ _ _ _⟩
  |tup=>simp [dpt] at hd
  |lst=>simp [dpt] at hd
 |succ n ih=>
  intro v u d e b x y A hv hu h hd hn rx ry;have fin:∀ {l l':Addr} {k:Bool},x=.ref l->y=.ref l'->v=.ref l->u=.ref l'->b=k->RcAt A s x y k->RcAt A s x y b/\EqAt A s x y b:=by
   rintro l l' k rfl rfl rfl rfl rfl rc;refine ⟨rc,?_⟩;by_cases hll:l=l'
   ·subst hll;have:=DV.inj I hv hu;subst this;rw [C1 h];exact EqAt.same _
   ·exact EqAt.of_refs hll rc
  cases hv with
  |non=>
   cases hu with
   |non=>simp [zH] at h;subst h;cases (show x=Value.none from rx);cases (show y=Value.none from ry);exact ⟨RcAt.none_none,EqAt.same _⟩
   |int c=>simp [zH] at h;subst h;cases (show x=Value.none from rx);obtain ⟨t',rfl⟩:=(show ∃ t,y=Value.int _ t from ry);exact ⟨RcAt.none_int _ _,EqAt.none_int _ _⟩
   |bl _=>simp [zH] at h
   |str _=>simp [zH] at h
   |tup _ _=>simp [zH] at h
   |lst _ _=>simp [zH] at h
  |bl a=>cases hu<;>simp [zH] at h;subst h;cases (show x=Value.bool _ from rx);cases (show y=Value.bool _ from ry);exact ⟨RcAt.bool_bool _ _,EqAt.bool_bool _ _⟩
  |int a=>
   cases hu with
   |int c=>simp [zH] at h;subst h;obtain ⟨t,rfl⟩:=(show ∃ t,x=Value.int _ t from rx);obtain ⟨t',rfl⟩:=(show ∃ t,y=Value.int _ t from ry);exact ⟨RcAt.int_int _ _ _ _,EqAt.int_int _ _ _ _⟩
   |non=>simp [zH] at h;subst h;obtain ⟨t,rfl⟩:=(show ∃ t,x=Value.int _ t from rx);cases (show y=Value.none from ry);exact ⟨RcAt.int_none _ _,EqAt.int_none _ _⟩
   |bl _=>simp [zH] at h
   |str _=>simp [zH] at h
   |tup _ _=>simp [zH] at h
   |lst _ _=>simp [zH] at h
  |str a=>cases hu<;>simp [zH] at h;subst h;obtain ⟨t,rfl⟩:=(show ∃ t,x=Value.str _ t from rx);obtain ⟨t',rfl⟩:=(show ∃ t,y=Value.str _ t from ry);exact ⟨RcAt.str_str _ _ _ _,EqAt.str_str _ _ _ _⟩
  |tup hq hs=>
   cases hu with
   |tup kq ks=>
    rename_i a1 vs1 ds1 a2 vs2 ds2;simp only [zH] at h;obtain ⟨i1,r1,p1,z1⟩:=I.tuple hq;obtain ⟨i2,r2,p2,z2⟩:=I.tuple kq;have l1:=hs.length;have l2:=ks.length;have m1:=r1.length;have m2:=r2.length;have el:∀ (e:Nat->Bool),(∀ (j:Nat) x y,ds1[j]?=some x->ds2[j]?=some y->zH x y=some (e j))->∀ j (h1:j<i1.toArray.size) (h2:j<i2.toArray.size),EqAt A.in1 s i1.toArray[j] i2.toArray[j] (e j):=λe he j h1 h2=>by
     obtain ⟨w1,g1,q1⟩:=JI r1 h1;obtain ⟨w2,g2,q2⟩:=JI r2 h2;obtain ⟨d1,f1,dv1⟩:=hs.get g1;obtain ⟨d2,f2,dv2⟩:=ks.get g2;have:=VZ (mem_of_getElem? f1);exact (ih dv1 dv2 (he j d1 d2 f1 f2) (by simp only [dpt] at hd;omega) (show A.units+1+n<cLine by omega) q1 q2).2
    cases (show x=Value.ref a1 from rx);cases (show y=Value.ref a2 from ry);by_cases hl:ds1.length=ds2.length
    ·obtain ⟨e,he,hb⟩:=JK h hl;refine fin rfl rfl rfl rfl (k:=(List.range (min i1.toArray.size i2.toArray.size)).all e&&i1.toArray.size==i2.toArray.size) ?_ (RcAt.tuples (show s.heap.IsTuple a1 i1.toArray from p1) (show s.heap.IsTuple a2 i2.toArray from p2) (by omega) (el e he));have e1:i1.toArray.size=ds1.length:=by rw [size_toArray];omega
     have e2:i2.toArray.size=ds1.length:=by rw [size_toArray];omega
     rw [e1,e2,hb];simp
    ·obtain ⟨hb,e,he⟩:=JO h hl;refine fin rfl rfl rfl rfl (k:=(List.range (min i1.toArray.size i2.toArray.size)).all e&&i1.toArray.size==i2.toArray.size) ?_ (RcAt.tuples (show s.heap.IsTuple a1 i1.toArray from p1) (show s.heap.IsTuple a2 i2.toArray from p2) (by omega) (el e he));have e1:i1.toArray.size≠i2.toArray.size:=by rw [size_toArray,size_toArray];omega
     rw [hb];simp [e1];intro;omega
   |_=>simp [zH] at h
  |lst hq hs=>
   cases hu with
   |lst kq ks=>
    rename_i a1 vs1 ds1 a2 vs2 ds2;simp only [zH] at h;obtain ⟨i1,r1,p1,z1⟩:=I.list hq;obtain ⟨i2,r2,p2,z2⟩:=I.list kq;have l1:=hs.length;have l2:=ks.length;have m1:=r1.length;have m2:=r2.length;have el:∀ (e:Nat->Bool),(∀ (j:Nat) x y,ds1[j]?=some x->ds2[j]?=some y->zH x y=some (e j))->∀ j (h1:j<i1.toArray.size) (h2:j<i2.toArray.size),EqAt A.in1 s i1.toArray[j] i2.toArray[j] (e j):=λe he j h1 h2=>by
     obtain ⟨w1,g1,q1⟩:=JI r1 h1;obtain ⟨w2,g2,q2⟩:=JI r2 h2;obtain ⟨d1,f1,dv1⟩:=hs.get g1;obtain ⟨d2,f2,dv2⟩:=ks.get g2;have:=VZ (mem_of_getElem? f1);exact (ih dv1 dv2 (he j d1 d2 f1 f2) (by simp only [dpt] at hd;omega) (show A.units+1+n<cLine by omega) q1 q2).2
    cases (show x=Value.ref a1 from rx);cases (show y=Value.ref a2 from ry);by_cases hl:ds1.length=ds2.length
    ·obtain ⟨e,he,hb⟩:=JK h hl;refine fin rfl rfl rfl rfl (k:=(List.range i1.toArray.size).all e) ?_ (RcAt.lists p1.isList p2.isList (by rw [size_toArray,size_toArray];omega) (by omega) (el e he));have e1:i1.toArray.size=ds1.length:=by rw [size_toArray];omega
     rw [e1,hb]
    ·obtain ⟨hb,e,he⟩:=JO h hl;refine fin rfl rfl rfl rfl (k:=false) hb (RcAt.lists_lengths p1.isList p2.isList (by rw [size_toArray,size_toArray];simp;omega) (by omega))
   |_=>simp [zH] at h
def qfs (I:Inv X pins σ H s) {n:Nat} {v u:V} {d e:PyData} {b:Bool} {x y:Value} {A:Around} (hv:DV X.K H v d) (hu:DV X.K H u e) (h:zH d e=some b) (hd:dpt d<=n+1) (hn:A.units+(n+1)<cLine) (rx:jg v x) (ry:jg u y) (hs:dpt d≠0):RcNeAt A s x y (!b):=by
 cases hv with
 |tup hq hs'=>
  cases hu with
  |tup kq ks=>
   rename_i a1 vs1 ds1 a2 vs2 ds2;simp only [zH] at h;obtain ⟨i1,r1,p1,z1⟩:=I.tuple hq;obtain ⟨i2,r2,p2,z2⟩:=I.tuple kq;have l1:=hs'.length;have l2:=ks.length;have m1:=r1.length;have m2:=r2.length;have el:∀ (e:Nat->Bool),(∀ (j:Nat) x y,ds1[j]?=some x->ds2[j]?=some y->zH x y=some (e j))->∀ j (h1:j<i1.toArray.size) (h2:j<i2.toArray.size),EqAt A.in1 s i1.toArray[j] i2.toArray[j] (e j):=λe he j h1 h2=>by
    obtain ⟨w1,g1,q1⟩:=JI r1 h1;obtain ⟨w2,g2,q2⟩:=JI r2 h2;obtain ⟨d1,f1,dv1⟩:=hs'.get g1;obtain ⟨d2,f2,dv2⟩:=ks.get g2;have:=VZ (mem_of_getElem? f1);exact (CL I n dv1 dv2 (he j d1 d2 f1 f2) (by simp only [dpt] at hd;omega) (show A.units+1+n<cLine by omega) q1 q2).2
   cases (show x=Value.ref a1 from rx);cases (show y=Value.ref a2 from ry);by_cases hl:ds1.length=ds2.length
   ·obtain ⟨e,he,hb⟩:=JK h hl;have:=RcNeAt.tuples (show s.heap.IsTuple a1 i1.toArray from p1) (show s.heap.IsTuple a2 i2.toArray from p2) (A:=A) (by omega) (el e he);have e1:i1.toArray.size=ds1.length:=by rw [size_toArray];omega
    have e2:i2.toArray.size=ds1.length:=by rw [size_toArray];omega
    rw [e1,e2] at this;rw [hb];simpa using this
   ·obtain ⟨hb,e,he⟩:=JO h hl;have:=RcNeAt.tuples (show s.heap.IsTuple a1 i1.toArray from p1) (show s.heap.IsTuple a2 i2.toArray from p2) (A:=A) (by omega) (el e he);have e1:(i1.toArray.size==i2.toArray.size)=false:=by rw [size_toArray,size_toArray];simp;omega
    rw [e1] at this;rw [hb];simpa using this
  |_=>simp [zH] at h
 |lst hq hs'=>
  cases hu with
  |lst kq ks=>
   rename_i a1 vs1 ds1 a2 vs2 ds2;simp only [zH] at h;obtain ⟨i1,r1,p1,z1⟩:=I.list hq;obtain ⟨i2,r2,p2,z2⟩:=I.list kq;have l1:=hs'.length;have l2:=ks.length;have m1:=r1.length;have m2:=r2.length;have el:∀ (e:Nat->Bool),(∀ (j:Nat) x y,ds1[j]?=some x->ds2[j]?=some y->zH x y=some (e j))->∀ j (h1:j<i1.toArray.size) (h2:j<i2.toArray.size),EqAt A.in1 s i1.toArray[j] i2.toArray[j] (e j):=λe he j h1 h2=>by
    obtain ⟨w1,g1,q1⟩:=JI r1 h1;obtain ⟨w2,g2,q2⟩:=JI r2 h2;obtain ⟨d1,f1,dv1⟩:=hs'.get g1;obtain ⟨d2,f2,dv2⟩:=ks.get g2;have:=VZ (mem_of_getElem? f1);exact (CL I n dv1 dv2 (he j d1 d2 f1 f2) (by simp only [dpt] at hd;omega) (show A.units+1+n<cLine by omega) q1 q2).2
   cases (show x=Value.ref a1 from rx);cases (show y=Value.ref a2 from ry);by_cases hl:ds1.length=ds2.length
   ·obtain ⟨e,he,hb⟩:=JK h hl;have:=RcNeAt.lists p1.isList p2.isList (A:=A) (by rw [size_toArray,size_toArray];omega) (by omega) (el e he);have e1:i1.toArray.size=ds1.length:=by rw [size_toArray];omega
    rw [e1] at this;rw [hb];exact this
   ·obtain ⟨hb,e,he⟩:=JO h hl;rw [hb];exact RcNeAt.lists_lengths p1.isList p2.isList (by rw [size_toArray,size_toArray];simp;omega) (by omega)
  |_=>simp [zH] at h
 |_=>simp [dpt] at hs
def qgL (K:Frg) (neg:Bool):R2:=λx y H Q=>∃ d e b,DV K H x d/\DV K H y e/\zH d e=some b/\dpt d<=40/\dpt d≠0/\Q (.bl (if neg then !b else b)) H
def qht (hu:X.A.units+64<cLine):OpR X (compareOp .Eq) (qgL X.K false):=by
 intro pins s σ H x y v u Q I rx ry h;obtain ⟨d,e,b,hx,hy,hb,hd,_,q⟩:=h;exact (CL I 40 hx hy hb hd (by omega) rx ry).1 X.prog X.w X.xe _ ⟨.bl b,H,I,rfl,q⟩
def qhD (hu:X.A.units+64<cLine):OpR X (compareOp .NotEq) (qgL X.K true):=by
 intro pins s σ H x y v u Q I rx ry h;obtain ⟨d,e,b,hx,hy,hb,hd,hs,q⟩:=h;exact qfs I (n:=40) hx hy hb (by omega) (by omega) rx ry hs X.prog X.w X.xe _ ⟨.bl (!b),H,I,rfl,q⟩
end
def zL (neg:Bool):R3:=λx y G q=>match zt x y with
 |some k=>q (.bl (if neg then !k else k)) G
 |none=>∃ d e b,Dp G x d/\Dp G y e/\zH d e=some b/\dpt d<=40/\dpt d≠0/\q (.bl (if neg then !b else b)) G
def qU {K:Frg}:D0 K (zL false) (λx y H Q=>rEq x y H Q\/qgL K false x y H Q):=λx y v u G H q Q hr rx ry h af=>by
 unfold zL at h;split at h
 ·rename_i k e;obtain ⟨h1,h2⟩:=LI rx ry e;refine .inl ⟨h1,?_⟩;rw [h2];exact af _ G h _ H (.bl _) hr Kp.refl
 ·obtain ⟨d,e,b,h1,h2,h3,h4,h5,h6⟩:=h;exact .inr ⟨d,e,b,h1.dv hr rx,h2.dv hr ry,h3,h4,h5,af _ G h6 _ H (.bl _) hr Kp.refl⟩
def S6 {K:Frg}:D0 K (zL true) (λx y H Q=>rNe x y H Q\/qgL K true x y H Q):=λx y v u G H q Q hr rx ry h af=>by
 unfold zL at h;split at h
 ·rename_i k e;obtain ⟨h1,h2⟩:=LI rx ry e;refine .inl ⟨h1,?_⟩;rw [h2];exact af _ G h _ H (.bl _) hr Kp.refl
 ·obtain ⟨d,e,b,h1,h2,h3,h4,h5,h6⟩:=h;exact .inr ⟨d,e,b,h1.dv hr rx,h2.dv hr ry,h3,h4,h5,af _ G h6 _ H (.bl _) hr Kp.refl⟩
def zv {X:Cx} (hu:X.A.units+64<cLine):OpR X (compareOp .Eq) (λx y H Q=>rEq x y H Q\/qgL X.K false x y H Q):=qnI.or (qht hu)
def NK {X:Cx} (hu:X.A.units+64<cLine):OpR X (compareOp .NotEq) (λx y H Q=>rNe x y H Q\/qgL X.K true x y H Q):=qnC.or (qhD hu)
end L3
namespace L3
open PySem PySem.Spec PyProof.Rows L2
section
variable {X:Cx} {pins:List (Addr×Obj)} {σ:L2.St} {H:Hp} {s:Shared}
end
section
variable {X:Cx}
def qgc:T->List T->Gp->Q3->Prop:=λx xs G q=>match x,xs with
 |.ref l,[]=>(match G l with|some (.lst ys)=>q .non (gu G l (.lst []))|_=>False)
 |_,_=>False
def qfS {K:Frg}:qiq K qgc qcD:=λx xs v vs G H q Q hr rx rs h af=>by
 unfold qgc at h;split at h
 ·rename_i l;split at h
  ·rename_i ys e1;cases rx;cases rs;obtain ⟨vs,g1,r1⟩:=hr.lst e1;exact ⟨l,vs,rfl,rfl,g1,af _ _ h _ _ .non (hr.wr e1 .nil) (Kp.wr e1)⟩
  ·exact h.elim
 ·exact h.elim
def qgJ (r:T->List T->Gp->Q3->Prop) (to:TE3):TE3:=λτ G q=>to τ G λx G1=>(match x with|.ref p=>(zG G1 p).isSome=true|_=>False)/\r x [] G1 q
def qll {o:Expr} {to:TE3} {name:Str} {apos cpos:Pos} {id:String} {r3:T->List T->Gp->Q3->Prop} {r:V->List V->Hp->VK->Prop} (slot:Slot "list" name id) (hty:typeOf (.builtin id)=pure (.type "method_descriptor")) (hm:MtR X id r) (hr:qiq X.K r3 r) (ho:jE3 X o to)
  (hbase:attributeBase o name X.env (eval o X.env)=eval o X.env:=by rfl) (hline:(apos.endLine==cpos.line)=true:=by rfl) :
  jE3 X (.Call (.Attribute o name apos) [] [] cpos) (qgJ r3 to):=
 ⟨UZ (qkY PySem.F.plainAttrs_list slot hty hm ho.h hbase hline) λ_ _ _ ⟨τ,G,q,rl,h,af⟩=>zr rl h λx G1 h1 v H1 rx hr1 k1 rl1=>by
  obtain ⟨hp,h1⟩:=h1;cases x<;>try exact hp.elim
  case ref p=>
   cases rx;have hp':(zG G1 p).isSome=true:=hp;obtain ⟨ys,e⟩:=Option.isSome_iff_exists.mp hp';obtain ⟨us,hs,r2⟩:=zE hr1 e;exact ⟨.inl ⟨rfl,us,hs⟩,hr _ [] _ [] G1 H1 q _ hr1 (.ref p) .nil h1 (af.back k1)⟩⟩
def qbB {o:Expr} {to:TE3} {apos cpos:Pos} (ho:jE3 X o to) (hbase:attributeBase o "clear" X.env (eval o X.env)=eval o X.env:=by rfl) (hline:(apos.endLine==cpos.line)=true:=by rfl) :
  jE3 X (.Call (.Attribute o "clear" apos) [] [] cpos) (qgJ qgc to):=qll PySem.F.slot_list_clear PySem.F.type_list_clear qbW qfS ho hbase hline
end
section
variable {prog:Program} {w:World} {A:Around} {R:Result->Shared->Prop} {s:Shared}
def CJ (elt t1 i1 t2 i2:Expr) (f1 f2:List Expr) (scope:Scope) (pos:Pos) (it acc:Value) (env:Env) :
  compTurn (.ListComp elt [⟨t1,i1,f1,0⟩,⟨t2,i2,f2,0⟩] scope pos) 0 it acc env=(do
   standAt i1.pos
   match←pyNext it with
   |none=>pure (.done .next)
   |some v=>
    letOwnedTupleGo t1 it v
    assign t1 env v
    let mut ok:=true
    for c in f1 do
     if ok then ok←isTrue c env (eval c env)
    if ok then
     let x←eval i2 env
     standAt i2.pos
     let x←foldedSetIterable i2 env x
     let _←runOwn (.compStart (.ListComp elt [⟨t1,i1,f1,0⟩,⟨t2,i2,f2,0⟩] scope pos) 1 (← holding [x] (pyIter x)) acc env) env
    again (.compLoop (.ListComp elt [⟨t1,i1,f1,0⟩,⟨t2,i2,f2,0⟩] scope pos) 0 it acc env)):=by rfl
def XW (elt t1 i1 t2 i2:Expr) (f1 f2:List Expr) (scope:Scope) (pos:Pos) (it acc:Value) (env:Env) :
  compTurn (.ListComp elt [⟨t1,i1,f1,0⟩,⟨t2,i2,f2,0⟩] scope pos) 1 it acc env=(do
   standAt i2.pos
   match←pyNext it with
   |none=>pure (.done .next)
   |some v=>
    letOwnedTupleGo t2 it v
    assign t2 env v
    let mut ok:=true
    for c in f2 do
     if ok then ok←isTrue c env (eval c env)
    if ok then
     (do let _←call (.builtin "list.append") [acc,← eval elt env])
    again (.compLoop (.ListComp elt [⟨t1,i1,f1,0⟩,⟨t2,i2,f2,0⟩] scope pos) 1 it acc env)):=by rfl
def Z0 {elt t1 i1 t2 i2:Expr} {f1 f2:List Expr} {scope:Scope} {pos:Pos} {it acc:Value} {env:Env}
  (h0:codeAny (model prog w) A (.compLoop (.ListComp elt [⟨t1,i1,f1,0⟩,⟨t2,i2,f2,0⟩] scope pos) 1 it acc env) R s)
  (h:wpAny (model prog w) A (pyIter it) (λit' s'=>codeAny (model prog w) A (.compLoop (.ListComp elt [⟨t1,i1,f1,0⟩,⟨t2,i2,f2,0⟩] scope pos) 1 it' acc env) R s')
   (notedBy (model prog w) A env λx s'=>R (.error x) s') s) :
  codeAny (model prog w) A (.compStart (.ListComp elt [⟨t1,i1,f1,0⟩,⟨t2,i2,f2,0⟩] scope pos) 1 it acc env) R s:=by
 refine codeAny_of_tree ?_;show wpAny _ _ ((compStart (.ListComp elt [⟨t1,i1,f1,0⟩,⟨t2,i2,f2,0⟩] scope pos) 1 it acc env).onRaise (λx=>do noteFrame x env;standAt theWindowsPlace)) _ _ s;refine wpAny_notedAt ?_;unfold compStart;show wpAny _ _ (ask >>= _) _ _ s;refine wpAny_bind (wpAny_askSetting (wpAny_ite ?_));split
 ·first
   |exact wpAny_bind (wpAny_pure (wpAny_pure (And.intro rfl h0)))
   |exact wpAny_pure (And.intro rfl h0)
 ·first
   |exact wpAny_bind (wpAny_rule (wpAny_bind (wpAny_standAt (wpAny_bind (wpAny_mono h (λit' s' h'=>wpAny_pure (And.intro rfl h')) λ_ _ x=>x)))))
   | (refine wpAny_bind (wpAny_rule ?_);show wpAny _ _ (standAt i2.pos >>= _) _ _ s;exact wpAny_bind (wpAny_standAt (wpAny_bind (wpAny_mono h (λit' s' h'=>wpAny_pure (And.intro rfl h')) λ_ _ x=>x))))
end
def tIn (wi:TI) (g:TG) (tif:TT) (te:TE) (D:Addr) (N:L2.St->Hp->Prop) (σ:L2.St) (H:Hp):Prop:=wi σ H λJ H1=>
 ∃ W:Nat->Nat->L2.St->Hp->Prop,(∃ n,W 0 n σ H1)/\∀ i n σ H,W i n σ H ->
  (J.stop i H/\N σ H)\/(J.go i H/\∀ x H',J.yld i H x H'->g x σ H' λσ2 H2=>tif σ2 H2 λk H3=>
   if k=true then te σ2 H3 λy H4=>∃ zs,H4 D=some (.lst zs)/\zs.length<sizeLine/\∃ n',n'<n/\W (i+1) n' σ2 (upd H4 D (.lst (zs++[y])))
   else ∃ n',n'<n/\W (i+1) n' σ2 H3)
section
variable {X:Cx}
def qhP {elt t1 i1 t2 i2:Expr} {f1 f2:List Expr} {scope:Scope} {pos:Pos} {wi:TI} {g:TG} {tif:TT} {te:TE} {D:Addr} {N:L2.St->Hp->Prop} (hc:X.calm=true) (hx:∀ v s,¬ X.xe v s) (hi:PI X t2 i2 wi) (hg:PG X t2 g) (hf:PF X f2 tif) (he:PE X elt te)
    (hs:∀ x,foldedSetIterable i2 X.env x=pure x) {pins:List (Addr×Obj)} {s:Shared} {σ:L2.St} {H:Hp} {E:Value->Shared->Prop} {α:Type} {kk:Sem α} {Q:α->Shared->Prop} (I:Inv X pins σ H s) (h:tIn wi g tif te D N σ H) (hk:∀ s' σ' H',Inv X pins σ' H' s'->N σ' H'->wpAny (model X.prog X.w) X.A kk Q E s') :
    wpAny (model X.prog X.w) X.A (do
            let x←eval i2 X.env
            standAt i2.pos
            let x←foldedSetIterable i2 X.env x
            let _←runOwn (.compStart (.ListComp elt [⟨t1,i1,f1,0⟩,⟨t2,i2,f2,0⟩] scope pos) 1 (← holding [x] (pyIter x)) (.ref D) X.env) X.env
            kk) Q E s:=by
  refine wpAny_bind (wpAny_mono (hi pins s σ H _ I h) (λv s1 h1=>?_) λ_ _ z=>(hx _ _ z).elim);refine wpAny_bind (wpAny_standAt (wpAny_bind (wpAny_of_eq (hs v) ?_)));refine wpAny_bind (wpAny_holding (wpAny_mono h1 (λitv s2 h2=>?_) λ_ _ z=>(hx _ _ z).elim));obtain ⟨it,fp,tn,J,H2,rfl,I2,T,st2,f2',W,⟨n0,w0⟩,turn⟩:=h2;have stat:∀ {H':Hp},(∀ b∈fp,H' b=none)->∀ b∈fp,RO X pins H' b:=λhn b hb=>⟨hn b hb,(f2' b hb).2⟩
  refine wpAny_bind (wpAny_runOwn ?_);show codeAny (model X.prog X.w) X.A (.compStart (.ListComp elt [⟨t1,i1,f1,0⟩,⟨t2,i2,f2,0⟩] scope pos) 1 (.ref it) (.ref D) X.env) _ s2;have loop:codeAny (model X.prog X.w) X.A (.compLoop (.ListComp elt [⟨t1,i1,f1,0⟩,⟨t2,i2,f2,0⟩] scope pos) 1 (.ref it) (.ref D) X.env) (λr s'=>match r with
      |.ok f=>wpAny (model X.prog X.w) X.A kk Q E s'
      |.error e=>cameBackBy (model X.prog X.w) X.A X.env E e s') s2:=by
    refine codeAny_loop rfl (λn s'=>∃ i σ' H',Inv X pins σ' H' s'/\tn i s'.heap/\(∀ b∈fp,H' b=none)/\W i n σ' H') (λn s' hI=>?_) n0 ⟨0,σ,H2,I2,st2,λb hb=>(f2' b hb).1,w0⟩;show wpAny _ X.A ((compTurn (.ListComp elt [⟨t1,i1,f1,0⟩,⟨t2,i2,f2,0⟩] scope pos) 1 (.ref it) (.ref D) X.env).onRaise (λx=>do noteFrame x X.env;theTreesLotGoes x)) _ _ s';refine wpAny_noted ?_;rw [XW];refine wpAny_bind (wpAny_standAt (wpAny_bind ?_));obtain ⟨i,σ5,H5,I5,st5,fr5,w5⟩:=hI;rcases turn i n σ5 H5 w5 with ⟨stop,q⟩|⟨go,step⟩
    · refine thn (T.done X rfl rfl rfl hc i pins s' σ5 H5 _ I5 (stat fr5) st5 stop) λr s6 ⟨hr,I6⟩=>?_;subst hr;exact wpAny_pure (hk _ σ5 H5 I6 q)
    · refine thn (T.item X rfl rfl rfl hc i pins s' σ5 H5 _ I5 (stat fr5) st5 go) λr s6 ⟨u,hr,h6⟩=>?_;subst hr;refine wpAny_bind (thn h6 λ_ s7 ⟨x,H7,I7,r7,y7,st7,fr7⟩=>?_);have I7':=I7.pinned (stat fr7) (T.obj _ _ st7);have again:∀ {σ8:L2.St} {H8:Hp} {s8:Shared},Inv X (pins++UP fp s7.heap) σ8 H8 s8->(∃ n',n'<n/\W (i+1) n' σ8 H8) ->
          ∃ m',m'<n/\∃ i σ' H',Inv X pins σ' H' s8/\tn i s8.heap/\(∀ b∈fp,H' b=none)/\W i m' σ' H':=λ{σ8 H8 s8} I8 ⟨n',hn,w8⟩=>by
        refine ⟨n',hn,i+1,σ8,H8,I8.unpinned,T.keep _ _ _ st7 λb hb o e=>(I8.pin (b,o) (mem_append_right _ (mem_append_right _ (zy hb e)))).1,λb hb=>?_,w8⟩;obtain ⟨o,e,d⟩:=T.obj _ _ st7 b hb;exact (I8.pin (b,o) (mem_append_right _ (mem_append_right _ (zy hb e)))).2.1
      refine wpAny_bind (wpAny_mono (hg _ s7 σ5 H7 x u _ I7' r7 (step x H7 y7)) (λ_ s8 ⟨σ8,H8,I8,q8⟩=>?_) λ_ _ z=>(hx _ _ z).elim);refine wpAny_bind (wpAny_mono (hf _ s8 σ8 H8 _ I8 q8) (λk s9 ⟨H9,I9,q9⟩=>?_) λ_ _ z=>(hx _ _ z).elim);cases k with
      |false=>
        rw [if_neg Bool.false_ne_true] at q9;exact wpAny_pure ⟨rfl,again I9 q9⟩
      |true=>
        rw [if_pos rfl] at q9;refine wpAny_bind (wpAny_bind (wpAny_mono (he _ s9 σ8 H9 _ I9 q9) (λw s10 ⟨y,H10,I10,r10,q10⟩=>?_) λ_ _ z=>(hx _ _ z).elim));obtain ⟨zs,hz,hl,q10⟩:=q10;refine wpAny_bind (wpAny_mono (VC (X:=X) _ s10 σ8 H10 (.ref D) [y] (.ref D) [w] (λ_ H11=>H11=upd H10 D (.lst (zs++[y]))) I10 rfl (.cons r10 .nil) ⟨D,zs,y,rfl,rfl,hz,hl,rfl⟩) (λ_ s11 ⟨_,H11,I11,_,e11⟩=>?_) λ_ _ z=>(hx _ _ z).elim);subst e11;exact wpAny_pure (wpAny_pure ⟨rfl,again I11 q10⟩)
  exact Z0 loop (T.self X.A 0 _ _ _ st2 loop)
def qpN (wi:TI) (g:TG) (tif:TT) (wi2:TI) (g2:TG) (tif2:TT) (te:TE) (m:List (Option Nat)):TE:=λσ H Q=>wi σ H λJ H1=>∀ D,H1 D=none ->
 ∃ W:Nat->Nat->L2.St->Hp->Prop,(∃ n,W 0 n (cap m σ) (upd H1 D (.lst [])))/\∀ i n σ H,W i n σ H ->
  (J.stop i H/\Q (.ref D) H)\/(J.go i H/\∀ x H',J.yld i H x H'->g x σ H' λσ2 H2=>tif σ2 H2 λk H3=>
   if k=true then tIn wi2 g2 tif2 te D (λσ4 H4=>∃ n',n'<n/\W (i+1) n' σ4 H4) σ2 H3
   else ∃ n',n'<n/\W (i+1) n' σ2 H3)
def qiG {elt tg iter t2 i2:Expr} {ifs f2:List Expr} {scope:Scope} {pos:Pos} {N':List Str} {m:List (Option Nat)} {wi:TI} {g:TG} {tif:TT} {wi2:TI} {g2:TG} {tif2:TT} {te:TE} (hc:X.calm=true) (hi:PI X tg iter wi)
  (hg:∀ s H fp,PG (ql X N' scope s H fp) tg g) (hf:∀ s H fp,PF (ql X N' scope s H fp) ifs tif) (hi2:∀ s H fp,PI (ql X N' scope s H fp) t2 i2 wi2) (hg2:∀ s H fp,PG (ql X N' scope s H fp) t2 g2) (hf2:∀ s H fp,PF (ql X N' scope s H fp) f2 tif2) (he:∀ s H fp,PE (ql X N' scope s H fp) elt te)
  (hsc:MR X.env.scope scope=true) (hcap:YE X.N N' scope m=true) (hs:∀ x,foldedSetIterable iter X.env x=pure x:=by intro _;rfl) (hs2:∀ s H fp x,foldedSetIterable i2 (ql X N' scope s H fp).env x=pure x:=by intro _ _ _ _;rfl) :
  PE X (.ListComp elt [⟨tg,iter,ifs,0⟩,⟨t2,i2,f2,0⟩] scope pos) (qpN wi g tif wi2 g2 tif2 te m):=by
 intro pins s σ H Q I h;have sc:=V8 hsc;have hcl:∀ y∈scope.names,y.2=.free->∃ c,X.env.cells.lookup y.1=some c:=λy hy e=>by
  rcases (sc.free y hy e).2 with z|z
  ·exact I.ok.has y.1 (.inl z)
  ·exact I.ok.has y.1 (.inr z)
 rw [eval_ListComp];refine wpAny_comprehension_free (use:=none) (g:=⟨tg,iter,ifs,0⟩) (gs:=[⟨t2,i2,f2,0⟩]) rfl hs (ZH hcl) sc.kind sc.loc ?_;show wpAny _ _ (eval iter X.env) _ _ s;refine thn (hi pins s σ H _ I h) λv s1 h1=>thn h1 λitv s2 h2=>?_;obtain ⟨it,fp,tn,J,H2,rfl,I2,T,st2,fF2,hW⟩:=h2;refine wpAny_newObj_type ?_;have hD:H2 s2.heap.objs.size=none:=I2.fresh;obtain ⟨W,⟨n0,w0⟩,turn⟩:=hW _ hD;generalize hDe:s2.heap.objs.size=D at *;have I3:Inv X pins σ (upd H2 D (.lst [])) { s2 with heap:=s2.heap.push { cls:=.type "list",dict:=none,data:=.seq ([]:List Value).toArray } }:=by
  subst hDe;exact I2.laid (t':=s2.toks) (λb u e=>Heap.get?_push_of_some _ e) (Nat.le_refl _) ⟨Nat.zero_le _,[],0,.nil,Heap.get?_push_size _ rfl⟩
 have ob2:=T.obj 0 _ st2;have ob3:∀ b∈fp,∃ o,(s2.heap.push { cls:=.type "list",dict:=none,data:=.seq ([]:List Value).toArray }).get? b=some o:=λb hb=>let ⟨o,e,_⟩:=ob2 b hb;⟨o,Heap.get?_push_of_some _ e⟩
 have f3:∀ b∈fp,RO X pins (upd H2 D (.lst [])) b:=λb hb=>by
  obtain ⟨o,e,_⟩:=ob2 b hb;have:b≠D:=by rw [← hDe];exact Nat.ne_of_lt (Heap.lt_size e)
  exact ⟨by rw [qz this];exact (fF2 b hb).1,(fF2 b hb).2⟩
 have k23:∀ b o,s2.heap.get? b=some o->(s2.heap.push { cls:=.type "list",dict:=none,data:=.seq ([]:List Value).toArray }).get? b=some o:=λb o e=>Heap.get?_push_of_some _ e;generalize hH3:upd H2 D (.lst [])=H3 at *;generalize hs3:({ s2 with heap:=s2.heap.push { cls:=.type "list",dict:=none,data:=.seq ([]:List Value).toArray } }:Shared)=s3 at *;have ob3:∀ b∈fp,∃ o,s3.heap.get? b=some o:=by rw [← hs3];exact ob3
 have k23:∀ b o,s2.heap.get? b=some o->s3.heap.get? b=some o:=by rw [← hs3];exact k23
 refine jK λh₁ hns hk hown=>?_;have I4:Inv (ql X N' scope s3 H3 fp) [] (cap m σ) H3 { s3 with heap:=h₁ }:=CM hc I3 sc hcap f3 ob3 hns hk hown;have tn4:tn 0 h₁:=T.keep _ _ _ st2 λb hb o e=>hk b o (k23 b o e);have fr4:∀ b∈fp,H3 b=none:=λb hb=>(f3 b hb).1;have stat:∀ {H':Hp},(∀ b∈fp,H' b=none)->∀ b∈fp,RO (ql X N' scope s3 H3 fp) [] H' b:=λhn b hb=>by
  refine ⟨hn b hb,I4.ok.exf b hb |>.1,I4.ok.exfs b hb,.inl hb,λx c e=>(I4.ok.exf b hb).2 x c e,λp hp=>absurd (show p∈([]:List (Addr×Obj)) from hp) (by simp)⟩
 show codeAny (model X.prog X.w) X.A (.compStart (.ListComp elt [⟨tg,iter,ifs,0⟩,⟨t2,i2,f2,0⟩] scope pos) 0 (.ref it) (.ref D) (ql X N' scope s3 H3 fp).env) (compPost (model X.prog X.w) X.A X.xe none (EP X pins σ Q) (.ref D) s3.heap.objs.size) { s3 with heap:=h₁ };have loop:codeAny (model X.prog X.w) X.A (.compLoop (.ListComp elt [⟨tg,iter,ifs,0⟩,⟨t2,i2,f2,0⟩] scope pos) 0 (.ref it) (.ref D) (ql X N' scope s3 H3 fp).env) (compPost (model X.prog X.w) X.A X.xe none (EP X pins σ Q) (.ref D) s3.heap.objs.size) { s3 with heap:=h₁ }:=by
  refine codeAny_loop rfl (λn s'=>∃ i σ' H',Inv (ql X N' scope s3 H3 fp) [] σ' H' s'/\tn i s'.heap/\(∀ b∈fp,H' b=none)/\W i n σ' H') (λn s' hI=>?_) n0 ⟨0,cap m σ,H3,I4,tn4,fr4,w0⟩;show wpAny _ X.A ((compTurn (.ListComp elt [⟨tg,iter,ifs,0⟩,⟨t2,i2,f2,0⟩] scope pos) 0 (.ref it) (.ref D) (ql X N' scope s3 H3 fp).env).onRaise (λx=>do noteFrame x (ql X N' scope s3 H3 fp).env;theTreesLotGoes x)) _ _ s';refine wpAny_noted ?_;rw [CJ];refine wpAny_bind (wpAny_standAt (wpAny_bind ?_));obtain ⟨i,σ5,H5,I5,st5,fr5,w5⟩:=hI;rcases turn i n σ5 H5 w5 with ⟨stop,q⟩|⟨go,step⟩
  ·refine thn (T.done (ql X N' scope s3 H3 fp) rfl rfl rfl rfl i [] s' σ5 H5 _ I5 (stat fr5) st5 stop) λr s6 ⟨hr,I6⟩=>?_;subst hr;refine wpAny_pure ?_;obtain ⟨mm,hn6,_⟩:=I6.loc;exact ⟨mm,hn6,λh' sb=>⟨.ref D,H5,UM I3 f3 I6 sb,rfl,q⟩⟩
  ·refine thn (T.item (ql X N' scope s3 H3 fp) rfl rfl rfl rfl i [] s' σ5 H5 _ I5 (stat fr5) st5 go) λr s6 ⟨u,hr,h6⟩=>?_;subst hr;refine wpAny_bind (thn h6 λ_ s7 ⟨x,H7,I7,r7,y7,st7,fr7⟩=>?_);have I7':=I7.pinned (stat fr7) (T.obj _ _ st7);have again:∀ {σ8:L2.St} {H8:Hp} {s8:Shared},Inv (ql X N' scope s3 H3 fp) ([]++UP fp s7.heap) σ8 H8 s8->(∃ n',n'<n/\W (i+1) n' σ8 H8) ->
     ∃ m',m'<n/\∃ i σ' H',Inv (ql X N' scope s3 H3 fp) [] σ' H' s8/\tn i s8.heap/\(∀ b∈fp,H' b=none)/\W i m' σ' H':=λ{σ8 H8 s8} I8 ⟨n',hn,w8⟩=>by
    refine ⟨n',hn,i+1,σ8,H8,I8.unpinned,T.keep _ _ _ st7 λb hb o e=>(I8.pin (b,o) (mem_append_right _ (mem_append_right _ (zy hb e)))).1,λb hb=>?_,w8⟩;obtain ⟨o,e,d⟩:=T.obj _ _ st7 b hb;exact (I8.pin (b,o) (mem_append_right _ (mem_append_right _ (zy hb e)))).2.1
   refine wpAny_bind (wpAny_mono (hg s3 H3 fp _ s7 σ5 H7 x u _ I7' r7 (step x H7 y7)) (λ_ s8 ⟨σ8,H8,I8,q8⟩=>?_) λ_ _ z=>z.elim);refine wpAny_bind (wpAny_mono (hf s3 H3 fp _ s8 σ8 H8 _ I8 q8) (λk s9 ⟨H9,I9,q9⟩=>?_) λ_ _ z=>z.elim);cases k with
   |false=>
    rw [if_neg Bool.false_ne_true] at q9;exact wpAny_pure ⟨rfl,again I9 q9⟩
   |true=>
    rw [if_pos rfl] at q9;refine qhP (X:=ql X N' scope s3 H3 fp) rfl (λ_ _ z=>z) (hi2 s3 H3 fp) (hg2 s3 H3 fp) (hf2 s3 H3 fp) (he s3 H3 fp) (hs2 s3 H3 fp) I9 q9 λs10 σ10 H10 I10 q10=>?_;exact wpAny_pure ⟨rfl,again I10 q10⟩
 exact codeAny_compStart_list loop (T.self X.A 0 _ _ _ tn4 loop)
end
def qgN (D:Addr) (stay:Gp->Prop) (g:TG3) (tif:TT3) (te:TE3) (N:St3->Gp->Prop):List T->St3->Gp->Prop
 |[],τ,G=>stay G/\N τ G
 |x::r,τ,G=>stay G/\g x τ G λτ2 G2=>tif τ2 G2 λk G3=>
  if k=true then te τ2 G3 λy G4=>(match G4 D with|some (.lst ys)=>ys.length<sizeLine/\qgN D stay g tif te N r τ2 (gu G4 D (.lst (ys++[y])))|_=>False) else qgN D stay g tif te N r τ2 G3
def qaJ (D:Addr) (stay:Gp->Prop) (g:TG3) (tif:TT3) (wi2:TI3) (g2:TG3) (tif2:TT3) (te:TE3) (q:Q3):List T->St3->Gp->Prop
 |[],_,G=>stay G/\q (.ref D) G
 |x::r,τ,G=>stay G/\g x τ G λτ2 G2=>tif τ2 G2 λk G3=>
  if k=true then wi2 τ2 G3 λitems2 stay2 G4=>qgN D stay2 g2 tif2 te (λτ' G'=>qaJ D stay g tif wi2 g2 tif2 te q r τ' G') items2 τ2 G4 else qaJ D stay g tif wi2 g2 tif2 te q r τ2 G3
def ql7 (wi:TI3) (g:TG3) (tif:TT3) (wi2:TI3) (g2:TG3) (tif2:TT3) (te:TE3) (m:List (Option Nat)):TE3:=λτ G q=>wi τ G λitems stay G1=>∀ D,G1 D=none->qaJ D stay g tif wi2 g2 tif2 te q items (cap m τ) (gu G1 D (.lst []))
section
variable {K:Frg}
def qf1 {wi2:TI3} {g2:TG3} {tif2:TT3} {te:TE3} {D:Addr} {N3:St3->Gp->Prop} {N:L2.St->Hp->Prop} {τ:St3} {G:Gp} {σ:L2.St} {H:Hp} {Gb:Gp} {Hb:Hp} (rl:Rel K τ G σ H) (kb:Kp Gb Hb G H) (h:wi2 τ G λitems stay G1=>qgN D stay g2 tif2 te N3 items τ G1)
  (hN:∀ τ' G' σ' H',Rel K τ' G' σ' H'->Kp Gb Hb G' H'->N3 τ' G'->N σ' H'):tIn (lI K wi2) (lG K g2) (lT K tif2) (lE K te) D N σ H:=by
 refine ⟨τ,G,_,rl,h,λitems stay G1 h1 J H1 hr1 k1 ok=>?_⟩;refine ⟨λi n σ' H'=>n=items.length-i/\i<=items.length/\∃ τ' G',Rel K τ' G' σ' H'/\Kp G1 H1 G' H'/\qgN D stay g2 tif2 te N3 (items.drop i) τ' G',⟨_,rfl,Nat.zero_le _,τ,G1,rl.next hr1 k1,Kp.refl,by simpa using h1⟩,?_⟩;rintro i n σ' H' ⟨rfl,hi,τ',G',rl',k',h'⟩;by_cases hlt:i<items.length
 ·rw [List.drop_eq_getElem_cons hlt] at h';obtain ⟨hst,h'⟩:=h';obtain ⟨go,yld,_⟩:=ok G' H' rl'.hp k' hst;have hx:items[i]?=some items[i]:=getElem?_eq_getElem hlt;refine .inr ⟨go i _ hx,λv H2 y=>?_⟩;obtain ⟨rv,hr2,k2⟩:=yld i _ v H2 hx y;refine ⟨_,τ',G',_,rv,rl'.next hr2 k2,h',λτ3 G3 h3 σ3 H3 rl3 k3=>⟨τ3,G3,_,rl3,h3,λk G4 h4 H4 hr4 k4=>?_⟩⟩;have kk:=(k2.trans k3).trans k4;cases k with
  |false=>
   rw [if_neg Bool.false_ne_true] at h4;refine qmq ?_;exact ⟨_,by omega,rfl,hlt,τ3,G4,rl3.next hr4 k4,k'.trans kk,h4⟩
  |true=>
   rw [if_pos rfl] at h4;refine qml ?_;refine ⟨τ3,G4,_,rl3.next hr4 k4,h4,λz G5 h5 w H5 rw5 hr5 k5=>?_⟩;split at h5
   ·rename_i ys e1;obtain ⟨vs,g1,r1⟩:=hr5.lst e1;exact ⟨vs,g1,by rw [← r1.length];exact h5.1,_,by omega,rfl,hlt,τ3,_,((rl3.next hr4 k4).next hr5 k5).next (hr5.wr e1 (r1.append (.cons rw5 .nil))) (Kp.wr e1),((k'.trans kk).trans k5).trans (Kp.wr e1),h5.2⟩
   ·exact h5.elim
 ·have e:i=items.length:=by omega
  subst e;rw [List.drop_length] at h';obtain ⟨_,_,stop⟩:=ok G' H' rl'.hp k' h'.1;exact .inl ⟨stop,hN _ _ _ _ rl' ((kb.trans k1).trans k') h'.2⟩
end
section
variable {X:Cx}
def qox {elt tg iter t2 i2:Expr} {ifs f2:List Expr} {scope:Scope} {pos:Pos} (N':List Str) (m:List (Option Nat)) {wi:TI3} {g:TG3} {tif:TT3} {wi2:TI3} {g2:TG3} {tif2:TT3} {te:TE3} (hc:X.calm=true) (hi:I3 X tg iter wi)
  (hg:∀ s H fp,G3 (ql X N' scope s H fp) tg g) (hf:∀ s H fp,F3 (ql X N' scope s H fp) ifs tif) (hi2:∀ s H fp,I3 (ql X N' scope s H fp) t2 i2 wi2) (hg2:∀ s H fp,G3 (ql X N' scope s H fp) t2 g2) (hf2:∀ s H fp,F3 (ql X N' scope s H fp) f2 tif2) (he:∀ s H fp,E3 (ql X N' scope s H fp) elt te)
  (hsc:MR X.env.scope scope=true) (hcap:YE X.N N' scope m=true) (hs:∀ x,foldedSetIterable iter X.env x=pure x:=by intro _;rfl) (hs2:∀ s H fp x,foldedSetIterable i2 (ql X N' scope s H fp).env x=pure x:=by intro _ _ _ _;rfl) :
  E3 X (.ListComp elt [⟨tg,iter,ifs,0⟩,⟨t2,i2,f2,0⟩] scope pos) (ql7 wi g tif wi2 g2 tif2 te m):=
 UZ (qiG (g:=lG X.K g) (tif:=lT X.K tif) (wi2:=lI X.K wi2) (g2:=lG X.K g2) (tif2:=lT X.K tif2) (te:=lE X.K te) hc hi hg hf hi2 hg2 hf2 he hsc hcap hs hs2) λσ H Q ⟨τ,G,q,rl,h,af⟩=>by
  refine ⟨τ,G,_,rl,h,λitems stay G1 h1 J H1 hr1 k1 ok D hD=>?_⟩;have gD:G1 D=none:=hr1.free hD;have h1:=h1 D gD;have hr1':HR X.K (gu G1 D (.lst [])) (upd H1 D (.lst [])):=HR.newL hr1 hD .nil;have k1':Kp G1 H1 (gu G1 D (.lst [])) (upd H1 D (.lst [])):=Kp.newL hD;refine ⟨λi n σ' H'=>n=items.length-i/\i<=items.length/\∃ τ' G',Rel X.K τ' G' σ' H'/\Kp G1 H1 G' H'/\qaJ D stay g tif wi2 g2 tif2 te q (items.drop i) τ' G',
   ⟨_,rfl,Nat.zero_le _,cap m τ,_,((rl.next hr1 k1).cap m).next hr1' k1',k1',by simpa using h1⟩,?_⟩
  rintro i n σ' H' ⟨rfl,hi,τ',G',rl',k',h'⟩;by_cases hlt:i<items.length
  ·rw [List.drop_eq_getElem_cons hlt] at h';obtain ⟨hst,h'⟩:=h';obtain ⟨go,yld,_⟩:=ok G' H' rl'.hp k' hst;have hx:items[i]?=some items[i]:=getElem?_eq_getElem hlt;refine .inr ⟨go i _ hx,λv H2 y=>?_⟩;obtain ⟨rv,hr2,k2⟩:=yld i _ v H2 hx y;refine ⟨_,τ',G',_,rv,rl'.next hr2 k2,h',λτ3 G3 h3 σ3 H3 rl3 k3=>⟨τ3,G3,_,rl3,h3,λk G4 h4 H4 hr4 k4=>?_⟩⟩;have kk:=(k2.trans k3).trans k4;cases k with
   |false=>
    rw [if_neg Bool.false_ne_true] at h4;refine qmq ?_;exact ⟨_,by omega,rfl,hlt,τ3,G4,rl3.next hr4 k4,k'.trans kk,h4⟩
   |true=>
    rw [if_pos rfl] at h4;refine qml ?_;exact qf1 (rl3.next hr4 k4) (k'.trans kk) h4 λτ5 G5 σ5 H5 rl5 k5 h5=>⟨_,by omega,rfl,hlt,τ5,G5,rl5,k5,h5⟩
  ·have e:i=items.length:=by omega
   subst e;rw [List.drop_length] at h';obtain ⟨_,_,stop⟩:=ok G' H' rl'.hp k' h'.1;exact .inl ⟨stop,af _ _ h'.2 _ H' (.ref D) rl'.hp (k1.trans k')⟩
def qiY {elt tg iter t2 i2:Expr} {ifs f2:List Expr} {scope:Scope} {pos:Pos} (N':List Str) (m:List (Option Nat)) {wi:TI3} {g:TG3} {tif:TT3} {wi2:TI3} {g2:TG3} {tif2:TT3} {te:TE3} (hc:X.calm=true) (hi:jI3 X tg iter wi)
  (hg:∀ s H fp,jG3 (ql X N' scope s H fp) tg g) (hf:∀ s H fp,jF3 (ql X N' scope s H fp) ifs tif) (hi2:∀ s H fp,jI3 (ql X N' scope s H fp) t2 i2 wi2) (hg2:∀ s H fp,jG3 (ql X N' scope s H fp) t2 g2) (hf2:∀ s H fp,jF3 (ql X N' scope s H fp) f2 tif2) (he:∀ s H fp,jE3 (ql X N' scope s H fp) elt te)
  (hsc:MR X.env.scope scope=true) (hcap:YE X.N N' scope m=true) (hs:∀ x,foldedSetIterable iter X.env x=pure x:=by intro _;rfl) (hs2:∀ s H fp x,foldedSetIterable i2 (ql X N' scope s H fp).env x=pure x:=by intro _ _ _ _;rfl) :
  jE3 X (.ListComp elt [⟨tg,iter,ifs,0⟩,⟨t2,i2,f2,0⟩] scope pos) (ql7 wi g tif wi2 g2 tif2 te m):=
 ⟨qox N' m hc hi.h (λs H fp=>(hg s H fp).h) (λs H fp=>(hf s H fp).h) (λs H fp=>(hi2 s H fp).h) (λs H fp=>(hg2 s H fp).h) (λs H fp=>(hf2 s H fp).h) (λs H fp=>(he s H fp).h) hsc hcap hs hs2⟩
end
section
variable {X:Cx}
end
section
variable {X:Cx} {tg a b c:Expr} {pos:Pos}
end
section
variable {X:Cx}
end
section
variable {X:Cx} {a b:Expr} {ta tb:TE3} {pos:Pos}
end
end L3
namespace HT
open PySem PySem.Spec PyProof.Rows
section
variable {prog:Program} {w:World} {A:Around} {E:Value->Shared->Prop} {s:Shared}
end
end HT
namespace L3
open PySem PySem.Spec PyProof.Rows L2
section
variable {X:Cx} {e ek:Expr} {p2 pos:Pos}
end
section
variable {X:Cx} {a b:Expr} {ta tb:TE3} {pos:Pos}
end
abbrev Rd (sp:Sp3) (n:Nat) (t:TS3) (N:List Str):Prop:=∀ ts G q,sp ts G q->ts.length=n/\t { nx:=λ_ G'=>q .non G',rt:=q } (qk N ts) G
def jgn {pos:Pos} {X:Cx} {x:Str} (i:Nat) (hN:decide X.N.Nodup=true:=by kernel_rfl) (hi:X.N[i]?=some x:=by rfl) (hx:Loc X.env.scope x:=by first|exact Or.inl rfl|exact Or.inr rfl) (hf:X.fn x=true\/X.env.scope.names.lookup x=some .local:=by first|exact .inl rfl|exact .inr rfl):jG3 X (.Name x pos) (gn3 i):=
 qw (of_decide_eq_true hN) hi hx hf
end L3
namespace L2
open PySem PySem.Spec PyProof.Rows
section
variable {X:Cx} {pos:Pos}
end
end L2
namespace L3
open PySem PySem.Spec PyProof.Rows L2
section
variable {X:Cx} {pos:Pos}
end
end L3
namespace HT
open PySem PyProof.Rows
section
variable {prog:Program} {w:World} {A:Around} {E:Value->Shared->Prop} {s:Shared}
end
end HT
namespace L3
open PySem PySem.Spec PyProof.Rows L2
section
variable {X:Cx}
end
def F0 (f0:Value):Prop:=f0=.none\/∃ n:Nat,f0=rawInt n
section
variable {P:Program} {w:World} {A:Around} {s:Shared} {z ti to i1 i2 c1 c2:Addr} {S1 S2:Nat->Heap->Prop} {H1 H2:Array Value->Heap->Prop} {k1 k2:Nat} {xs ys:Array Value} {x y a b f0 f1:Value} {E:Value->Shared->Prop}
end
section
variable {P:Program} {w:World} {A:Around} {s:Shared} {E:Value->Shared->Prop}
end
section
variable {X:Cx} {a b e l:Expr} {es:List Expr} {pos:Pos} {t:TA3}
end
end L3
namespace Tb8
open PySem PySem.SetTable
end Tb8
namespace Tb8
open PySem PyProof.Rows
section
variable {prog:Program} {w:World} {A:Around} {E:Value->Shared->Prop} {s:Shared}
end
end Tb8
namespace Tb8
open PySem PyProof.Rows PySem.SetTable
section
variable {prog:Program} {w:World} {A:Around} {E:Value->Shared->Prop} {s:Shared}
end
end Tb8
namespace Tb8
open PySem PySem.SetTable
end Tb8
namespace Tb8
open PySem PyProof.Rows PySem.SetTable
section
variable {prog:Program} {w:World} {A:Around} {E:Value->Shared->Prop} {s:Shared}
end
section
variable {prog:Program} {w:World} {A:Around} {R:Result->Shared->Prop} {I:Addr} {fp wr:List Addr} {n:Nat} {P:Nat->Value->Prop} {St:Nat->Heap->Prop}
end
section
variable {prog:Program} {w:World} {A:Around} {E:Value->Shared->Prop} {s:Shared}
end
end Tb8
namespace L3
open PySem PySem.Spec PyProof.Rows L2
section
variable {X:Cx}
end
section
variable {X:Cx} {K:Frg} {w:World} {mg:Str->Option Value}
inductive Ents (K:Frg) (w:World):List DictEntry->List (Str×T)->Prop
 |nil:Ents K w [] []
 |cons {x:Str} {tk:Tok} {u:Value} {v:V} {t:T} {es:List DictEntry} {tab:List (Str×T)}:jg v u->(∀ H,Rp K H t v)->Ents K w es tab->Ents K w (⟨PyData.keyHash w.params x,.str x tk,u⟩::es) ((x,t)::tab)
def jj:List (Str×T)->Str->Option T
 |[],_=>none
 | (y,t)::r,x=>if y=x then some t else jj r x
structure Tb (K:Frg) (mg:Str->Option Value) (w:World) (x:Str) (tab:List (Str×T)):Prop where
 at_:∃ (d:Addr) (es:Array DictEntry) (ep:Nat),mg x=some (.ref d)/\K.lookup d=some ⟨.type "dict",none,.dict es ep,#[]⟩/\(d==sysModules)=false/\Ents K w es.toList tab
def Ents.keys {P:Program}:∀ {es:List DictEntry} {tab:List (Str×T)},Ents K w es tab->∀ e∈es,∃ k,(PySem.strKind P w).is k e.key=true/\e.hash=(PySem.strKind P w).hash k
 |_,_,.nil,e,h=>by cases h
 |_,_,.cons (x:=x) a b t,e,h=>by
  rcases mem_cons.mp h with rfl|h
  ·exact ⟨x,by show (x==x)=true;simp,rfl⟩
  ·exact Ents.keys t e h
def Ents.find:∀ {es:List DictEntry} {tab:List (Str×T)} (x:Str),Ents K w es tab ->
    (match jj tab x with
     |some t=>∃ (u:Value) (v:V),(es.find? λe=>Value.isStrOf x e.key).map (·.val)=some u/\jg v u/\∀ H,Rp K H t v
     |none=>(es.find? λe=>Value.isStrOf x e.key).map (·.val)=none)
  |_,_,x,.nil=>by simp [jj]
  |_,_,x,.cons (x:=y) (tk:=tk) (u:=u) (v:=v) (t:=t) (es:=es) (tab:=tab) a b r=>by
    by_cases e:y=x
    · have:Value.isStrOf x (Value.str y tk)=true:=by show (y==x)=true;simp [e]
      simp only [jj,e,if_true,List.find?_cons,this];subst e;simp only [this];exact ⟨u,v,rfl,a,b⟩
    · have:Value.isStrOf x (Value.str y tk)=false:=by show (y==x)=false;simp [e]
      have ih:=Ents.find x r;simp only [jj,e,if_false,List.find?_cons,this];exact ih
def Ents.map {P:Program} {h:Heap} {d:Addr} {es:Array DictEntry} {ep:Nat} {tab:List (Str×T)} (hd:h.get? d=some ⟨.type "dict",none,.dict es ep,#[]⟩) (en:Ents K w es.toList tab) :
  Heap.MapOf (PySem.strKind P w) h d (λx=>findBy Value.isStrOf es x):=
 ⟨_,es,ep,hd,⟨rfl,rfl,rfl⟩,rfl,λe he=>en.keys e (by simpa using he),λ_=>rfl⟩
def qpy (K:Frg) (d:Addr) (tab:List (Str×T)):R2:=λx y H Q=>x=.ref d/\∃ s t,y=.str s/\jj tab s=some t/\∀ v,Rp K H t v->Q v H
def qhm {d:Addr} {es:Array DictEntry} {ep:Nat} {tab:List (Str×T)} (hk:X.K.lookup d=some ⟨.type "dict",none,.dict es ep,#[]⟩) (en:Ents X.K X.w es.toList tab):IxR X (qpy X.K d tab):=by
 intro value slice pins s σ H x y v u Q I rx ry h hs;obtain ⟨rfl,z,t,rfl,ht,q⟩:=h;cases rx;obtain ⟨tk,rfl⟩:=ry;have hd:=I.kIn _ _ hk;have f:=en.find z;rw [ht] at f;obtain ⟨u,v,hf,rv,rp⟩:=f;have hf':findBy Value.isStrOf es z=some u:=by
  unfold findBy;rw [← Array.find?_toList];exact hf
 refine subscriptTail_builtinR (x:=u) ⟨_,hd,rfl⟩ PySem.F.slot_dict_getitem.lookup (wpAny_getItem_of (knd:=PySem.strKind X.prog X.w) (Q:=λr s'=>r=u/\EP X pins σ Q r s') (k:=z) (by show (z==z)=true;simp) (en.map hd) hf' ⟨rfl,v,H,I.tok _,rv,q v (rp H)⟩) hs
def qci (tab:List (Str×T)) (te:TE3):TE3:=λτ G q=>te τ G λx G1=>match x with|.str s=>(match jj tab s with|some t=>q t G1|none=>False)|_=>False
def qgx {x:Str} {e:Expr} {te:TE3} {tab:List (Str×T)} {p1 pos:Pos} (tb:Tb X.K X.mg X.w x tab) (hg:Gl X x) (he:jE3 X e te) (hs:UD e) (hd:(x==("__debug__" : Str))=false:=by decide):jE3 X (.Subscript (.Name x p1) e pos) (qci tab te):=by
 obtain ⟨d,es,ep,hm,hk,hn,en⟩:=tb.at_;exact ⟨UZ (qj5 (qhm hk en) (qac hg hm (v:=.ref d) rfl hd) he.h hs) λ_ _ _ ⟨τ,G,q,rl,h,af⟩=>zr rl h λy G1 h1 v H1 rx hr1 k1 rl1=>by
  cases y<;>try exact h1.elim
  case str z=>
   cases rx;unfold qci at h;simp only at h1;split at h1
   ·rename_i t ht;exact ⟨rfl,z,t,rfl,ht,λv rv=>af.back k1 _ _ h1 _ _ rv hr1 Kp.refl⟩
   ·exact h1.elim⟩
def SA (hc:X.calm=true):J6 X (.builtin "min") (λxs H Q=>∃ (p:Addr) (ns:List Int),xs=[.ref p]/\SqL X.K H p (ns.map V.int)/\ns≠[]/\∀ m∈ns,(∀ a∈ns,m<=a)->Q (.int m) H):=by
 intro pins s σ H xs us Q I r h;obtain ⟨p,ns,rfl,hq,hne,q⟩:=h;obtain ⟨u,rfl,rp⟩:=XJ r;cases (show u=Value.ref p from rp);obtain ⟨its,rv,pl,hz⟩:=I.list hq;have hlen:its.length=ns.length:=by have:=rv.length;simp at this;omega
 have hpos:0<ns.length:=List.length_pos_iff.mpr hne;have hp:p<s.heap.objs.size:=by obtain ⟨o,n,e,_⟩:=pl;exact Heap.lt_size e
 have vals:∀ (i:Nat) (v:Value),its.toArray[i]?=some v->∃ t,v=Value.int (ns.getD i 0) t:=λi v hv=>by
  have hv':its[i]?=some v:=by simpa using hv
  obtain ⟨hi,_⟩:=List.getElem?_eq_some_iff.mp hv';have hi':i<ns.length:=by omega
  obtain ⟨u,hu,ru⟩:=rv.get (i:=i) (show (ns.map V.int)[i]?=some (V.int (ns[i])) by simp [hi']);rw [hv'] at hu;cases hu;obtain ⟨t,rfl⟩:=ru;exact ⟨t,by show Value.int ns[i] t=Value.int (ns.getD i 0) t;rw [getD_eq_getElem?_getD,getElem?_eq_getElem hi'];rfl⟩
 refine call_min_walk (wpAny_pyIter_list pl.isList ⟨s.heap.objs.size,_,_,_,_,_,_,rfl,Walks.list (A:=X.A.in1) (show X.A.in1.handled=none from I.ok.hd hc) s.heap.objs.size p (Nat.ne_of_lt hp) its.toArray,⟨⟨_,Heap.get?_push_size _ rfl,rfl,rfl⟩,?_⟩,λb hb=>?_,by rw [size_toArray];omega,CmpOf.ints_lt (λi=>ns.getD i 0) vals,λv h' tk hP hk=>?_⟩)
 ·obtain ⟨o,n,e,c,_,d⟩:=pl;exact ⟨o,Heap.get?_push_of_some _ e,c,n,d⟩
 ·have lt1:∀ n c:Nat,c<n->c<n+1:=λn c h=>by omega
  rw [show (({ s with heap:=s.heap.push _ }:Shared).heap.objs.size)=s.heap.objs.size+1 from Heap.size_push ..];simp only [mem_cons,not_mem_nil,or_false] at hb;rcases hb with rfl|rfl
  ·exact Nat.lt_succ_self _
  ·exact lt1 _ _ hp
 ·obtain ⟨b1,b2⟩:=argBest_lt (λi=>ns.getD i 0) (its.toArray.size-1);obtain ⟨t,rfl⟩:=vals _ _ hP;rw [size_toArray] at b1 b2 ⊢;have gd:∀ j,j<ns.length->ns.getD j 0∈ns:=λj hj=>by rw [getD_eq_getElem?_getD,getElem?_eq_getElem hj];exact List.getElem_mem hj
  refine ⟨.int _,H,I.kept (h':=h') (t':=tk) λb o e=>hk b o (by simp;exact Nat.ne_of_lt (Heap.lt_size e)) (Heap.get?_push_of_some _ e),⟨_,rfl⟩,q _ (gd _ (by omega)) λa ha=>?_⟩;obtain ⟨j,hj,rfl⟩:=List.mem_iff_getElem.mp ha;have:=b2 j (by omega);have e:ns.getD j 0=ns[j]:=by rw [getD_eq_getElem?_getD,getElem?_eq_getElem hj];rfl
  rw [e] at this;exact this
def MF:List T->Gp->Q3->Prop:=λxs G q=>match xs with
 |[.ref p]=>(match zG G p with|some ys=>(match C9 ys with|some ns=>ns≠[]/\∀ m∈ns,(∀ a∈ns,m<=a)->q (.int m) G|none=>False)|none=>False)
 |_=>False
def K2 {K:Frg}:KI K MF (λxs H Q=>∃ (p:Addr) (ns:List Int),xs=[.ref p]/\SqL K H p (ns.map V.int)/\ns≠[]/\∀ m∈ns,(∀ a∈ns,m<=a)->Q (.int m) H):=λxs vs G H q Q hr rs h af=>by
 unfold MF at h;split at h
 ·rename_i p;obtain ⟨v,rfl,r⟩:=SM rs;cases r;split at h
  ·rename_i ys e0;split at h
   ·rename_i ns e1;obtain ⟨us,hs,r2⟩:=zE hr e0;have:=X8 e1;subst this;have:=XI r2;subst this;exact ⟨p,ns,rfl,hs,h.1,λm hm ha=>af _ _ (h.2 m hm ha) _ _ (.int _) hr Kp.refl⟩
   ·exact h.elim
  ·exact h.elim
 ·exact h.elim
def RZ (hc:X.calm=true):J6 X (.builtin "max") (λxs H Q=>∃ (p:Addr) (ns:List Int),xs=[.ref p]/\SqL X.K H p (ns.map V.int)/\ns≠[]/\∀ m∈ns,(∀ a∈ns,a<=m)->Q (.int m) H):=by
 intro pins s σ H xs us Q I r h;obtain ⟨p,ns,rfl,hq,hne,q⟩:=h;obtain ⟨u,rfl,rp⟩:=XJ r;cases (show u=Value.ref p from rp);obtain ⟨its,rv,pl,hz⟩:=I.list hq;have hlen:its.length=ns.length:=by have:=rv.length;simp at this;omega
 have hpos:0<ns.length:=List.length_pos_iff.mpr hne;have hp:p<s.heap.objs.size:=by obtain ⟨o,n,e,_⟩:=pl;exact Heap.lt_size e
 have vals:∀ (i:Nat) (v:Value),its.toArray[i]?=some v->∃ t,v=Value.int (ns.getD i 0) t:=λi v hv=>by
  have hv':its[i]?=some v:=by simpa using hv
  obtain ⟨hi,_⟩:=List.getElem?_eq_some_iff.mp hv';have hi':i<ns.length:=by omega
  obtain ⟨u,hu,ru⟩:=rv.get (i:=i) (show (ns.map V.int)[i]?=some (V.int (ns[i])) by simp [hi']);rw [hv'] at hu;cases hu;obtain ⟨t,rfl⟩:=ru;exact ⟨t,by show Value.int ns[i] t=Value.int (ns.getD i 0) t;rw [getD_eq_getElem?_getD,getElem?_eq_getElem hi'];rfl⟩
 refine call_max_walk (wpAny_pyIter_list pl.isList ⟨s.heap.objs.size,_,_,_,_,_,_,rfl,Walks.list (A:=X.A.in1) (show X.A.in1.handled=none from I.ok.hd hc) s.heap.objs.size p (Nat.ne_of_lt hp) its.toArray,⟨⟨_,Heap.get?_push_size _ rfl,rfl,rfl⟩,?_⟩,λb hb=>?_,by rw [size_toArray];omega,CmpOf.ints_gt (λi=>ns.getD i 0) vals,λv h' tk hP hk=>?_⟩)
 ·obtain ⟨o,n,e,c,_,d⟩:=pl;exact ⟨o,Heap.get?_push_of_some _ e,c,n,d⟩
 ·have lt1:∀ n c:Nat,c<n->c<n+1:=λn c h=>by omega
  rw [show (({ s with heap:=s.heap.push _ }:Shared).heap.objs.size)=s.heap.objs.size+1 from Heap.size_push ..];simp only [mem_cons,not_mem_nil,or_false] at hb;rcases hb with rfl|rfl
  ·exact Nat.lt_succ_self _
  ·exact lt1 _ _ hp
 ·obtain ⟨b1,b2⟩:=argBest_gt (λi=>ns.getD i 0) (its.toArray.size-1);obtain ⟨t,rfl⟩:=vals _ _ hP;rw [size_toArray] at b1 b2 ⊢;have gd:∀ j,j<ns.length->ns.getD j 0∈ns:=λj hj=>by rw [getD_eq_getElem?_getD,getElem?_eq_getElem hj];exact List.getElem_mem hj
  refine ⟨.int _,H,I.kept (h':=h') (t':=tk) λb o e=>hk b o (by simp;exact Nat.ne_of_lt (Heap.lt_size e)) (Heap.get?_push_of_some _ e),⟨_,rfl⟩,q _ (gd _ (by omega)) λa ha=>?_⟩;obtain ⟨j,hj,rfl⟩:=List.mem_iff_getElem.mp ha;have:=b2 j (by omega);have e:ns.getD j 0=ns[j]:=by rw [getD_eq_getElem?_getD,getElem?_eq_getElem hj];rfl
  rw [e] at this;exact this
def MH:List T->Gp->Q3->Prop:=λxs G q=>match xs with
 |[.ref p]=>(match zG G p with|some ys=>(match C9 ys with|some ns=>ns≠[]/\∀ m∈ns,(∀ a∈ns,a<=m)->q (.int m) G|none=>False)|none=>False)
 |_=>False
def LF {K:Frg}:KI K MH (λxs H Q=>∃ (p:Addr) (ns:List Int),xs=[.ref p]/\SqL K H p (ns.map V.int)/\ns≠[]/\∀ m∈ns,(∀ a∈ns,a<=m)->Q (.int m) H):=λxs vs G H q Q hr rs h af=>by
 unfold MH at h;split at h
 ·rename_i p;obtain ⟨v,rfl,r⟩:=SM rs;cases r;split at h
  ·rename_i ys e0;split at h
   ·rename_i ns e1;obtain ⟨us,hs,r2⟩:=zE hr e0;have:=X8 e1;subst this;have:=XI r2;subst this;exact ⟨p,ns,rfl,hs,h.1,λm hm ha=>af _ _ (h.2 m hm ha) _ _ (.int _) hr Kp.refl⟩
   ·exact h.elim
  ·exact h.elim
 ·exact h.elim
end
inductive Cv:List Str->List V->List (Value×Value)->Prop
 |nil:Cv [] [] []
 |cons {k:Str} {tk:Tok} {v:V} {u:Value} {ks:List Str} {xs:List V} {vs:List (Value×Value)}:jg v u->Cv ks xs vs->Cv (k::ks) (v::xs) ((.str k tk,u)::vs)
structure jD3 (X:Cx) (keys:List (Option Expr)) (values:List Expr) (ks:List Str) (t:TA3):Prop where
 h:∀ (pos:Pos) (pins:List (Addr×Obj)) (s:Shared) (σ:L2.St) (H:Hp) (Q:List V->Hp->Prop),Inv X pins σ H s->lA X.K t σ H Q ->
  wpAny (model X.prog X.w) X.A (evalPairs (pairTrees keys values X.env pos)) (λvs s'=>∃ xs H',Inv X pins σ H' s'/\Cv ks xs vs/\Q xs H') X.xe s
 len:keys.length=values.length
 all:(keys.all λx=>x.isSome)=true
section
variable {X:Cx}
def qgQ:jD3 X [] [] [] qg:=
 ⟨λpos pins s σ H Q I ⟨τ,G,q,rl,h,af⟩=>by
  show wpAny _ _ (evalPairs []) _ _ _;exact wpAny_pure ⟨[],H,I,.nil,af _ _ h _ _ .nil rl.hp Kp.refl⟩,rfl,rfl⟩
def DK {k:Str} {j:Nat} {kp:Pos} {v:Expr} {tv:TE3} {keys:List (Option Expr)} {values:List Expr} {ks:List Str} {t:TA3} (hv:jE3 X v tv) (r:jD3 X keys values ks t) :
  jD3 X (some (.Constant (.str k) j kp)::keys) (v::values) (k::ks) (qb tv t):=
 ⟨λpos pins s σ H Q I ⟨τ,G,q,rl,h,af⟩=>by
  show wpAny _ _ (evalPairs ((eval (.Constant (.str k) j kp) X.env,do let x←eval v X.env;standAt pos;pure x)::pairTrees keys values X.env pos)) _ _ _;refine evalPairs_cons (thn (qdu (X:=X) (x:=k) (j:=j) (pos:=kp) pins s σ H (λy H'=>y=.str k/\H'=H) I ⟨rfl,rfl⟩) λkv s1 ⟨y,H1,I1,ry,ey,eH⟩=>?_);subst ey;subst eH;obtain ⟨tk,rfl⟩:=ry;refine wpAny_bind (thn (hv.h pins s1 σ H1 (λx H2=>lA X.K t σ H2 λxs H3=>Q (x::xs) H3) I1 (zr rl h λx G1 h1 v H2 rx hr1 k1 rl1=>⟨τ,G1,_,rl1,h1,λxs G2 h2 vs H3 rs hr2 k2=>af _ _ h2 _ _ (.cons (rx.keep hr1 k2) rs) hr2 (k1.trans k2)⟩)) λu s2 ⟨x,H2,I2,rx,q2⟩=>?_);refine wpAny_bind (wpAny_standAt (wpAny_pure ?_));exact thn (r.h pos pins s2 σ H2 _ I2 q2) λvs s3 ⟨xs,H3,I3,cv,q3⟩=>⟨x::xs,H3,I3,.cons rx cv,q3⟩,by simp [r.len],by simpa using r.all⟩
def Cv.carries {P:Program} {w:World}:∀ {ks:List Str} {xs:List V} {vs:List (Value×Value)},Cv ks xs vs->Carries (PySem.strKind P w) vs (ks.zip (vs.map (·.2)))
 |_,_,_,.nil=>True.intro
 |_,_,_,.cons (k:=k) r t=>⟨by show (k==k)=true;simp,rfl,t.carries⟩
def Cv.len:∀ {ks:List Str} {xs:List V} {vs:List (Value×Value)},Cv ks xs vs->ks.length=vs.length
 |_,_,_,.nil=>rfl
 |_,_,_,.cons _ t=>by simp [t.len]
def qbn:List Str->List V->Str->Option V
 |k::ks,v::vs,x=>if k=x then some v else qbn ks vs x
 |_,_,_=>none
def Cv.get:∀ {ks:List Str} {xs:List V} {vs:List (Value×Value)} {x:Str} {v:V},Cv ks xs vs->qbn ks xs x=some v->∃ u,valueAt (ks.zip (vs.map (·.2))) x=some u/\jg v u
 |_,_,_,x,v,.nil,h=>by simp [qbn] at h
 |_,_,_,x,v,.cons (k:=k) (u:=u) r t,h=>by
  by_cases e:k=x
  ·simp [qbn,e] at h;subst h;exact ⟨u,by simp [valueAt,e],r⟩
  ·simp [qbn,e] at h;obtain ⟨u',h1,h2⟩:=Cv.get t h;exact ⟨u',by simpa [valueAt,e] using h1,h2⟩
def qmz (ks:List Str) (tv:TA) (te:TE):TE:=λσ H Q=>tv σ H λxs H1=>te σ H1 λy H2=>∃ k v,y=.str k/\qbn ks xs k=some v/\Q v H2
def qe9 {keys:List (Option Expr)} {values:List Expr} {ks:List Str} {t:TA3} {e:Expr} {te:TE} {p1 pos:Pos} (hd:jD3 X keys values ks t) (he:PE X e te) (hs:UD e) (nd:ks.Nodup) (ne:keys≠[]) (h15:keys.length<=15) :
  PE X (.Subscript (.Dict keys values p1) e pos) (qmz ks (lA X.K t) te):=by
 intro pins s σ H Q I hl;refine Subscript_ ?_;refine wpAny_Dict_walk (knd:=PySem.strKind X.prog X.w) hd.all hd.len ne h15 ?_;have hsz:=I.sz;have hlt:=I.lt;have I0:Inv X pins σ H { s with heap:=s.heap.push { cls:=.type "dict",data:=.dict #[] } }:=I.kept (t':=s.toks) λb o e=>Heap.get?_push_of_some _ e;have ok0:H s.heap.objs.size=none/\s.heap.objs.size≠X.env.locals/\s.heap.objs.size∉X.fs:=⟨I.fresh,λz=>Nat.lt_irrefl _ (z▸hlt),I.nofs (Nat.le_refl _)⟩
 have hcell:∀ x c,X.env.cells.lookup x=some c->c≠s.heap.objs.size:=λx c e z=>by
  obtain ⟨v,o,ho,_⟩:=I.cell x c e;have:=Heap.lt_size ho;rw [z] at this;exact Nat.lt_irrefl _ this
 have hpin:∀ p∈X.pn++pins,p.1≠s.heap.objs.size:=λp hp z=>by
  have:=Heap.lt_size (I.pin p hp).1;rw [z] at this;exact Nat.lt_irrefl _ this
 have Ip:Inv X (pins++[(s.heap.objs.size,{ cls:=.type "dict",data:=.dict #[] })]) σ H { s with heap:=s.heap.push { cls:=.type "dict",data:=.dict #[] } }:=I0.pins_of λp hp=>by
  rcases List.mem_append.mp hp with z|z
  ·exact I0.pin p (mem_append_right _ z)
  ·simp only [List.mem_singleton] at z;subst z;exact ⟨Heap.get?_push_size _ rfl,ok0.1,ok0.2.1,ok0.2.2,λv=>by simp⟩
 refine thn (hd.h p1 _ _ σ H _ Ip hl) λvs s1 ⟨xs,H1,I1,cv,q1⟩=>?_;have p1':=I1.pin (s.heap.objs.size,{ cls:=.type "dict",data:=.dict #[] }) (by simp);have hkeys:(List.map (λx=>x.fst) (ks.zip (vs.map (·.2))))=ks:=by
  have:=cv.len;rw [List.map_fst_zip (by simp;omega)]
 refine ⟨ks.zip (vs.map (·.2)),cv.carries,⟨_,#[],0,p1'.1,⟨rfl,rfl,rfl⟩,rfl,λe he=>by simp at he,by first|exact True.intro|constructor,by simp⟩,λh' hd' hsame=>?_⟩;rw [merged_nil_of_nodup _ (by rw [hkeys];exact nd)] at hd';have I1u:Inv X pins σ H1 s1:=I1.unpinned;have I2:Inv X pins σ H1 { heap:=h',gens:=s1.gens,drawn:=s1.drawn,toks:=s1.toks+vs.length,os:=s1.os }:=
  I1u.turned (it:=s.heap.objs.size) (λb o hb e=>by rw [hsame.2 b hb];exact e) p1'.2.1 ok0.2.1 (.inr hsz) hcell hpin
 obtain ⟨o,es,ep,ho,hx,hdata,hk,hp,hn⟩:=hd';have I3:Inv X (pins++[(s.heap.objs.size,o)]) σ H1 { heap:=h',gens:=s1.gens,drawn:=s1.drawn,toks:=s1.toks+vs.length,os:=s1.os }:=I2.pins_of λp hp=>by
  rcases List.mem_append.mp hp with z|z
  ·exact I2.pin p (mem_append_right _ z)
  ·simp only [List.mem_singleton] at z;subst z;exact ⟨ho,p1'.2.1,ok0.2.1,ok0.2.2,λv=>by rw [hdata];simp⟩
 refine thn (he _ _ σ H1 _ I3 q1) λu s2 ⟨y,H2,I4,ry,k,v,ey,hg,q2⟩=>?_;subst ey;obtain ⟨tk,rfl⟩:=ry;have po:=I4.pin (s.heap.objs.size,o) (by simp);have dd:s2.heap.DictOf (PySem.strKind X.prog X.w) s.heap.objs.size (ks.zip (vs.map (·.2))):=⟨o,es,ep,po.1,hx,hdata,hk,hp,hn⟩
 obtain ⟨u,hu,ru⟩:=cv.get hg;exact subscriptTail_builtinR (x:=u) ⟨_,po.1,hx.1⟩ PySem.F.slot_dict_getitem.lookup (wpAny_getItem_of (knd:=PySem.strKind X.prog X.w) (Q:=λr s'=>r=u/\EP X pins σ Q r s') (k:=k) (by show (k==k)=true;simp) dd.mapOf hu ⟨rfl,v,H2,I4.unpinned.tok _,ru,q2⟩) (hs _ _)
def qfK (ks:List Str) (t:TA3) (te:TE3):TE3:=λτ G q=>t τ G λxs G1=>te τ G1 λy G2=>match y with|.str k=>(match jj (ks.zip xs) k with|some x=>q x G2|none=>False)|_=>False
def NG {K:Frg} {H:Hp}:∀ {ks:List Str} {xs:List T} {vs:List V} {k:Str} {x:T},Rps K H xs vs->jj (ks.zip xs) k=some x->∃ v,qbn ks vs k=some v/\Rp K H x v
 |[],_,_,k,x,_,h=>by simp [jj] at h
 |_::_,_,_,k,x,.nil,h=>by simp [jj] at h
 |y::ks,_,_,k,x,.cons (v:=v) r t,h=>by
  by_cases e:y=k
  ·simp [jj,e] at h;subst h;exact ⟨v,by simp [qbn,e],r⟩
  ·simp [jj,e] at h;obtain ⟨v,h1,h2⟩:=NG t h;exact ⟨v,by simpa [qbn,e] using h1,h2⟩
def qf0 {keys:List (Option Expr)} {values:List Expr} {ks:List Str} {t:TA3} {e:Expr} {te:TE3} {p1 pos:Pos} (hd:jD3 X keys values ks t) (he:jE3 X e te) (hs:UD e:=by intro _ _;rfl) (nd:ks.Nodup:=by decide) (ne:keys≠[]:=by simp) (h15:keys.length<=15:=by decide) :
  jE3 X (.Subscript (.Dict keys values p1) e pos) (qfK ks t te):=
 ⟨UZ (qe9 hd he.h hs nd ne h15) λσ H Q ⟨τ,G,q,rl,h,af⟩=>
  ⟨τ,G,_,rl,h,λxs G1 h1 vs H1 rs hr1 k1=>zr (rl.next hr1 k1) h1 λy G2 h2 v H2 ry hr2 k2 rl2=>by
   cases y<;>try exact h2.elim
   case str k=>
    cases ry;simp only at h2;split at h2
    ·rename_i x hx;obtain ⟨v,hv,rv⟩:=NG (rs.keep hr1 k2) hx;exact ⟨k,v,rfl,hv,af _ _ h2 _ _ rv hr2 (k1.trans k2)⟩
    ·exact h2.elim⟩⟩
end
def LL {K:Frg} {p:Addr} {od:Option Addr} {n:Nat} {sl:Array (Option Value)} {i j:Int} {ti tj:Tok} (h:K.lookup p=some ⟨.type "tuple",od,.seq #[.int i ti,.int j tj] n,sl⟩):∀ H,Rp K H (.tup [.int i,.int j]) (.ref p):=λH=>
 .tup (vs:=[.int i,.int j]) (.inr ⟨_,_,_,h,rfl,rfl,by show 2<=sizeLine;decide,.cons ⟨_,rfl⟩ (.cons ⟨_,rfl⟩ .nil)⟩) (.cons (.int _) (.cons (.int _) .nil))
def VB:List (Str×T):=[("row",.tup [.int 0,.int 1]),("column",.tup [.int 1,.int 0]),("slant",.tup [.int 1,.int 1]),("back",.tup [.int 1,.int (-1)])]
open PySem.SeqAt
def CU (dx:PyData):List PyData->Option Bool
 |[]=>some false
 |d::ds=>(match zH d dx,CU dx ds with|some b,some c=>some (b||c)|_,_=>none)
def KQ {dx:PyData}:∀ {ds:List PyData} {b:Bool},CU dx ds=some b->∃ bs:List Bool,bs.length=ds.length/\(∀ (j:Nat) d,ds[j]?=some d->∃ c,bs[j]?=some c/\zH d dx=some c)/\b=bs.any id
 |[],b,h=>by simp [CU] at h;subst h;exact ⟨[],rfl,λj d hd=>by simp at hd,rfl⟩
 |d::ds,b,h=>by
  unfold CU at h;split at h
  ·rename_i b1 c1 e1 e2;cases h;obtain ⟨bs,hl,ha,hb⟩:=KQ e2;refine ⟨b1::bs,by simp [hl],λj d' hd=>?_,by simp [hb]⟩;cases j with
   |zero=>simp at hd;subst hd;exact ⟨b1,rfl,e1⟩
   |succ j=>simpa using ha j d' (by simpa using hd)
  ·cases h
section
variable {X:Cx} {pins:List (Addr×Obj)} {σ:L2.St} {H:Hp} {s:Shared}
def XN (I:Inv X pins σ H s) {x:V} {dx:PyData} {v:Value} {xs:List V} {ds:List PyData} {its:List Value} {b:Bool} (hu:X.A.units+64<cLine) (hx:DV X.K H x dx) (rx:jg x v) (hs:DVs X.K H xs ds) (rs:zQ xs its) (hb:CU dx ds=some b) (hd:∀ d∈ds,dpt d<=40) :
  ∃ e:Value->Bool,(∀ y∈its,EqAt X.A.in1 s y v (e y))/\its.any e=b:=by
 obtain ⟨bs,hl,ha,rfl⟩:=KQ hb;have un:X.A.in1.units+40<cLine:=by
  have:X.A.in1.units<=X.A.units+8:=by first|(show X.A.units+1<=_;omega)|(show X.A.units<=_;omega)|(simp [Around.in1];omega)
  omega
 have at_:∀ (j:Nat) y,its[j]?=some y->∃ c,bs[j]?=some c/\EqAt X.A.in1 s y v c:=λj y hj=>by
  obtain ⟨hj1,_⟩:=List.getElem?_eq_some_iff.mp hj;have hxl:j<xs.length:=by rw [rs.length];exact hj1
  obtain ⟨u,hu',ru⟩:=rs.get (getElem?_eq_getElem hxl);rw [hj] at hu';cases hu';obtain ⟨d,hd1,hd2⟩:=hs.get (getElem?_eq_getElem hxl);obtain ⟨c,hc1,hc2⟩:=ha j d hd1;exact ⟨c,hc1,(CL I 40 hd2 hx hc2 (hd d (mem_of_getElem? hd1)) un ru rx).2⟩
 classical
 refine ⟨λy=>decide (∃ j:Nat,its[j]?=some y/\bs[j]?=some true),λy hy=>?_,?_⟩
 ·by_cases he:∃ j:Nat,its[j]?=some y/\bs[j]?=some true
  ·obtain ⟨j,h1,h2⟩:=id he;obtain ⟨c,hc,eq⟩:=at_ j y h1;rw [h2] at hc;cases hc;simpa [he] using eq
  ·obtain ⟨j,hj,e⟩:=List.mem_iff_getElem.mp hy;have hj':its[j]?=some y:=by rw [getElem?_eq_getElem hj,e]
   obtain ⟨c,hc,eq⟩:=at_ j y hj';cases c with
   |true=>exact absurd ⟨j,hj',hc⟩ he
   |false=>simpa [he] using eq
 ·rw [Bool.eq_iff_iff,List.any_eq_true,List.any_eq_true];constructor
  ·rintro ⟨y,_,hy⟩;obtain ⟨j,_,h2⟩:=of_decide_eq_true hy;exact ⟨true,mem_of_getElem? h2,rfl⟩
  ·rintro ⟨c,hc,e⟩;have:c=true:=e;subst this;obtain ⟨j,hj,ej⟩:=List.mem_iff_getElem.mp hc;have hl2:its.length=bs.length:=by rw [← rs.length,hs.length,hl]
   have hj2:j<its.length:=by omega
   exact ⟨its[j],List.getElem_mem hj2,decide_eq_true ⟨j,getElem?_eq_getElem hj2,by rw [getElem?_eq_getElem hj,ej]⟩⟩
def qov (K:Frg) (neg:Bool):R2:=λx y H Q=>∃ p xs dx ds b,y=.ref p/\(SqL K H p xs\/SqT K H p xs)/\DV K H x dx/\DVs K H xs ds/\CU dx ds=some b/\(∀ d∈ds,dpt d<=40)/\Q (.bl (if neg then !b else b)) H
def qhd (hu:X.A.units+64<cLine):OpR X (compareOp .In) (qov X.K false):=by
 intro pins s σ H x y v u Q I rx ry h;obtain ⟨p,xs,dx,ds,b,rfl,hq,hx,hs,hb,hd,q⟩:=h;cases ry;rcases hq with hq|hq
 ·obtain ⟨its,r,pl,hz⟩:=I.list hq;obtain ⟨e,he,ha⟩:=XN I hu hx rx hs r hb hd;refine SeqAt.in_listAt e pl.isList (λw hw=>he w (by simpa using hw)) ⟨.bl _,H,I,rfl,?_⟩;rw [show its.toArray.any e=its.any e by simp,ha];exact q
 ·obtain ⟨its,r,pl,hz⟩:=I.tuple hq;obtain ⟨e,he,ha⟩:=XN I hu hx rx hs r hb hd;refine SeqAt.in_tupleAt e pl (λw hw=>he w (by simpa using hw)) ⟨.bl _,H,I,rfl,?_⟩;rw [show its.toArray.any e=its.any e by simp,ha];exact q
def SG (hu:X.A.units+64<cLine):OpR X (compareOp .NotIn) (qov X.K true):=by
 intro pins s σ H x y v u Q I rx ry h;obtain ⟨p,xs,dx,ds,b,rfl,hq,hx,hs,hb,hd,q⟩:=h;cases ry;rcases hq with hq|hq
 ·obtain ⟨its,r,pl,hz⟩:=I.list hq;obtain ⟨e,he,ha⟩:=XN I hu hx rx hs r hb hd;refine SeqAt.notIn_listAt e pl.isList (λw hw=>he w (by simpa using hw)) ⟨.bl _,H,I,rfl,?_⟩;rw [show its.toArray.any e=its.any e by simp,ha];exact q
 ·obtain ⟨its,r,pl,hz⟩:=I.tuple hq;obtain ⟨e,he,ha⟩:=XN I hu hx rx hs r hb hd;refine SeqAt.notIn_tupleAt e pl (λw hw=>he w (by simpa using hw)) ⟨.bl _,H,I,rfl,?_⟩;rw [show its.toArray.any e=its.any e by simp,ha];exact q
end
def qfU (neg:Bool):R3:=λx y G q=>∃ ys dx ds b,YK G y=some ys/\Dp G x dx/\Dps G ys ds/\CU dx ds=some b/\(∀ d∈ds,dpt d<=40)/\q (.bl (if neg then !b else b)) G
def TZ {K:Frg} {neg:Bool}:D0 K (qfU neg) (qov K neg):=λx y v u G H q Q hr rx ry h af=>by
 obtain ⟨ys,dx,ds,b,h1,h2,h3,h4,h5,h6⟩:=h;cases y with
 |tup zs=>
  simp [YK] at h1;subst h1;cases ry with
  |tup hs rs=>exact ⟨_,_,dx,ds,b,rfl,.inr hs,h2.dv hr rx,h3.dv hr rs,h4,h5,af _ G h6 _ H (.bl _) hr Kp.refl⟩
 |ref p=>
  simp [YK] at h1;cases ry;obtain ⟨us,hs,rs⟩:=zE hr h1;exact ⟨_,_,dx,ds,b,rfl,.inl hs,h2.dv hr rx,h3.dv hr rs,h4,h5,af _ G h6 _ H (.bl _) hr Kp.refl⟩
 |_=>simp [YK] at h1
end L3
namespace HT
open PySem PySem.Spec PyProof.Rows L2
section
open PySem.SeqAt
open PySem.MeetsSeq PySem.MeetsSeq2 PySem.MeetsSeq3
end
section
variable {prog:Program} {w:World} {A:Around} {E:Value->Shared->Prop} {s:Shared}
end
end HT
namespace L3
open PySem PySem.Spec PyProof.Rows L2
section
variable {X:Cx}
end
end L3
namespace HT
open PySem PyProof.Rows
section
variable {prog:Program} {w:World} {A:Around} {R:Result->Shared->Prop} {I:Addr} {fp wr:List Addr} {n:Nat} {P:Nat->Value->Prop} {St:Nat->Heap->Prop}
end
section
variable {prog:Program} {w:World} {A:Around} {E:Value->Shared->Prop} {s:Shared}
end
end HT
namespace L3
open PySem PySem.Spec PyProof.Rows L2
section
variable {X:Cx}
end
section
variable {X:Cx}
end
section
variable {X:Cx}
end
section
variable {X:Cx} {a b:Expr} {ta tb:TE3} {pos:Pos}
end
end L3
namespace L3
open PySem PySem.Spec PyProof.Rows L2 PySem.SeqAt
section
variable {X:Cx} {a b:Expr} {ta tb:TE3} {pos:Pos}
end
end L3
namespace L3
open PySem PySem.Spec PyProof.Rows L2
section
variable {X:Cx} {a b e:Expr} {ta tb te:TE3} {pos:Pos}
end
section
variable {X:Cx} {a b:Expr} {ta tb:TE3} {pos:Pos}
end
section
variable {X:Cx}
end
def ev {α:Type}:List α->List α
 |[]=>[]
 |[x]=>[x]
 |x::_::r=>x::ev r
section
variable {X:Cx} {e el ek:Expr} {p2 pos:Pos}
end
section
variable {X:Cx} {pos:Pos} {e:Expr} {te:TE3}
end
section
variable {X:Cx} {pos:Pos} {o i e:Expr} {to ti te:TE3}
end
section
variable {K:Frg} {G G':Gp} {H H':Hp}
def qm0 (kvs:List (Int×T)):List Key:=kvs.map λp=>(Sum.inl p.1:Key)
def qmw (kvs:List (Int×T)):List T:=kvs.map λp=>p.2
def HR.dct (hr:HR K G H) {p:Addr} {kvs:List (Int×T)} (g:G p=some (.dct kvs)):∃ vs,H p=some (.dK ((qm0 kvs).zip vs))/\Rps K H (qmw kvs) vs:=hr p _ g
end
section
variable {X:Cx} {pos:Pos} {o i e:Expr} {to ti te:TE3}
variable {es:List Expr} {t:TA3}
end
end L3
namespace L2
open PySem PySem.Spec PyProof.Rows
def D8 (p:Addr->Bool) (h:Heap):Heap:=⟨h.objs.mapIdx λi o=>if p i then { o with data:=.freed } else o,h.life⟩
def QY (p:Addr->Bool) (h:Heap) (a:Addr):(D8 p h).get? a=if p a then none else h.get? a:=by
 unfold D8 Heap.get?;simp only [Array.getElem?_mapIdx];cases h.objs[a]? with
 |none=>simp
 |some o=>
  simp only [Option.map_some];by_cases c:p a=true
  ·rw [if_pos c,if_pos c]
  ·rw [if_neg c,if_neg c]
def ZE {p:Addr->Bool} {h:Heap} {a:Addr} (c:p a=true):(D8 p h).get? a=none:=by rw [QY,if_pos c]
def YT (p:Addr->Bool) (h:Heap):(D8 p h).StaysIn h:=λb o e=>by
 rw [QY] at e;split at e
 ·cases e
 ·exact e
def CH {p:Addr->Bool} {h:Heap} {a:Addr} {o:Obj} (e:h.get? a=some o) (c:p a=false):(D8 p h).get? a=some o:=by
 rw [QY,if_neg (by rw [c];decide)];exact e
def js {h base base':Heap}:∀ {l:List Env},h.FunFrames base l->(∀ b∈frs l,base'.get? b=none)->h.FunFrames base' l
 |[],_,_=>trivial
 |env::j8,⟨hk,⟨L,o,hf,hn,ho,hd⟩,hr⟩,z=>
  ⟨hk,⟨L,o,hf,z L (by unfold frs;rw [List.filterMap_cons,hf];exact List.mem_cons_self),ho,hd⟩,js hr λb hb=>z b (by unfold frs;rw [List.filterMap_cons,hf];exact List.mem_cons_of_mem _ hb)⟩
def Fly (h:Heap) (e T:Addr) (cls a0:Value):Prop:=
 ∃ oe vs oT ts,h.get? e=some oe/\(oe.cls=cls/\vs[0]?=some a0)/\oe.data=.fields vs/\vs[1]?=some (.ref T)/\T≠e/\h.get? T=some oT/\oT.data=.fields ts/\ts[3]?=some .none
def Fly.w {h base:Heap} {e T:Addr} {cls a0:Value} (f:Fly h e T cls a0) (n:base.get? T=none):h.TracedW base e cls a0:=
 let ⟨oe,vs,oT,ts,h1,h2,h3,h4,h5,h6,h7,h8⟩:=f
 ⟨oe,vs,T,oT,ts,h1,h2,h3,h4,n,h5,h6,h7,h8⟩
def qan {h base:Heap} {e:Addr} {cls a0:Value} (t:h.TracedW base e cls a0):∃ T,Fly h e T cls a0/\base.get? T=none:=
 let ⟨oe,vs,T,oT,ts,h1,h2,h3,h4,n,h5,h6,h7,h8⟩:=t
 ⟨T,⟨oe,vs,oT,ts,h1,h2,h3,h4,h5,h6,h7,h8⟩,n⟩
def Fly.rec1 {h:Heap} {e T:Addr} {cls a0:Value} (f:Fly h e T cls a0):∃ o vs,h.get? e=some o/\o.data=.fields vs:=
 let ⟨oe,vs,_,_,h1,_,h3,_⟩:=f;⟨oe,vs,h1,h3⟩
def Fly.rec2 {h:Heap} {e T:Addr} {cls a0:Value} (f:Fly h e T cls a0):∃ o vs,h.get? T=some o/\o.data=.fields vs:=
 let ⟨_,_,oT,ts,_,_,_,_,_,h6,h7,_⟩:=f;⟨oT,ts,h6,h7⟩
def CXe (P:Program) (w:World):CXT:=λouter H s E e s'=>∃ (ea T C:Addr) (a0:Value) (H':Hp),e=.ref ea/\Fly s'.heap ea T (.ref C) a0/\s.heap.get? ea=none/\s.heap.get? T=none/\H' ea=none/\H' T=none /\
 s'.os=s.os/\AllBare s'.gens/\Un (frs outer) [] H H' s.heap s'.heap/\HOk P w H' s'.heap/\E (.ref C) none H'
section
variable {X:Cx} {pins:List (Addr×Obj)} {σ:St} {H:Hp} {s:Shared}
structure Lv (l:List Env) (e T:Addr) (h h':Heap):Prop where
 keep:∀ b o,h.get? b=some o->b≠e->b≠T->b∉frs l->h'.get? b=some o
 slot:∀ b o,h.get? b=some o->b∈frs l->∃ sl,h'.get? b=some { o with slots:=sl }
def qaA {h base:Heap} {l:List Env} (hl:h.FunFrames base l) {b:Addr} {o:Obj} {vs:Array Value} (e:h.get? b=some o) (d:o.data=.fields vs):b∉frs l:=λz=>by
 obtain ⟨_,o',e',n⟩:=hl.mem z;rw [e] at e';cases e';exact n _ d
def TL {M:Model} {A:Around} {E:Value->Shared->Prop} {base h:Heap} {env:Env} {outer:List Env} {L e:Addr} {cls:Value} {args:List Value} {Q:Unit->Shared->Prop}
  (hfr:A.frames=some (env::outer)) (hf:env.frame=some L) (hl:h.FunFrames base (env::outer)) (hx:Heap.MadeExcOf h s.heap e cls args)
  (hQ:∀ h' T' t,Fly h' e T' cls (.ref t)->h.get? T'=none->(∀ b o,h.get? b=some o->b∉frs (env::outer)->h'.get? b=some o)->(∀ b o,h.get? b=some o->b∈frs (env::outer)->∃ sl,h'.get? b=some { o with slots:=sl })->Q () { s with heap:=h' }) :
  wpAny M A (leaving env (.ref e)) Q E s:=by
 classical
 let p:Addr->Bool:=λb=>decide (b∈frs (env::outer))
 have hl':h.FunFrames (D8 p h) (env::outer):=js hl λb hb=>ZE (decide_eq_true hb);refine wpAny_leaves_madeW hfr hf (YT p h) hl' hx λh' t fl tu nt ups=>?_;obtain ⟨k1,k2,k3,k4⟩:=fl;obtain ⟨T',fl',nT⟩:=qan k4;refine hQ h' T' t fl' ?_ (λb o hb h3=>k1 b o (CH hb (decide_eq_false h3))) λb o hb h3=>?_
 ·rw [QY] at nT;split at nT
  ·rename_i c;obtain ⟨oT',ts',g1,g2⟩:=fl'.rec2;obtain ⟨_,o',e',n⟩:=hl.mem (of_decide_eq_true c);obtain ⟨sl,q⟩:=ups T' o' (hx.keeps _ _ e') n;rw [q] at g1;cases g1;exact absurd g2 (n _)
  ·exact nT
 ·obtain ⟨_,o',e',n⟩:=hl.mem h3;rw [hb] at e';cases e';exact ups b o (hx.keeps _ _ hb) n
end
def QZ.there {P:Program} {w:World} {H:Hp} {h:Heap} {a:Addr} {o:HO} (x:QZ P w H h a o):∃ u,h.get? a=some u:=by
 cases o with
 |lst xs=>obtain ⟨_,_,_,_,e⟩:=x;exact ⟨_,e⟩
 |tup xs=>obtain ⟨_,_,_,ob,e,_⟩:=x;exact ⟨_,e⟩
 |dK kvs=>obtain ⟨_,_,_,_,o,_,_,e,_⟩:=x;exact ⟨_,e⟩
 |dT kvs=>obtain ⟨_,_,_,_,o,_,_,e,_⟩:=x;exact ⟨_,e⟩
 |set S n=>obtain ⟨o,_,_,_,e,_⟩:=x;exact ⟨_,e⟩
 |ins C dx fs=>obtain ⟨_,_,_,e,_⟩:=x;exact ⟨_,e⟩
 |own y=>obtain ⟨_,e⟩:=x;exact ⟨_,e⟩
 |xd fs=>obtain ⟨_,⟨_,_,_,e,_⟩,_⟩:=x;exact ⟨_,e⟩
 |rng lo hi=>obtain ⟨_,_,_,e⟩:=x;exact ⟨_,e⟩
 |frz ob u=>obtain ⟨e,_⟩:=x;exact ⟨_,e⟩
 |tbl ps=>exact ⟨_,(show h.get? a=some _ from x)⟩
 |met f y=>exact ⟨_,(show h.get? a=some _ from x)⟩
 |ext φ=>obtain ⟨_,⟨_,e⟩,_⟩:=x;exact ⟨_,e⟩
def HOk.nil {P:Program} {w:World} {H:Hp} {h:Heap} {a:Addr} (x:HOk P w H h) (e:h.get? a=none):H a=none:=by
 cases q:H a with
 |none=>rfl
 |some u=>
  obtain ⟨z,y⟩:=(x a u q).there;rw [e] at y;cases y
def HOk.tracked {P:Program} {w:World} {H:Hp} {h h':Heap} (x:HOk P w H h) (k:∀ b u,H b≠none->h.get? b=some u->h'.get? b=some u):HOk P w H h':=λa o e=>
 (x a o e).stay (λb u z q=>k b u (λn=>by
  rcases z with rfl|z
  ·rw [e] at n;cases n
  ·rw [z] at n;cases n) q) (λ_ q=>q) λ_ _ q=>q
section
variable {P:Program} {w:World} {K:Frg} {mg:Str->Option Value} {base:Heap} {N:List Str} {qual:Str} {scope:Scope} {f:Addr} {cd:Value} {A:Around} {outer:List Env} {s0:Shared} {H0:Hp} {E:XK} {CX:CXT}
 {pins:List (Addr×Obj)} {σ:St} {H:Hp} {s:Shared}
def qgj {h':Heap} {e T T' C:Addr} {a0:Value} (I:Inv (U2 CX P w K mg base N qual scope f cd A outer s0 H0 E) pins σ H s)
  (ne:s0.heap.get? e=none) (nT:s0.heap.get? T=none) (nT':s0.heap.get? T'=none) (He:H e=none) (HT:H T=none) (HT':H T'=none) (fl:Fly h' e T' (.ref C) a0) (lv:Lv (envOfC qual scope s0.heap.objs.size f cd::outer) e T s.heap h') (hE:E (.ref C) none H) :
  CXe P w outer H0 s0 E (.ref e) { s with heap:=h' }:=by
 have nl:∀ {b o},s0.heap.get? b=some o->b∉frs outer->b∉frs (envOfC qual scope s0.heap.objs.size f cd::outer):=λ{b o} q hb z=>by
  have z':b∈s0.heap.objs.size::frs outer:=z;rcases mem_cons.mp z' with z|z
  ·subst z;exact absurd (Heap.lt_size q) (Nat.lt_irrefl _)
  ·exact hb z
 have sub:∀ {b},b∈frs outer->b∈frs (envOfC qual scope s0.heap.objs.size f cd::outer):=λ{b} z=>(List.mem_cons_of_mem _ z:b∈s0.heap.objs.size::frs outer)
 have noex:∀ b:Addr,b∉(U2 CX P w K mg base N qual scope f cd A outer s0 H0 E).ex:=λb z=>absurd (show b∈([]:List Addr) from z) (by simp);have n1:∀ {b o},s0.heap.get? b=some o->b≠e:=λq z=>by subst z;rw [ne] at q;cases q
 have n2:∀ {b o},s0.heap.get? b=some o->b≠T:=λq z=>by subst z;rw [nT] at q;cases q
 refine ⟨e,T',C,a0,H,rfl,fl,ne,nT',He,HT',I.os,I.bare,?_,?_,hE⟩
 ·refine ⟨λb o q n hb _=>?_,λb o q n hb _=>?_,λb o q n _=>I.base.free b o q n (noex b),λb o q _=>?_,I.base.tups,I.base.frzs,I.base.tbls⟩
  ·exact lv.keep b o (I.base.keep b o q n hb (noex b)) (n1 q) (n2 q) (nl q hb)
  ·obtain ⟨sl,q1⟩:=I.base.slot b o q n hb (noex b);obtain ⟨sl',q2⟩:=lv.slot b _ q1 (sub hb);exact ⟨sl',q2⟩
  ·obtain ⟨o',q1⟩:=I.base.there b o q (noex b);by_cases hb:b∈frs (envOfC qual scope s0.heap.objs.size f cd::outer)
   ·obtain ⟨sl',q2⟩:=lv.slot b _ q1 hb;exact ⟨_,q2⟩
   ·exact ⟨_,lv.keep b _ q1 (n1 q) (n2 q) hb⟩
 ·exact I.hok.tracked λb u z q=>lv.keep b u q (λy=>by subst y;exact z He) (λy=>by subst y;exact z HT) λy=>z (I.stkFree b y)
def qgo {h':Heap} {e C:Addr} {args:List Value} (I:Inv (U2 (CXe P w) P w K mg base N qual scope f cd A outer s0 H0 E) pins σ H s) (hx:Heap.MadeExcOf s.heap h' e (.ref C) args) (hE:E (.ref C) none H) :
  (U2 (CXe P w) P w K mg base N qual scope f cd A outer s0 H0 E).xe (.ref e) { s with heap:=h' }:=by
 have noex:∀ b:Addr,b∉(U2 (CXe P w) P w K mg base N qual scope f cd A outer s0 H0 E).ex:=λb z=>absurd (show b∈([]:List Addr) from z) (by simp);have up:∀ {b},s.heap.get? b=none->s0.heap.get? b=none:=λ{b} q=>by
  cases z:s0.heap.get? b with
  |none=>rfl
  |some o=>obtain ⟨o',y⟩:=I.base.there b o z (noex b);rw [q] at y;cases y
 refine TL (s:={ s with heap:=h' }) (h:=s.heap) I.ok.frames rfl I.stack hx λh2 T' t fl nT k1 k2=>?_;show CXe P w outer H0 s0 E (.ref e) { s with heap:=h2 };exact qgj (T:=e) I (up hx.new) (up hx.new) (up nT) (I.hok.nil hx.new) (I.hok.nil hx.new) (I.hok.nil nT) fl ⟨λb o q _ _ hb=>k1 b o q hb,k2⟩ hE
end
section
variable {X:Cx} {x:Str} {C:Addr} {B Bn newId nid initId inN:String} {bm bmN:List Value} {np cpos pos:Pos} {e:Expr} {es:List Expr} {t:TA} {EE:Hp->Prop}
def qbX (O:OwnCls x C bm newId X.mg X.base) (Fn:ExcBaseFacts Bn newId inN bmN) (hBn:bm.contains (.type Bn)=true) (FB:ExcBaseFacts B nid initId bm) (hc:X.calm=true) (hg:Gl X x) (ha:PA X (e::es) t)
  (hx:∀ (pins:List (Addr×Obj)) (σ:St) (H:Hp) (s:Shared) (ea:Addr) (h':Heap) (vs:List Value),Inv X pins σ H s->Heap.MadeExcOf s.heap h' ea (.ref C) vs->EE H->X.xe (.ref ea) { s with heap:=h' })
  (hdb:(x==("__debug__" : Str))=false:=by decide) (he:starEach (e::es) X.env=(false,eval e X.env)::starEach es X.env:=by rfl) (hpl:(backTo cpos (starEach es X.env)).any (·.1)=false:=by rfl) :
  PS X (.Raise (some (.Call (.Name x np) (e::es) [] cpos)) none pos) (λ_ σ H=>t σ H λvs H1=>vs.length<=sizeLine/\EE H1):=by
 intro pins s σ H D I h;obtain ⟨tl,N,nm,q,bs,hdct,sn,sub,ab,col,dd,k0,k1,k2,k3,k5,mN,hC,hN,hni,T⟩:=O.obj;refine wpAny_Raise_call_subU (C:=C) (nm:=nm) (q:=q) (N:=N) (bs:=bs) (bm:=tl) (hdct:=hdct) (sn:=sn) (sub:=sub) (ab:=ab) (col:=col) (dd:=dd) (k0:=k0) (k1:=k1) (k2:=k2) (k3:=k3) (k5:=k5)
  Fn hBn FB (mN:=mN) (T.hasType FB.hasBase) (I.ok.hd hc) (by rw [he];show (false||(backTo cpos (starEach es X.env)).any (·.1))=false;rw [hpl];rfl) hni (DU I hg O.bound ⟨rfl,?_⟩ hdb)
 have hA:=ha cpos pins s σ H _ I h;rw [he] at hA ⊢;exact Calls.evalArgs_plain (thn hA λus s2 ⟨vs,H2,I2,r,q⟩=>⟨rfl,by rw [← r.length];exact q.1,I2.bk _ _ hC,hN.keeps I2.bk,T.keeps I2.bk,λh' ea hm=>hx _ _ _ _ _ _ _ I2 hm q.2⟩)
end
end L2
namespace L3
open PySem PySem.Spec PyProof.Rows L2
abbrev X3:=Addr->Gp->Prop
abbrev Spx:=List T->Gp->X3->Prop
def EX (K:Frg) (dx:X3):XK:=λcls _ H=>∃ C G,cls=.ref C/\HR K G H/\dx C G
def qpb (K:Frg) (sp:Spx):Sp:=λvs H _ E=>∃ ts G dx,HR K G H/\Rps K H ts vs/\sp ts G dx/\∀ cls H',EX K dx cls none H'->E cls none H'
def K7 (C:Addr) (dx:X3) (t:TA3):TS3:=λ_ τ G=>t τ G λxs G1=>xs.length<=sizeLine/\dx C G1
section
variable {X:Cx} {x:Str} {C:Addr} {B Bn newId nid initId inN:String} {bm bmN:List Value} {np cpos pos:Pos} {e:Expr} {es:List Expr} {t:TA3} {dx:X3}
def qfF (O:OwnCls x C bm newId X.mg X.base) (Fn:ExcBaseFacts Bn newId inN bmN) (hBn:bm.contains (.type Bn)=true) (FB:ExcBaseFacts B nid initId bm) (hc:X.calm=true) (hg:Gl X x) (ha:A3 X (e::es) t)
  (hx:∀ (pins:List (Addr×Obj)) (σ:L2.St) (H:Hp) (s:Shared) (ea:Addr) (h':Heap) (vs:List Value),Inv X pins σ H s->Heap.MadeExcOf s.heap h' ea (.ref C) vs->EX X.K dx (.ref C) none H->X.xe (.ref ea) { s with heap:=h' })
  (hdb:(x==("__debug__" : Str))=false:=by decide) (he:starEach (e::es) X.env=(false,eval e X.env)::starEach es X.env:=by rfl) (hpl:(backTo cpos (starEach es X.env)).any (·.1)=false:=by rfl) :
  S3 X (.Raise (some (.Call (.Name x np) (e::es) [] cpos)) none pos) (K7 C dx t):=
 MY (qbX (EE:=EX X.K dx (.ref C) none) O Fn hBn FB hc hg ha hx hdb he hpl) λD σ H ⟨τ,G,d,rl,h,af⟩=>ZX rl h λxs G1 h1 vs H1 rs hr1 k1 rl1=>⟨by rw [← rs.length];exact h1.1,C,G1,rfl,hr1,h1.2⟩
end
def qil {P:Program} {w:World} {K:Frg} {mg:Str->Option Value} {base:Heap} {x qual:Str} {st:Stmt} {f:Addr} {fd:FuncData} {N ps:List Str} {k:Nat} {sp:Spx} {t3:X3->TS3} (F:Fun K x qual st f fd) (S:FnScope N ps (qi st))
  (body:∀ (dx:X3) (cdv:Value) (A:Around) (outer:List Env) (s:Shared) (H:Hp) (E:XK),(∀ cls H',EX K dx cls none H'->E cls none H')->Room k (A.deeper (envOfC qual (qi st) s.heap.objs.size f cdv)) ->
   B3 (U2 (CXe P w) P w K mg base N qual (qi st) f cdv A outer s H E) (zi st) (t3 dx))
  (read:∀ ts G dx,sp ts G dx->ts.length=ps.length/\t3 dx { nx:=λ_ _=>False,rt:=λ_ _=>False } (qk N ts) G):FnOk P w K mg base (CXe P w) (k+1) f fd ps (qpb K sp):=by
 obtain ⟨oc,od,kV,doc,pm,an,cdv,ct,osl,rfl,lk,hcd⟩:=F.ex;refine qhf lk hcd S (λvs H Q E ⟨ts,G,dx,h1,h2,h3,h4⟩=>by rw [← h2.length];exact (read ts G dx h3).1) λA outer s H vs Q E hr ⟨ts,G,dx,h1,h2,h3,h4⟩=>?_;exact ⟨_,body dx cdv A outer s H E h4 hr,qk N ts,G,_,EG h1 h2,(read ts G dx h3).2,⟨λ_ _ z=>z.elim,λ_ _ z=>z.elim,λ_ _ z=>z.elim,λ_ _ z=>z.elim⟩⟩
section
variable {K:Frg} {G G':Gp} {H H':Hp}
mutual
def Rp.sub (z:∀ a vs,SqT K H a vs->SqT K H' a vs):∀ {x:T} {v:V},Rp K H x v->Rp K H' x v
 |_,_,.non=>.non
 |_,_,.bl b=>.bl b
 |_,_,.int i=>.int i
 |_,_,.str x=>.str x
 |_,_,.ref a=>.ref a
 |_,_,.tup h hs=>.tup (z _ _ h) (Rps.sub z hs)
def Rps.sub (z:∀ a vs,SqT K H a vs->SqT K H' a vs):∀ {x:List T} {v:List V},Rps K H x v->Rps K H' x v
 |_,_,.nil=>.nil
 |_,_,.cons a b=>.cons (Rp.sub z a) (Rps.sub z b)
end
def HR.sub (hr:HR K G H) (z:∀ a vs,SqT K H a vs->SqT K H' a vs) (k:∀ a u,G a≠none->H a=some u->H' a=some u):HR K G H':=λa o e=>by
 have q:=hr a o e;have n:G a≠none:=by rw [e];simp
 cases o with
 |lst xs=>obtain ⟨vs,h1,h2⟩:=q;exact ⟨vs,k _ _ n h1,h2.sub z⟩
 |frz xs=>obtain ⟨vs,⟨o,h1⟩,h2⟩:=q;exact ⟨vs,⟨o,k _ _ n h1⟩,h2.sub z⟩
 |dct kvs=>obtain ⟨vs,h1,h2⟩:=q;exact ⟨vs,k _ _ n h1,h2.sub z⟩
 |exn C=>exact k _ _ n q
def HR.kind (hr:HR K G H) {a:Addr} (n:G a≠none):(∃ vs,H a=some (.lst vs))\/(∃ o vs,H a=some (.frz o (.lst vs)))\/(∃ kvs,H a=some (.dK kvs))\/∃ φ,H a=some (.ext φ):=by
 cases e:G a with
 |none=>exact absurd e n
 |some o=>
  have q:=hr a o e;cases o with
  |lst xs=>obtain ⟨vs,h1,_⟩:=q;exact .inl ⟨vs,h1⟩
  |frz xs=>obtain ⟨vs,⟨o,h1⟩,_⟩:=q;exact .inr (.inl ⟨o,vs,h1⟩)
  |dct kvs=>obtain ⟨vs,h1,_⟩:=q;exact .inr (.inr (.inl ⟨_,h1⟩))
  |exn C=>exact .inr (.inr (.inr ⟨_,q⟩))
end
def lSx (K:Frg) (sp:Spx):Sp:=λvs H _ E=>∃ ts G dx,HR K G H/\Rps K H ts vs/\sp ts G dx/\∀ C G' H',HR K G' H'->Kp G H G' H'->dx C G'->E (.ref C) none H'
def Hid (G:Gp) (H:Hp) (a:Addr):Prop:=H a≠none/\G a=none/\∀ vs,¬ L2.Rd H a (.tup vs)
def qjf {P:Program} {w:World} {K:Frg} {mg:Str->Option Value} {base:Heap} {f:Addr} {fd:FuncData} {ps:List Str} {k:Nat} {sp:Spx} (F:FnOk P w K mg base (CXe P w) k f fd ps (qpb K sp)):FnOk P w K mg base (CXe P w) k f fd ps (lSx K sp):=by
 classical
 refine ⟨λvs H Q E ⟨ts,G,dx,h1,h2,h3,h4⟩=>F.len vs H Q (EX K dx) ⟨ts,G,dx,h1,h2,h3,λ_ _ z=>z⟩,λA outer s H args us vs Q E hr e0 hb hv ⟨ts,G,dx,h1,h2,h3,h4⟩=>?_⟩
 let H1:Hp:=λa=>if Hid G H a then none else H a
 have n1:∀ {a},Hid G H a->H1 a=none:=λ{a} h=>if_pos h;have n2:∀ {a},¬ Hid G H a->H1 a=H a:=λ{a} h=>if_neg h;have n3:∀ {a},H a=none->¬ Hid G H a:=λ{a} h z=>z.1 h;have n4:∀ {a},H a=none->H1 a=none:=λ{a} h=>by rw [n2 (n3 h)];exact h
 have n5:∀ {a vs},L2.Rd H a (.tup vs)->¬ Hid G H a:=λ{a vs} h z=>z.2.2 _ h;have n6:∀ {a},G a≠none->¬ Hid G H a:=λ{a} h z=>h z.2.1;have sq:∀ a vs,SqT K H a vs->SqT K H1 a vs:=λa vs h=>by
  rcases h with h|h
  ·have e:=n2 (n5 h);rcases h with h|⟨o,h⟩
   ·exact .inl (.inl (e.trans h))
   ·exact .inl (.inr ⟨o,e.trans h⟩)
  ·exact .inr h
 have ownH:∀ {a b},H b=some (.own a)->Hid G H b:=λ{a b} h=>⟨by rw [h];simp,by
  cases e:G b with
  |none=>rfl
  |some o=>
   rcases h1.kind (a:=b) (by rw [e];simp) with ⟨_,y⟩|⟨_,_,y⟩|⟨_,y⟩|⟨_,y⟩<;>(rw [h] at y;cases y),λvs z=>by
  rcases z with z|⟨o,z⟩<;>(rw [h] at z;cases z)⟩
 have ok1:HOk P w H1 s.heap:=λa o e=>by
  by_cases c:Hid G H a
  ·rw [n1 c] at e;cases e
  ·rw [n2 c] at e;have x:=e0.hok a o e;by_cases g:G a=none
   ·have y:∃ vs,L2.Rd H a (.tup vs):=by
     by_cases z:∃ vs,L2.Rd H a (.tup vs)
     ·exact z
     ·exact absurd ⟨by rw [e];simp,g,λvs y=>z ⟨vs,y⟩⟩ c
    obtain ⟨vs,y⟩:=y;rcases y with y|⟨ob,y⟩
    ·rw [e] at y;cases y;exact x
    ·rw [e] at y;cases y;exact x
   ·rcases h1.kind g with ⟨_,y⟩|⟨_,_,y⟩|⟨_,y⟩|⟨_,y⟩
    ·rw [e] at y;cases y;exact x
    ·rw [e] at y;cases y;exact x
    ·rw [e] at y;cases y;exact x
    ·rw [e] at y;cases y;exact x
 have E0':Env0 P w K mg base A outer s H1:=⟨e0.frames,e0.mod,λb o q=>⟨(e0.bs b o q).1,n4 (e0.bs b o q).2⟩,e0.bsz,e0.funs,λb q=>n4 (e0.frf b q),ok1,e0.bare⟩
 refine codeAny_mono (F.run A outer s H1 args us vs (λ_ _=>False) (EX K dx) hr E0' hb hv ⟨ts,G,dx,h1.sub sq λa u n q=>(n2 (n6 n)).trans q,h2.sub sq,h3,λ_ _ z=>z⟩) λr s' h=>?_;cases r with
 |ok fl=>
  cases fl with
  |ret u=>obtain ⟨_,_,_,_,_,_,_,z⟩:=h;exact z.elim
  |_=>exact h
 |error e=>
  obtain ⟨ea,T,C,a0,H2,rfl,fl,ne,nT,He,HT,os,bare,un,hok,C',G',eC,hr',hd⟩:=h;cases eC
  let H3:Hp:=λa=>if Hid G H a then H a else H2 a
  have m1:∀ {a},Hid G H a->H3 a=H a:=λ{a} h=>if_pos h;have m2:∀ {a},¬ Hid G H a->H3 a=H2 a:=λ{a} h=>if_neg h;have fs:∀ {b},Hid G H b->b∉frs outer:=λ{b} h z=>h.1 (e0.frf b z);have th:∀ {b},Hid G H b->∃ o,s.heap.get? b=some o:=λ{b} h=>by
   cases e:H b with
   |none=>exact absurd e h.1
   |some o=>exact (e0.hok b o e).there
  have kp:∀ {b o},Hid G H b->s.heap.get? b=some o->s'.heap.get? b=some o:=λ{b o} h q=>un.keep b o q (n1 h) (fs h) (by simp);have fr2:∀ {b},Hid G H b->H2 b=none:=λ{b} h=>let ⟨o,q⟩:=th h;un.free b o q (n1 h) (by simp)
  have m3:∀ {a o},H2 a=some o->H3 a=some o:=λ{a o} q=>by
   rw [m2 (λz=>by rw [fr2 z] at q;cases q)];exact q
  have nh:∀ {b},s.heap.get? b=none->¬ Hid G H b:=λ{b} q z=>by obtain ⟨o,y⟩:=th z;rw [q] at y;cases y
  have tp:∀ b xs,H b=some (.tup xs)->H3 b=some (.tup xs):=λb xs q=>m3 (un.tups b xs ((n2 (n5 (.inl q))).trans q));have fz:∀ b o u,H b=some (.frz o u)->H3 b=some (.frz o u):=λb o u q=>by
   by_cases c:Hid G H b
   ·rw [m1 c];exact q
   ·exact m3 (un.frzs b o u ((n2 c).trans q))
  refine ⟨ea,T,C,a0,H3,rfl,fl,ne,nT,(m2 (nh ne)).trans He,(m2 (nh nT)).trans HT,os,bare,?_,?_,h4 C G' H3 ?_ ?_ hd⟩
  ·refine ⟨λb o q n=>un.keep b o q (n4 n),λb o q n=>un.slot b o q (n4 n),λb o q n hx=>(m2 (n3 n)).trans (un.free b o q (n4 n) hx),un.there,tp,fz,λb ps q=>?_⟩;by_cases c:Hid G H b
   ·exact ⟨#[],by rw [m1 c,q];simp⟩
   ·obtain ⟨more,y⟩:=un.tbls b ps ((n2 c).trans q);exact ⟨more,m3 y⟩
  ·intro a o e;by_cases c:Hid G H a
   ·rw [m1 c] at e;refine (e0.hok a o e).stay (λb u y q=>?_) (λb q=>(m1 (ownH q)).trans q) tp;rcases y with rfl|y
    ·exact kp c q
    ·exact kp (ownH y) q
   ·rw [m2 c] at e;exact (hok a o e).stay (λ_ _ _ q=>q) (λb q=>m3 q) λb xs q=>m3 q
  ·refine hr'.sub (λa vs h=>?_) λa u _ q=>m3 q;rcases h with h|h
   ·rcases h with h|⟨o,h⟩
    ·exact .inl (.inl (m3 h))
    ·exact .inl (.inr ⟨o,m3 h⟩)
   ·exact .inr h
  ·intro a o q g;by_cases c:Hid G H a
   ·exact ⟨(m1 c).trans q,hr'.free (fr2 c)⟩
   ·have y:∃ vs,L2.Rd H a (.tup vs):=by
     by_cases z:∃ vs,L2.Rd H a (.tup vs)
     ·exact z
     ·exact absurd ⟨by rw [q];simp,g,λvs y=>z ⟨vs,y⟩⟩ c
    obtain ⟨vs,y⟩:=y;rcases y with y|⟨ob,y⟩
    ·rw [q] at y;cases y;exact ⟨tp a vs q,hr'.noneT (.inl (un.tups a vs ((n2 c).trans q)))⟩
    ·rw [q] at y;cases y;exact ⟨fz a _ _ q,hr'.noneT (.inr ⟨_,un.frzs a _ _ ((n2 c).trans q)⟩)⟩
end L3
namespace L2
open PySem PySem.Spec PyProof.Rows
def qis {l:List Env} {e T:Addr} {H H':Hp} {h h1 h2:Heap} (u:Un (frs l) [] H H' h h1) (v:Lv l e T h1 h2) (ne:h.get? e=none) (nT:h.get? T=none):Un (frs l) [] H H' h h2:=by
 have n1:∀ {b o},h.get? b=some o->b≠e:=λq z=>by subst z;rw [ne] at q;cases q
 have n2:∀ {b o},h.get? b=some o->b≠T:=λq z=>by subst z;rw [nT] at q;cases q
 refine ⟨λb o q n hb hx=>v.keep b o (u.keep b o q n hb hx) (n1 q) (n2 q) hb,λb o q n hb hx=>?_,u.free,λb o q hx=>?_,u.tups,u.frzs,u.tbls⟩
 ·obtain ⟨sl,q1⟩:=u.slot b o q n hb hx;obtain ⟨sl',q2⟩:=v.slot b _ q1 hb;exact ⟨sl',q2⟩
 ·obtain ⟨o',q1⟩:=u.there b o q hx;by_cases hb:b∈frs l
  ·obtain ⟨sl',q2⟩:=v.slot b _ q1 hb;exact ⟨_,q2⟩
  ·exact ⟨_,v.keep b _ q1 (n1 q) (n2 q) hb⟩
section
variable {X:Cx} {pins:List (Addr×Obj)} {σ:St} {H H':Hp} {s s':Shared}
def qod {M:Model} {A:Around} {E:Value->Shared->Prop} {base:Heap} {env:Env} {outer:List Env} {L e T:Addr} {cls a0:Value} {Q:Unit->Shared->Prop}
  (hfr:A.frames=some (env::outer)) (hf:env.frame=some L) (hl:s.heap.FunFrames base (env::outer)) (fl:Fly s.heap e T cls a0)
  (hQ:∀ h' T',Fly h' e T' cls a0->(T'=T\/s.heap.get? T'=none)->Lv (env::outer) e T s.heap h'->Q () { s with heap:=h' }):wpAny M A (noteFrame (.ref e) env) (λ_ s2=>wpAny M A (setFlight (.ref e) none) Q E s2) E s:=by
 classical
 obtain ⟨oe,ves,he,hed⟩:=fl.rec1;obtain ⟨oT,vts,hT,hTd⟩:=fl.rec2
 let p:Addr->Bool:=λb=>decide (b=e\/b=T\/b∈frs (env::outer))
 have pe:p e=true:=decide_eq_true (.inl rfl);have pT:p T=true:=decide_eq_true (.inr (.inl rfl));have hl':s.heap.FunFrames (D8 p s.heap) (env::outer):=js hl λb hb=>ZE (decide_eq_true (.inr (.inr hb)));refine wpAny_looks_onW (base:=D8 p s.heap) hfr hf ⟨YT p _,ZE pe,hl',fl.w (ZE pT)⟩ λh4 held up4=>?_;refine wpAny_landsW (s:={ s with heap:=h4 }) held λh5 fly up5=>?_;obtain ⟨k1,_,k2,k3⟩:=fly;obtain ⟨T',fl',nT⟩:=qan k3;refine hQ h5 T' fl' ?_ ⟨λb o hb h1 h2 h3=>k1 b o (CH hb (decide_eq_false λz=>z.elim h1 λz=>z.elim h2 h3)),λb o hb h3=>?_⟩
 ·rw [QY] at nT;split at nT
  ·rename_i c;rcases of_decide_eq_true c with c|c|c
   ·obtain ⟨_,_,_,_,_,_,_,_,ne,_⟩:=fl';exact absurd c ne
   ·exact .inl c
   ·obtain ⟨oT',ts',g1,g2⟩:=fl'.rec2;exact absurd c (qaA k2 g1 g2)
  ·exact .inr nT
 ·obtain ⟨_,o',e',n⟩:=hl.mem h3;rw [hb] at e';cases e';obtain ⟨sl,q⟩:=up4 b o hb n;obtain ⟨sl',q'⟩:=up5 b _ q n;exact ⟨sl',q'⟩
end
section
variable {M:Model} {A:Around} {E:Value->Shared->Prop}
variable {nm q nm' q':Str} {C N B N':Addr} {bs bm bs' bm':List Value} {hdct hdct':Bool} {sn sn':List Str} {sub sub':List Value} {ab ab':Bool} {col col':Option Bool} {dd dd':Option Addr} {k0 k1 k2 k3 k5 l0 l1 l2 l3 l5:Option Value} {newId newId':String}
def qgC {h:Heap} {g:Array GenState} {d:Drawn} {t:Nat} {os:OsState} {e:Addr} {oe:Obj} {b:Bool} {Q:Bool->Shared->Prop}
  (hC:h.get? C=some (excClassObj nm q C N bs bm hdct sn sub ab col dd k0 k1 k2 k3 k5 newId)) (hB:h.get? B=some (excClassObj nm' q' B N' bs' bm' hdct' sn' sub' ab' col' dd' l0 l1 l2 l3 l5 newId'))
  (he:h.get? e=some oe) (hcls:oe.cls=.ref C) (hbase:bm'.contains (.type "BaseException")=true) (hin:(Value.ref C::bm).contains (.ref B)=true)
  (hq:Q true ⟨h,g,d,t,os⟩):wpAny M A (excMatches (.ref e) (.ref B)) Q E ⟨h,g,d,t,os⟩:=by
 have hcB:(Value.ref B::bm').contains (.type "BaseException")=true:=by rw [List.contains_cons,hbase,Bool.or_true]
 have f:=tc_notTuple;unfold excMatches
 repeat (first|(with_reducible refine wpAny_loadPart_at he ?_;rw [hcls])|with_reducible refine wpAny_loadPart_at hB ?_|with_reducible refine wpAny_loadPart_at hC ?_|(with_reducible refine wpAny_isSubtype_exc hB ?_;rw [hcB])|(with_reducible refine wpAny_isSubtype_exc hC ?_;rw [hin])|wp_step)
 exact hq
end
open L3 (IsX)
def qiN {h:Heap} {e T C:Addr} {a0:Value} (f:Fly h e T (.ref C) a0):IsX e C h:=
 let ⟨oe,vs,_,_,h1,h2,h3,_⟩:=f;⟨oe,vs,h1,h2.1,h3⟩
def qhW {P:Program} {w:World} {H:Hp} {h:Heap} {a C:Addr} (x:IsX a C h):QZ P w H h a (.ext (IsX a C)):=
 ⟨x,let ⟨o,_,e,_⟩:=x;⟨o,e⟩,λh1 h2 ⟨o,vs,e,c,d⟩ k=>⟨o,vs,k _ e,c,d⟩⟩
section
variable {X:Cx} {pins:List (Addr×Obj)} {σ:St} {H:Hp} {s:Shared} {ea:Addr} {o:HO}
def Inv.track (I:Inv X pins σ H s) (h0:H ea=none) (n0:X.s₀.heap.get? ea=none) (nl:ea≠X.env.locals) (nc:∀ x c,X.env.cells.lookup x=some c->c≠ea) (np:∀ p∈X.pn++pins,p.1≠ea)
  (ok:QZ X.prog X.w (upd H ea o) s.heap ea o):Inv X pins σ (upd H ea o) s:=by
 have nb:∀ {b u},X.s₀.heap.get? b=some u->b≠ea:=λq z=>by subst z;rw [n0] at q;cases q
 have nu:∀ {b u},H b=some u->b≠ea:=λq z=>by subst z;rw [h0] at q;cases q
 refine ⟨I.ok,I.os,I.bare,⟨I.base.keep,I.base.slot,λb u q n hx=>?_,I.base.there,λb xs q=>?_,λb u v q=>?_,λb ps q=>?_⟩,I.loc,I.cell,?_,λx c e=>?_,λp hp=>?_,λa u e=>?_,I.len⟩
 ·rw [qz (nb q)];exact I.base.free b u q n hx
 ·have y:=I.base.tups b xs q;rw [qz (nu y)];exact y
 ·have y:=I.base.frzs b u v q;rw [qz (nu y)];exact y
 ·obtain ⟨more,y⟩:=I.base.tbls b ps q;exact ⟨more,by rw [qz (nu y)];exact y⟩
 ·rw [qz (Ne.symm nl)];exact I.free
 ·rw [qz (nc x c e)];exact I.freeC x c e
 ·obtain ⟨e,n,ne,nf,d⟩:=I.pin p hp;exact ⟨e,by rw [qz (np p hp)];exact n,ne,nf,d⟩
 ·by_cases z:a=ea
  ·subst z;rw [zg] at e;cases e;exact ok
  ·rw [qz z] at e;exact (I.hok a u e).stay (λ_ _ _ q=>q) (λb q=>by rw [qz (nu q)];exact q) λb xs q=>by rw [qz (nu q)];exact q
def Inv.gone {i:Nat} {n:Str} {m:Str->Option Value} {v:Option Value} {h':Heap} {t:Nat} (I:Inv X pins σ H s) (hN:X.N.Nodup) (hi:X.N[i]?=some n) (hm:s.heap.Ns X.env.locals m)
  (hn:h'.Ns X.env.locals (λx=>if x=n then v else m x)) (sb:Heap.SameBut X.env.locals s.heap h'):Inv X pins (σ.set i none) H { s with heap:=h',toks:=t }:=by
 have k:∀ b u,b≠X.env.locals->s.heap.get? b=some u->h'.get? b=some u:=λb u ne q=>(sb.2 b ne).trans q;have neL:∀ {b u},X.s₀.heap.get? b=some u->b≠X.env.locals:=λe=>Nat.ne_of_lt (Nat.lt_of_lt_of_le (Heap.lt_size e) I.ok.above);have trk:∀ {b u},H b=some u->b≠X.env.locals:=λq z=>by subst z;rw [I.free] at q;cases q
 have sz:=sb.1;refine ⟨I.ok,I.os,I.bare,⟨λb u q n hb hx=>k b u (neL q) (I.base.keep b u q n hb hx),λb u q n hb hx=>?_,I.base.free,λb u q hx=>?_,I.base.tups,I.base.frzs,I.base.tbls⟩,⟨_,hn,λj x u e1 e2 e3=>?_⟩,λx c e=>?_,I.free,I.freeC,λp hp=>?_,?_,by rw [List.length_set];exact I.len⟩
 ·obtain ⟨sl,y⟩:=I.base.slot b u q n hb hx;exact ⟨sl,k b _ (neL q) y⟩
 ·obtain ⟨u',y⟩:=I.base.there b u q hx;exact ⟨u',k b _ (neL q) y⟩
 ·rw [getElem?_set] at e2;split at e2
  ·split at e2<;>cases e2
  ·rename_i ne;obtain ⟨m2,hm2,hl⟩:=I.loc;obtain ⟨w,r,l⟩:=hl j x u e1 e2 e3;refine ⟨w,r,?_⟩;rcases l with ⟨l1,l2⟩|⟨l1,c,l2,l3⟩
   ·refine .inl ⟨l1,?_⟩;have nx:x≠n:=λz=>by
     subst z;exact ne ((List.getElem?_inj (List.getElem?_eq_some_iff.mp hi).1 hN).mp (hi.trans e1.symm))
    have em:m=m2:=hm.eq_nsMap.trans hm2.eq_nsMap.symm;show (if x=n then v else m x)=some w;rw [if_neg nx,em];exact l2
   ·obtain ⟨oc,hc,hd⟩:=l3;exact .inr ⟨l1,c,l2,oc,k c oc (I.cne x c l2) hc,hd⟩
 ·obtain ⟨v',oc,hc,hd⟩:=I.cell x c e;exact ⟨v',oc,k c oc (I.cne x c e) hc,hd⟩
 ·obtain ⟨e,n',ne,nf,d⟩:=I.pin p hp;exact ⟨k _ _ ne e,n',ne,nf,d⟩
 ·exact I.hok.tracked λb u z q=>k b u (λy=>by subst y;exact z I.free) q
end
def qkn {M:Model} {A:Around} {E:Value->Shared->Prop} {s:Shared} {base:Heap} {l:List Env} {e T:Addr} {cls a0:Value} {Q:Unit->Shared->Prop}
  (hl:s.heap.FunFrames base l) (fl:Fly s.heap e T cls a0)
  (hQ:∀ h' T',Fly h' e T' cls a0->(T'=T\/s.heap.get? T'=none)->Lv l e T s.heap h'->Q () { s with heap:=h' }):wpAny M A (setFlight (.ref e) none) Q E s:=by
 classical
 obtain ⟨oe,ves,he,hed⟩:=fl.rec1;obtain ⟨oT,vts,hT,hTd⟩:=fl.rec2
 let p:Addr->Bool:=λb=>decide (b=e\/b=T\/b∈frs l)
 have pe:p e=true:=decide_eq_true (.inl rfl);have pT:p T=true:=decide_eq_true (.inr (.inl rfl));have hl':s.heap.FunFrames (D8 p s.heap) l:=js hl λb hb=>ZE (decide_eq_true (.inr (.inr hb)));refine lands_againW (base:=D8 p s.heap) (l:=l) ⟨YT p _,ZE pe,hl',fl.w (ZE pT)⟩ λh5 fly up5=>?_;obtain ⟨k1,_,k2,k3⟩:=fly;obtain ⟨T',fl',nT⟩:=qan k3;refine hQ h5 T' fl' ?_ ⟨λb o hb h1 h2 h3=>k1 b o (CH hb (decide_eq_false λz=>z.elim h1 λz=>z.elim h2 h3)),λb o hb h3=>?_⟩
 ·rw [QY] at nT;split at nT
  ·rename_i c;rcases of_decide_eq_true c with c|c|c
   ·obtain ⟨_,_,_,_,_,_,_,_,ne,_⟩:=fl';exact absurd c ne
   ·exact .inl c
   ·obtain ⟨oT',ts',g1,g2⟩:=fl'.rec2;exact absurd c (qaA k2 g1 g2)
  ·exact .inr nT
 ·obtain ⟨_,o',e',n⟩:=hl.mem h3;rw [hb] at e';cases e';exact up5 b o hb n
def Cx.cat (X:Cx) (pins:List (Addr×Obj)) (σ0:St) (E:XK):Cx:={ X with pn:=X.pn++pins,xe:=λe s'=>∃ H1 s1,Inv X pins σ0 H1 s1/\CXe X.prog X.w X.stack H1 s1 E e s' }
def Cx.hdl (X:Cx) (e:Value):Cx:={ X with A:=X.A.mark (some e),calm:=false,xe:=λ_ _=>False }
section
variable {X:Cx} {pins:List (Addr×Obj)} {σ σ0:St} {H:Hp} {s:Shared} {E:XK} {e:Value}
def Inv.cat (I:Inv X pins σ H s):Inv (X.cat pins σ0 E) [] σ H s:=
 ⟨⟨I.ok.mod,I.ok.kind,I.ok.glob,I.ok.blt,I.ok.above,I.ok.inj,I.ok.has,I.ok.cab,I.ok.hd,I.ok.frames,I.ok.stk,I.ok.exf,I.ok.bs,I.ok.bsz,I.ok.noex,I.ok.exfs,I.ok.funs,I.ok.frf⟩,I.os,I.bare,I.base,I.loc,I.cell,I.free,I.freeC,λp hp=>I.pin p (by rw [List.append_nil] at hp;exact hp),I.hok,I.len⟩
def Inv.ofCat {pins':List (Addr×Obj)} (I:Inv (X.cat pins σ0 E) pins' σ H s):Inv X pins σ H s:=
 ⟨⟨I.ok.mod,I.ok.kind,I.ok.glob,I.ok.blt,I.ok.above,I.ok.inj,I.ok.has,I.ok.cab,I.ok.hd,I.ok.frames,I.ok.stk,I.ok.exf,I.ok.bs,I.ok.bsz,I.ok.noex,I.ok.exfs,I.ok.funs,I.ok.frf⟩,I.os,I.bare,I.base,I.loc,I.cell,I.free,I.freeC,λp hp=>I.pin p (List.mem_append_left _ hp),I.hok,I.len⟩
def Inv.hdl (I:Inv X pins σ H s):Inv (X.hdl e) pins σ H s:=
 ⟨⟨I.ok.mod,I.ok.kind,I.ok.glob,I.ok.blt,I.ok.above,I.ok.inj,I.ok.has,I.ok.cab,(λz=>nomatch z),I.ok.frames,I.ok.stk,I.ok.exf,I.ok.bs,I.ok.bsz,I.ok.noex,I.ok.exfs,I.ok.funs,I.ok.frf⟩,I.os,I.bare,I.base,I.loc,I.cell,I.free,I.freeC,I.pin,I.hok,I.len⟩
def Inv.ofHdl (ok:X.Ok) (I:Inv (X.hdl e) pins σ H s):Inv X pins σ H s:=
 ⟨ok,I.os,I.bare,I.base,I.loc,I.cell,I.free,I.freeC,I.pin,I.hok,I.len⟩
end
section
variable {X:Cx} {pins:List (Addr×Obj)} {σ:St} {H:Hp} {s s':Shared} {E:XK} {ev:Value}
def EV (I:Inv X pins σ H s) {ea T C:Addr} {a0:Value} {H':Hp} (os:s'.os=s.os) (bare:AllBare s'.gens) (un:Un (frs X.stack) [] H H' s.heap s'.heap) (hok:HOk X.prog X.w H' s'.heap):Inv X pins σ H' s':=
 I.call' (ch:=[]) os un hok bare (λb z=>absurd z (by simp))
def qeg (I:Inv X pins σ H s) {ea T T' C:Addr} {a0:Value} {H':Hp} {h':Heap} (ne:s.heap.get? ea=none) (nT:s.heap.get? T=none) (He:H' ea=none) (HT:H' T=none) (os:s'.os=s.os) (bare:AllBare s'.gens) (un:Un (frs X.stack) [] H H' s.heap s'.heap)
  (hok:HOk X.prog X.w H' s'.heap) (hE:E (.ref C) none H') (fl':Fly h' ea T' (.ref C) a0) (hT':T'=T\/s'.heap.get? T'=none) (lv:Lv X.stack ea T s'.heap h'):CXe X.prog X.w X.stack H s E (.ref ea) { s' with heap:=h' }:=by
 have I':Inv X pins σ H' s':=EV (ea:=ea) (T:=T) (C:=C) (a0:=a0) I os bare un hok;have hok':HOk X.prog X.w H' h':=hok.tracked λb u z q=>lv.keep b u q (λy=>by subst y;exact z He) (λy=>by subst y;exact z HT) λy=>z (I'.stkFree b y);have gone:s'.heap.get? T'=none->s.heap.get? T'=none:=λq=>by
  cases z:s.heap.get? T' with
  |none=>rfl
  |some o=>obtain ⟨o',y⟩:=un.there T' o z (by simp);rw [q] at y;cases y
 rcases hT' with rfl|hT'
 ·exact ⟨ea,_,C,a0,H',rfl,fl',ne,nT,He,HT,os,bare,qis un lv ne nT,hok',hE⟩
 ·exact ⟨ea,T',C,a0,H',rfl,fl',ne,gone hT',He,hok.nil hT',os,bare,qis un lv ne nT,hok',hE⟩
def qch {E':Value->Shared->Prop} {Q:Unit->Shared->Prop} {L:Addr} (hst:X.stack=X.env::X.outer) (hf:X.env.frame=some L) (I:Inv X pins σ H s) (h:CXe X.prog X.w X.stack H s E ev s')
  (hQ:∀ h',CXe X.prog X.w X.stack H s E ev { s' with heap:=h' }->Q () { s' with heap:=h' }) :
  wpAny (model X.prog X.w) X.A (noteFrame ev X.env) (λ_ s2=>wpAny (model X.prog X.w) X.A (setFlight ev none) Q E' s2) E' s':=by
 obtain ⟨ea,T,C,a0,H',rfl,fl,ne,nT,He,HT,os,bare,un,hok,hE⟩:=h;have I':Inv X pins σ H' s':=EV (ea:=ea) (T:=T) (C:=C) (a0:=a0) I os bare un hok;have hfr:X.A.frames=some (X.env::X.outer):=I.ok.frames.trans (by rw [hst]);have hl:s'.heap.FunFrames X.base (X.env::X.outer):=by rw [← hst];exact I'.stack
 refine qod hfr hf hl fl λh' T' fl' hT' lv=>?_;rw [← hst] at lv;exact hQ h' (qeg I ne nT He HT os bare un hok hE fl' hT' lv)
def qa2 {M:Model} {A:Around} {E':Value->Shared->Prop} {Q:Unit->Shared->Prop} (I:Inv X pins σ H s) (h:CXe X.prog X.w X.stack H s E ev s')
  (hQ:∀ h',CXe X.prog X.w X.stack H s E ev { s' with heap:=h' }->Q () { s' with heap:=h' }):wpAny M A (setFlight ev none) Q E' s':=by
 obtain ⟨ea,T,C,a0,H',rfl,fl,ne,nT,He,HT,os,bare,un,hok,hE⟩:=h;have I':Inv X pins σ H' s':=EV (ea:=ea) (T:=T) (C:=C) (a0:=a0) I os bare un hok;refine qkn I'.stack fl λh' T' fl' hT' lv=>?_;exact hQ h' (qeg I ne nT He HT os bare un hok hE fl' hT' lv)
def ExC (base:Heap) (C:Addr) (mro:List Value):Prop:=∃ nm q N bs bm hdct sn sub ab col dd k0 k1 k2 k3 k5 newId,base.get? C=some (excClassObj nm q C N bs bm hdct sn sub ab col dd k0 k1 k2 k3 k5 newId)/\mro=.ref C::bm
def Ct (base:Heap) (B C:Addr):Prop:=∃ mro,ExC base C mro/\mro.contains (.ref B)=true
def qjh (base:Heap) (B:Addr) (i:Nat) (ts:TS) (D:Ends) (σ:St):XK:=λcls _ H'=>∃ C,cls=.ref C/\Ct base B C /\
 ∀ e,H' e=none->ts { nx:=λσ' H''=>D.nx (σ'.set i none) H'',rt:=λ_ _=>False } (σ.set i (some (.ref e))) (upd H' e (.ext (IsX e C)))
def qpv (base:Heap) (B:Addr) (i:Nat) (tn:TS) (tr:St->XK->TS) (ts:TS):TS:=λD σ H=>tn D σ H\/tr σ (qjh base B i ts D σ) { nx:=λ_ _=>False,rt:=λ_ _=>False } σ H
def qjA {st:Stmt} {x n:Str} {B:Addr} {i:Nat} {mB:List Value} {np hp pos:Pos} {b0:Stmt} {suite:List Stmt} {tn ts:TS} {tr:St->XK->TS} {L:Addr}
  (hst:X.stack=X.env::X.outer) (hf:X.env.frame=some L) (hex:X.ex=[]) (hgl:Gl X x) (hmg:X.mg x=some (.ref B)) (hB:ExC X.base B mB) (hbb:mB.tail.contains (.type "BaseException")=true)
  (hN:X.N.Nodup) (hi:X.N[i]?=some n) (hloc:X.env.kindOf n=some .local) (hlo:X.env.scope.names.lookup n=some .local)
  (hn:PSs X.nox [st] tn) (hx:∀ pins σ0 E,PSs (X.cat pins σ0 E) [st] (tr σ0 E)) (hs:∀ ev,PSs (X.hdl ev) (b0::suite) ts) (hdb:(x==("__debug__" : Str))=false:=by decide) :
  PS X (.Try [st] [.ExceptHandler (some (.Name x np)) (some n) (b0::suite) hp] [] [] pos) (qpv X.base B i tn tr ts):=by
 intro pins s σ H D I h;refine wpAny_Try_except ?_;rcases h with h|h
 ·refine wpAny_mono (hn pins s σ H D (I.wish _) h) (λf s1 q=>?_) λ_ _ z=>z.elim;have q:=q.unwish;cases f with
  |next=>obtain ⟨σ',H',I',q⟩:=q;exact wpAny_execs_nil ⟨σ',H',I',q⟩
  |brk=>exact q
  |cont=>exact q
  |ret u=>exact q
 ·refine wpAny_mono (hx pins σ _ [] s σ H _ I.cat h) (λf s1 q=>?_) λe s1 q=>?_
  ·cases f with
   |next=>obtain ⟨_,_,_,z⟩:=q;exact z.elim
   |brk=>obtain ⟨_,_,_,z⟩:=q;exact z.elim
   |cont=>obtain ⟨_,_,_,z⟩:=q;exact z.elim
   |ret u=>obtain ⟨_,_,_,_,_,z⟩:=q;exact z.elim
  ·obtain ⟨H1,s2,I2,q⟩:=q;refine qch hst hf I2 q λh1 q1=>?_;have nb:e≠byPass:=by obtain ⟨ea,_,_,_,_,rfl,_⟩:=q1;intro z;cases z
   obtain ⟨nmB,qB,NB,bsB,bmB,hdB,snB,subB,abB,colB,ddB,kB0,kB1,kB2,kB3,kB5,nwB,gB,rfl⟩:=hB;refine wpAny_handleBy_cons (codeAny_handlers_test ?_) nb;have hq1:=q1;obtain ⟨ea,T,C,a0,H',rfl,fl,ne,nT,He,HT,os,bare,un,hok,hE⟩:=hq1;have I3:Inv X pins σ H' { s1 with heap:=h1 }:=EV (ea:=ea) (T:=T) (C:=C) (a0:=a0) I2 os bare un hok;have I3h:Inv (X.hdl (.ref ea)) pins σ H' { s1 with heap:=h1 }:=I3.hdl;refine DU (X:=X.hdl (.ref ea)) I3h hgl hmg ?_ hdb;obtain ⟨C',eC,⟨mro,⟨nm,q',N,bs,bm,hd,sn,sub,ab,col,dd,k0,k1,k2,k3,k5,nw,gC,rfl⟩,hin⟩,hgo⟩:=hE;cases eC;obtain ⟨oe,vs,_,_,g1,g2,_⟩:=fl;refine qgC (b:=true) (I3.bk _ _ gC) (I3.bk _ _ gB) g1 g2.1 hbb hin ?_;refine codeAny_handlers_suite_as ?_;refine qa2 I2 q1 λh2 q2=>?_;obtain ⟨ea',T2,C2,a2,H2,e2,fl2,ne2,nT2,He2,HT2,os2,bare2,un2,hok2,hE2⟩:=q2;cases e2;obtain ⟨C3,eC,⟨mro3,ex3,hin3⟩,hgo2⟩:=hE2;cases eC;have I4:Inv X pins σ H2 { s1 with heap:=h2 }:=EV (s':={ s1 with heap:=h2 }) (ea:=ea) (T:=T2) (C:=C2) (a0:=a2) I2 os2 bare2 un2 hok2;have noex:∀ b:Addr,s2.heap.get? b=none->X.s₀.heap.get? b=none:=λb q=>by
    cases z:X.s₀.heap.get? b with
    |none=>rfl
    |some o=>obtain ⟨o',y⟩:=I2.base.there b o z (by rw [hex];simp);rw [q] at y;cases y
   have nl:ea≠X.env.locals:=λz=>by
    obtain ⟨m,⟨o,es,ep,ho,_⟩,_⟩:=I2.loc;rw [← z,ne2] at ho;cases ho
   have nc:∀ y c,X.env.cells.lookup y=some c->c≠ea:=λy c e z=>by
    obtain ⟨v,o,ho,_⟩:=I2.cell y c e;rw [z,ne2] at ho;cases ho
   have np:∀ p∈X.pn++pins,p.1≠ea:=λp hp z=>by
    have y:=(I2.pin p hp).1;rw [z,ne2] at y;cases y
   have I5:Inv X pins σ (upd H2 ea (.ext (IsX ea C2))) { s1 with heap:=h2 }:=I4.track He2 (noex ea ne2) nl nc np (qhW (qiN fl2));refine Y0 (X:=X.hdl (.ref ea)) (v:=.ref ea) I5.hdl hN hi (.inl hlo) rfl (λs3 I6=>?_) (.inr hlo);refine wpAny_mono (hs (.ref ea) pins s3 _ _ _ I6 (hgo2 ea He2)) (λf s4 q=>?_) λ_ _ z=>z.elim;cases f with
   |next=>
    obtain ⟨σ',H'',I7,q⟩:=q;have I7:=I7.ofHdl I.ok;obtain ⟨m,hm,hl⟩:=I7.loc;refine wpAny_nameGoes_keeps hloc hm (by rw [I.ok.kind];rfl) λh8 v hn8 sb=>?_;exact ⟨_,_,I7.gone hN hi hm hn8 sb,q⟩
   |brk=>obtain ⟨_,_,_,z⟩:=q;exact z.elim
   |cont=>obtain ⟨_,_,_,z⟩:=q;exact z.elim
   |ret u=>obtain ⟨_,_,_,_,_,z⟩:=q;exact z.elim
end
end L2
namespace L2
open PySem PySem.Spec PyProof.Rows PySem.W PySem.Calls Builtin Builtin.ObjectAttr Builtin.Getset_descriptor
open L3 (IsX)
structure ExK (K:Frag) (C:Addr):Prop where
 cls:(clsIn K C).isSome=true
 ga:findIn K (.ref C) "__getattribute__" = some (some (.builtin "BaseException.__getattribute__"))
 no:findIn K (.ref C) "__getattr__" = some none
 cl:findIn K (.ref C) "__class__" = some (some (.builtin "object.__class__"))
 ob:mroIn K C (.type "object")=some true
 be:mroIn K C (.type "BaseException")=some true
section
variable {prog:Program} {w:World} {A:Around} {E:Value->Shared->Prop} {K:Frag} {e C:Addr}
def qaj {M:Model} {h:Heap} (x:IsX e C h):Looks M h (typeOf (.ref e)) (.ref C):=by
 obtain ⟨o,vs,h1,h2,_⟩:=x;exact h2▸(Looks.ld h1).andThen .now
def ME {R:Result->Shared->Prop} {tp:Value} {s:Shared} (k:ExK K C) (X:K.In s.heap) (x:IsX e C s.heap) (h:R (.ok (.ret (.ref C))) s) :
  codeAny (model prog w) A (.call (.builtin "getset_descriptor.__get__") ⟨[.builtin "object.__class__",.ref e,tp],[]⟩) R s:=by
 obtain ⟨hh,g,dr,t,os⟩:=s;have L0:=qaj (M:=model prog w) x;have L1:=looks_mroIn (M:=model prog w) X k.ob;refine codeAny_call_builtin KF.slot_gs.plain KF.entry_gs (KF.slot_gs.check _ _ _ _ _ _ _ _ KF.type_class (KF.args_gs _ _ _) ?_);unfold Builtin.«getset_descriptor.__get__» descrGet;rw [dga_obj];refine wpAny_bind (wpAny_pure ?_);unfold descrGetter descrCheckInstance descrNameAndClass isInstance;simp only [KF.owner_class]
 repeat lk
 refine ⟨Code.quiet_builtin _ (by decide +kernel),codeAny_builtin KF.entry_class ?_⟩;unfold Builtin.«object.__class__» shownTypeOf
 repeat lk
 exact h
def C0 {tk:Tok} {Q:Fin->Shared->Prop} {h:Heap} {g:Array GenState} {d:Drawn} {t:Nat} {os:OsState} (k:ExK K C) (X:K.In h) (x:IsX e C h) (hq:Q (.done (.ret (.ref C))) ⟨h,g,d,t,os⟩) :
  wpAny (model prog w) A (Builtin.«object.__getattribute__» ⟨[.ref e,.str "__class__" tk],[]⟩) Q E ⟨h,g,d,t,os⟩:=by
 have L0:=qaj (M:=model prog w) x;have L1:=looks_findIn (M:=model prog w) X k.cl;have hT5:(⟨h,g,d,t,os⟩:Shared).TypeIs (.builtin "object.__class__") "getset_descriptor" := F.typeOf_object_class;have f5:=F.typeOf_object_class;have f6:=F.slot_gs_get.lookup;have f7:=F.slot_gs_set.lookup;obtain ⟨o,vs,hx,hc,hd⟩:=id x
 repeat (any_goals (first|assumption|(with_reducible refine wpAny_loadPart_at hx ?_;rw [hc])|with_reducible refine L1.at ?_|wp_step))
 refine ME k X x ?_
 repeat (any_goals (first|assumption|wp_step))
def NC {M:Model} {nameV:Value} {Q:Unit->Shared->Prop} {h:Heap} {g:Array GenState} {d:Drawn} {t:Nat} {os:OsState} (k:ExK K C) (X:K.In h) (x:IsX e C h) (hq:Q () ⟨h,g,d,t,os⟩) :
  wpAny M A (checkBuiltinCall "BaseException.__getattribute__" ⟨[.ref e,nameV],[]⟩) Q E ⟨h,g,d,t,os⟩:=by
 have hk:builtinKind "BaseException.__getattribute__" = some .slot:=by decide +kernel
 have hsplit:splitId "BaseException.__getattribute__" = some ("BaseException","__getattribute__"):=by decide +kernel
 have L1:=looks_mroIn (M:=M) X k.be;have ha:=F.args_bexc_ga (.ref e) nameV;simp only [checkBuiltinCall,hk,hsplit];obtain ⟨o,vs,hx,hc,hd⟩:=id x;refine wpAny_bind ?_
 ·unfold isInstance
  repeat (first|(with_reducible refine wpAny_loadPart_at hx ?_;rw [hc])|with_reducible refine L1.at ?_|wp_step)
  exact hq
def M3 {tk:Tok} {Q:Value->Shared->Prop} {h:Heap} {g:Array GenState} {d:Drawn} {t:Nat} {os:OsState} (k:ExK K C) (X:K.In h) (x:IsX e C h) (hq:Q (.ref C) ⟨h,g,d,t,os⟩) :
  wpAny (model prog w) A (getAttrBy (.ref e) (.str "__class__" tk) false) Q E ⟨h,g,d,t,os⟩:=by
 have f3:bindSpecial (.builtin "BaseException.__getattribute__") (.ref e)=pure (.builtin "BaseException.__getattribute__",[.ref e]):=by kernel_rfl
 have hx2:(Value.builtin "BaseException.__getattribute__" == Value.builtin "object.__getattribute__")=false:=by decide +kernel
 have hx1:(onTheHeap (Value.ref C)&&Value.builtin "BaseException.__getattribute__" == Value.builtin "object.__getattribute__")=false:=by rw [hx2];rfl
 have L1:=looks_findIn (M:=model prog w) X k.ga;have L2:=looks_findIn (M:=model prog w) X k.no;obtain ⟨o,vs,hx,hc,hd⟩:=id x
 repeat (any_goals (first|assumption|(with_reducible refine wpAny_loadPart_at hx ?_;rw [hc])|with_reducible refine L1.at ?_|with_reducible refine L2.at ?_|wp_step))
 refine codeAny_call_builtin (by decide +kernel) F.entry_bexc_ga (NC k X x (C0 k X x ?_))
 repeat (any_goals (first|assumption|wp_step))
def SR {Q:Option Value->Shared->Prop} {s:Shared} (k:ExK K C) (X:K.In s.heap) (x:IsX e C s.heap) (hq:Q (some (.ref C)) { s with toks:=s.toks+1 }):wpAny (model prog w) A (getAttr? (.ref e) "__class__") Q E s:=by
 obtain ⟨h,g,d,t,os⟩:=s;unfold getAttr? getAttrBy?
 repeat (any_goals (first|assumption|with_reducible apply M3 k X x|wp_step))
def qbs (k:ExK K C):KitX K (.ref e) (.ref C) (IsX e C) where
 ty:=λ_ _ _ x=>qaj x
 it:=λ_ _ X _=>by
  obtain ⟨cd,hc⟩:=Option.isSome_iff_exists.mp k.cls;unfold clsIn at hc;split at hc
  ·rename_i c' d' cd' sl' ho;intro A' Q' E' s' k q;unfold isType loadHead;exact wpAny_bind (wpAny_loadPart (k _ _ (X _ _ ho)) (wpAny_pure q))
  ·cases hc
 ne:=λh tp dd its n sl X htp=>by
  obtain ⟨cd,hc⟩:=Option.isSome_iff_exists.mp k.cls;refine Bool.eq_false_iff.mpr λq=>?_;have e:C=tp:=Value.ref.inj (beq_iff_eq.mp q);subst e;unfold clsIn at hc;split at hc
  ·rename_i c' d' cd' sl' ho;have z:=(X _ _ ho).symm.trans htp;cases z
  ·cases hc
 ca:=λX x q=>SR k X x q
end
end L2
namespace L3
open PySem PySem.Spec PyProof.Rows L2
abbrev TX3:=X3->St3->Gp->Prop
def lX (K:Frg) (tx:TX3) (σ0:L2.St) (E:XK):TS:=λ_ σ H=>σ=σ0/\∃ τ G dx,Rel K τ G σ H/\tx dx τ G/\∀ C G' H',HR K G' H'->Kp G H G' H'->dx C G'->E (.ref C) none H'
def lXE (K:Frg) (tx:TX3) (σ0:L2.St) (E:XK):TE:=λσ H _=>σ=σ0/\∃ τ G dx,Rel K τ G σ H/\tx dx τ G/\∀ C G' H',HR K G' H'->Kp G H G' H'->dx C G'->E (.ref C) none H'
structure jXE3 (X:Cx) (e:Expr) (tx:TX3):Prop where h:∀ pins σ0 E,PE (X.cat pins σ0 E) e (lXE X.K tx σ0 E)
structure jX3 (X:Cx) (sts:List Stmt) (tx:TX3):Prop where h:∀ pins σ0 E,PSs (X.cat pins σ0 E) sts (lX X.K tx σ0 E)
def Fnx (P:Program) (w:World) (K:Frg) (mg:Str->Option Value) (base:Heap) (k:Nat) (x:Str) (sx:Spx):Prop:=
 ∃ f fd ps,FnOk P w K mg base (CXe P w) k f fd ps (lSx K sx)/\zm K fd ps []/\PySem.W.keepIn K (.ref f)=true/\mg x=some (.ref f)
def qgv (sx:Spx) (t:TA3):TX3:=λdx τ G=>t τ G λxs G1=>sx xs G1 dx
section
variable {X:Cx} {k:Nat} {x:Str} {sx:Spx} {p pos:Pos} {e:Expr} {es:List Expr} {ta:TA3} {tx ty:TX3}
def qgs (F:Fnx X.prog X.w X.K X.mg X.base k x sx) (hr:Room k X.A) (hg:Gl X x) (ha:∀ pins σ0 E,jA3 (X.cat pins σ0 E) (e::es) ta) (hdb:(x==("__debug__" : Str))=false:=by decide)
  (he:starEach (e::es) X.env=(false,eval e X.env)::starEach es X.env:=by rfl) (hpl:(backTo pos (starEach es X.env)).any (·.1)=false:=by rfl):jXE3 X (.Call (.Name x p) (e::es) [] pos) (qgv sx ta):=by
 refine ⟨λpins0 σ0 E=>?_⟩;intro pins s σ H Q I h;obtain ⟨hσ,τ,G,dx,rl,h,af⟩:=h;obtain ⟨f,fd,ps,F,hb,hk,hm⟩:=F;refine wpAny_Call_Name_kw (DU I hg hm ?_ hdb);have hA:=(ha pins0 σ0 E).h pos pins s σ H (λvs H1=>∃ xs G1,sx xs G1 dx/\Rps X.K H1 xs vs/\HR X.K G1 H1/\Kp G H G1 H1) I (ZX rl h λxs G1 h1 vs H1 rs hr1 k1 rl1=>⟨xs,G1,h1,rs,hr1,k1⟩);refine PySem.W.callWith_K (h₀:=X.base) I.ok.mod.kin hk (thn hA λus s1 ⟨vs,H1,I1,r,xs,G1,h1,rs,hr1,k1⟩=>⟨I1.kIn,?_⟩) he hpl;have sp:lSx X.K sx vs H1 (λ_ _=>False) E:=⟨xs,G1,dx,hr1,rs,h1,λC G' H' a b c=>af C G' H' a (k1.trans b) c⟩
 have hl:us.length=ps.length:=by rw [← r.length];exact F.len _ _ _ _ sp
 have hb':BindsTo s1 fd ⟨us,[]⟩ (ps.zip us):=by
  have z:=hb s1 us I1.kIn (by rw [List.append_nil];exact hl);rw [List.append_nil] at z;exact z
 refine wpAny_call (codeAny_mono (F.run X.A X.stack s1 H1 ⟨us,[]⟩ us vs (λ_ _=>False) E hr I1.env0 hb' r sp) λr s' hq=>?_);subst hσ;cases r with
 |error e=>exact ⟨H1,s1,I1.ofCat,hq⟩
 |ok fl=>
  cases fl with
  |ret u=>obtain ⟨_,_,_,_,_,_,_,z⟩:=hq;exact z.elim
  |next=>exact False.elim hq
  |brk=>exact False.elim hq
  |cont=>exact False.elim hq
def qhK (i:Nat) {n:Str} {pos':Pos} (hN:X.N.Nodup) (h:jXE3 X e tx) (hi:X.N[i]?=some n:=by rfl) (hx:Loc X.env.scope n:=by first|exact Or.inl rfl|exact Or.inr rfl) (hs:swapsWith e (some (.Name n pos')) pos.line X.env=pure false:=by rfl) (hf:X.fn n=true\/X.env.scope.names.lookup n=some .local:=by first|exact .inl rfl|exact .inr rfl) :
  jX3 X [.Assign [.Name n pos'] e pos] tx:=
 ⟨λpins σ0 E=>N8 (MY (qcs hN hi hx (h.h pins σ0 E) hs hf) λD σ H z=>z)⟩
end
def Rel.del {K:Frg} {τ:St3} {G:Gp} {σ:L2.St} {H:Hp} (r:Rel K τ G σ H) (i:Nat):Rel K (τ.set i none) G (σ.set i none) H:=by
 refine ⟨r.hp,by simp [r.len],λj u e=>?_⟩;by_cases hij:i=j
 ·subst hij;rw [List.getElem?_set_self'] at e;cases q:τ[i]? with
  |none=>rw [q] at e;cases e
  |some z=>rw [q] at e;cases e
 ·rw [List.getElem?_set_ne hij] at e;obtain ⟨w,h1,h2⟩:=r.st j u e;exact ⟨w,by rw [List.getElem?_set_ne hij];exact h1,h2⟩
def HR.newX {K:Frg} {G:Gp} {H:Hp} (hr:HR K G H) {p C:Addr} (hp:H p=none):HR K (gu G p (.exn C)) (upd H p (.ext (IsX p C))):=λa o e=>by
 by_cases ha:a=p
 ·subst ha;rw [qq] at e;cases e;exact zg
 ·rw [zS ha] at e;exact (hr a o e).keep hr (Kp.laid hp) λu h=>by rw [qz ha];exact h
def qoR (i:Nat) (cs:List Addr) (tn:TS3) (tx:TX3) (ts:TS3):TS3:=λd τ G=>tn d τ G ∨
 tx (λC G'=>C∈cs/\∀ e,G' e=none->ts { nx:=λτ' G''=>d.nx (τ'.set i none) G'',rt:=λ_ _=>False } (τ.set i (some (.ref e))) (gu G' e (.exn C))) τ G
def qgS {X:Cx} {st:Stmt} {x n:Str} {B:Addr} {i:Nat} {mB:List Value} {np hp pos:Pos} {b0:Stmt} {suite:List Stmt} {tn ts:TS3} {tx:TX3} {L:Addr} (cs:List Addr)
  (hst:X.stack=X.env::X.outer) (hf:X.env.frame=some L) (hex:X.ex=[]) (hgl:Gl X x) (hmg:X.mg x=some (.ref B)) (hB:ExC X.base B mB) (hbb:mB.tail.contains (.type "BaseException")=true) (hcs:∀ C∈cs,Ct X.base B C)
  (hN:X.N.Nodup) (hi:X.N[i]?=some n) (hloc:X.env.kindOf n=some .local) (hlo:X.env.scope.names.lookup n=some .local)
  (hn:jB3 X.nox [st] tn) (hx:jX3 X [st] tx) (hs:∀ ev,jB3 (X.hdl ev) (b0::suite) ts) (hdb:(x==("__debug__" : Str))=false:=by decide) :
  jS3 X (.Try [st] [.ExceptHandler (some (.Name x np)) (some n) (b0::suite) hp] [] [] pos) (qoR i cs tn tx ts):=by
 refine ⟨MY (qjA hst hf hex hgl hmg hB hbb hN hi hloc hlo hn.h hx.h (ts:=lS X.K ts) (λev=>(hs ev).h) hdb) λD σ H ⟨τ,G,d,rl,h,af⟩=>?_⟩;rcases h with h|h
 ·exact .inl ⟨τ,G,d,rl,h,af⟩
 ·refine .inr ⟨rfl,τ,G,_,rl,h,λC G' H' hr' k' ⟨hc,hd⟩=>⟨C,rfl,hcs C hc,λe he=>?_⟩⟩;have rl':Rel X.K τ G' σ H':=rl.next hr' k';have hrn:=hr'.newX (C:=C) he;have kn:Kp G' H' (gu G' e (.exn C)) (upd H' e (.ext (IsX e C))):=Kp.newL he;refine ⟨τ.set i (some (.ref e)),gu G' e (.exn C),_,(rl'.next hrn kn).set i (.ref e),hd e (hr'.free he),⟨λτ2 G2 q σ2 H2 r2 k2=>?_,λ_ _ z=>z.elim,λ_ _ z=>z.elim,λ_ _ z=>z.elim⟩⟩;exact af.nx _ _ q _ _ (r2.del i) ((k'.trans kn).trans k2)
structure RaX (mg:Str->Option Value) (base:Heap) (x:Str) (C:Addr):Prop where
 h:OwnCls x C [.type "ValueError",.type "Exception",.type "BaseException",.type "object"] "ValueError.__new__" mg base
def qbR {P:Program} {w:World} {K:Frg} {mg:Str->Option Value} {base:Heap} {N:List Str} {qual:Str} {scope:Scope} {f:Addr} {cd:Value} {A:Around} {outer:List Env} {s0:Shared} {H0:Hp} {E:XK} {x:Str} {C:Addr} {np cpos pos:Pos} {e:Expr} {es:List Expr} {t:TA3} {dx:X3}
  (hE:∀ cls H',EX K dx cls none H'->E cls none H') (O:RaX mg base x C)
  (hc:(U2 (CXe P w) P w K mg base N qual scope f cd A outer s0 H0 E).calm=true) (hg:Gl (U2 (CXe P w) P w K mg base N qual scope f cd A outer s0 H0 E) x) (ha:jA3 (U2 (CXe P w) P w K mg base N qual scope f cd A outer s0 H0 E) (e::es) t)
  (hdb:(x==("__debug__" : Str))=false:=by decide) (he:starEach (e::es) (U2 (CXe P w) P w K mg base N qual scope f cd A outer s0 H0 E).env=(false,eval e (U2 (CXe P w) P w K mg base N qual scope f cd A outer s0 H0 E).env)::starEach es (U2 (CXe P w) P w K mg base N qual scope f cd A outer s0 H0 E).env:=by rfl)
  (hpl:(backTo cpos (starEach es (U2 (CXe P w) P w K mg base N qual scope f cd A outer s0 H0 E).env)).any (·.1)=false:=by rfl) :
  jS3 (U2 (CXe P w) P w K mg base N qual scope f cd A outer s0 H0 E) (.Raise (some (.Call (.Name x np) (e::es) [] cpos)) none pos) (K7 C dx t):=
 ⟨qfF O.h PySem.F.excBase_ValueError (by first|decide|decide +kernel) PySem.F.excBase_ValueError hc hg ha.h (λpins σ H s ea h' vs I hx z=>qgo I hx (hE _ _ z)) hdb he hpl⟩
def qga {P:Program} {w:World} {K:Frg} {mg:Str->Option Value} {base:Heap} {x qual:Str} {st:Stmt} {f:Addr} {fd:FuncData} {N ps:List Str} {k:Nat} {sx:Spx} {t3:X3->TS3} (F:Fun K x qual st f fd) (S:FnScope N ps (qi st)) (bd:zm K fd ps []) (hm:mg x=some (.ref f))
  (body:∀ (dx:X3) (cdv:Value) (A:Around) (outer:List Env) (s:Shared) (H:Hp) (E:XK),(∀ cls H',EX K dx cls none H'->E cls none H')->Room k (A.deeper (envOfC qual (qi st) s.heap.objs.size f cdv)) ->
   jB3 (U2 (CXe P w) P w K mg base N qual (qi st) f cdv A outer s H E) (zi st) (t3 dx))
  (read:∀ ts G dx,sx ts G dx->ts.length=ps.length/\t3 dx { nx:=λ_ _=>False,rt:=λ_ _=>False } (qk N ts) G):Fnx P w K mg base (k+1) x sx:=
 ⟨f,fd,ps,qjf (qil F S (λdx cdv A outer s H E hE hr=>(body dx cdv A outer s H E hE hr).h) read),bd,F.kp,hm⟩
def exT (G:Gp):T->Option (Option Addr)
 |.non=>some none
 |.ref e=>match G e with|some (.exn C)=>some (some C)|_=>none
 |_=>none
def qgr (D:List (Option Addr×Bool)) (te:TE3):TE3:=λτ G q=>te τ G λx G1=>match exT G1 x with|some o=>(match D.lookup o with|some b=>q (.bl b) G1|none=>False)|none=>False
def tyv:Option Addr->Value
 |none=>.type "NoneType"
 |some C=>.ref C
def XD (K:Frg) (cs:List Value) (D:List (Option Addr×Bool)):Prop:=∀ p∈D,(∀ C,p.1=some C->ExK K C)/\PySem.W.kitAny K (tyv p.1) cs=some p.2
def WX {D:List (Option Addr×Bool)} {o:Option Addr} {b:Bool} (h:D.lookup o=some b):(o,b)∈D:=by
 induction D with
 |nil=>cases h
 |cons p r ih=>
  obtain ⟨a,c⟩:=p;rw [List.lookup_cons] at h;split at h
  ·rename_i z;cases h;rw [beq_iff_eq.mp z];exact List.mem_cons_self
  ·exact List.mem_cons_of_mem _ (ih h)
def K3 {X:Cx} {pins:List (Addr×Obj)} {σ:L2.St} {G:Gp} {H:Hp} {s:Shared} (I:Inv X pins σ H s) (hr:HR X.K G H) {x:T} {v:V} {u:Value} {o:Option Addr} (r:Rp X.K H x v) (rv:jg v u) (h:exT G x=some o) (k:∀ C,o=some C->ExK X.K C) :
  ∃ HH,PySem.W.KitX X.K u (tyv o) HH/\HH s.heap/\u≠.builtin "__main__.__loader__#opaque" := by
 cases r with
 |non=>cases h;cases (show u=Value.none from rv);exact ⟨_,PySem.W.kitx_none,trivial,λz=>nomatch z⟩
 |ref a=>
  cases (show u=Value.ref a from rv);unfold exT at h;dsimp only at h;split at h
  ·rename_i C g;cases h;have q:H a=some (.ext (IsX a C)):=hr a _ g;obtain ⟨y,_,_⟩:=(show QZ X.prog X.w H s.heap a (.ext (IsX a C)) from I.hok a _ q)
   exact ⟨_,qbs (k C rfl),y,λz=>nomatch z⟩
  ·cases h
 |bl b=>cases h
 |int b=>cases h
 |str b=>cases h
 |tup _ _=>cases h
def LS {K:Frg} {t c:Value} {b:Bool} (h:PySem.W.kitAny K t [c]=some b):PySem.W.kitOne K t c=some b:=by
 unfold PySem.W.kitAny at h;split at h
 ·rename_i q;rw [q,← h]
 ·rename_i q;rw [q,← h];rfl
 ·cases h
def clV:V->Value
 |.ref a=>.ref a
 |.ty n=>.type n
 |_=>.none
structure jCl (X:Cx) (e:Expr) (v:V):Prop where
 h:PE X e (tC v)
 ok:(∃ a,v=.ref a)\/∃ n,v=.ty n
def ZM {X:Cx} {x:Str} {a:Addr} {pos:Pos} (hg:Gl X x) (hm:X.mg x=some (.ref a)) (hd:(x==("__debug__" : Str))=false:=by decide):jCl X (.Name x pos) (.ref a):=⟨qac hg hm rfl hd,.inl ⟨_,rfl⟩⟩
def qkr {X:Cx} {x:Str} {n:String} {pos:Pos} (hg:Gl X x) (hm:X.mg x=none) (hv:bootBuiltins x=some (.type n)) (hn:x≠"__name__" := by decide) (hd:(x==("__debug__" : Str))=false:=by decide):jCl X (.Name x pos) (.ty n):=⟨NS hg hm hv rfl hn hd,.inr ⟨_,rfl⟩⟩
inductive jCls (X:Cx):List Expr->List V->Prop
 |nil:jCls X [] []
 |cons {e:Expr} {es:List Expr} {v:V} {vs:List V}:jCl X e v->starEach (e::es) X.env=(false,eval e X.env)::starEach es X.env->jCls X es vs->jCls X (e::es) (v::vs)
def jCls.pa {X:Cx}:∀ {es:List Expr} {vs:List V},jCls X es vs->PA X es (λ_ H Q=>Q vs H)
 |_,_,.nil=>RK
 |_,_,.cons a hs r=>qm7 (JJ a.h r.pa hs) λσ H Q h=>h
def jCls.vals {X:Cx}:∀ {es:List Expr} {vs:List V},jCls X es vs->∀ {us:List Value},zQ vs us->us=vs.map clV
 |_,_,.nil,_,.nil=>rfl
 |_,_,.cons a hs r,_,.cons q qs=>by
  rw [r.vals qs];rcases a.ok with ⟨ad,rfl⟩|⟨n,rfl⟩
  ·cases (show _=Value.ref ad from q);rfl
  ·cases (show _=Value.type n from q);rfl
section
variable {X:Cx} {e ce:Expr} {te:TE3} {p pos:Pos} {D:List (Option Addr×Bool)}
def qeI {v:V} (he:jE3 X e te) (hg:Gl X "isinstance") (hm:X.mg "isinstance" = none) (hc:jCl X ce v) (hD:XD X.K [clV v] D)
  (hs:starEach [e,ce] X.env=(false,eval e X.env)::starEach [ce] X.env:=by rfl) (hs2:starEach [ce] X.env=(false,eval ce X.env)::starEach [] X.env:=by rfl) (hpl:(backTo pos (starEach [ce] X.env)).any (·.1)=false:=by rfl) :
  jE3 X (.Call (.Name "isinstance" p) [e,ce] [] pos) (qgr D te):=by
 refine ⟨UZ (U3 (r:=λxs H Q=>∃ G x y o b,xs=[y,v]/\HR X.K G H/\Rp X.K H x y/\exT G x=some o/\D.lookup o=some b/\Q (.bl b) H) ?_ hg hm PyProof.Rows.boot_isinstance (JJ he.h (JJ hc.h RK hs2) hs) (by decide) (by decide) hs hpl)
  λ_ _ _ ⟨τ,G,q,rl,h,af⟩=>zr rl h λx G1 h1 y H1 rx hr1 k1 rl1=>?_⟩
 ·intro pins s σ H xs us Q I r ⟨G,x,y,o,b,hx,hr,rx,h1,h2,q⟩;subst hx;obtain ⟨u,w,rfl,ru,rc⟩:=N6 r;have ew:w=clV v:=by
   rcases hc.ok with ⟨a,rfl⟩|⟨n,rfl⟩
   ·exact rc
   ·exact rc
  subst ew;obtain ⟨d1,d2⟩:=hD _ (WX h2);obtain ⟨HH,kx,hh,ne⟩:=K3 I hr rx ru h1 d1;exact PySem.W.kia_one kx I.kIn hh (LS d2) ne λtk=>⟨.bl _,H,I.tok tk,rfl,q⟩
 ·split at h1
  ·split at h1
   ·rename_i _ o e1 _ b e2;exact ⟨G1,x,y,_,_,rfl,hr1,rx,e1,e2,af _ G1 h1 _ H1 (.bl _) hr1 k1⟩
   ·exact h1.elim
  ·exact h1.elim
def qfW {ces:List Expr} {vs:List V} {p4:Pos} {x1} (he:jE3 X e te) (hg:Gl X "isinstance") (hm:X.mg "isinstance" = none) (hc:jCls X ces vs) (hl:vs.length<=sizeLine) (hD:XD X.K (vs.map clV) D)
  (hs:starEach [e,.Tuple ces x1 p4] X.env=(false,eval e X.env)::starEach [.Tuple ces x1 p4] X.env:=by rfl) (hs2:starEach [.Tuple ces x1 p4] X.env=(false,eval (.Tuple ces x1 p4) X.env)::starEach [] X.env:=by rfl) (hpl:(backTo pos (starEach [.Tuple ces x1 p4] X.env)).any (·.1)=false:=by rfl) :
  jE3 X (.Call (.Name "isinstance" p) [e,.Tuple ces x1 p4] [] pos) (qgr D te):=by
 refine ⟨UZ (U3 (r:=λxs H Q=>∃ G x y o b pp,xs=[y,.ref pp]/\H pp=some (.tup vs)/\HR X.K G H/\Rp X.K H x y/\exT G x=some o/\D.lookup o=some b/\Q (.bl b) H) ?_ hg hm PyProof.Rows.boot_isinstance (JJ he.h (JJ (qdr hc.pa) RK hs2) hs) (by decide) (by decide) hs hpl)
  λ_ _ _ ⟨τ,G,q,rl,h,af⟩=>zr rl h λx G1 h1 y H1 rx hr1 k1 rl1=>⟨hl,λpp hp=>?_⟩⟩
 ·intro pins s σ H xs us Q I r ⟨G,x,y,o,b,pp,hx,hp,hr,rx,h1,h2,q⟩;subst hx;obtain ⟨u,w,rfl,ru,rc⟩:=N6 r;cases (show w=Value.ref pp from rc);obtain ⟨_,its,rv,⟨o',ho,hcl,n,hda⟩⟩:=(show QZ X.prog X.w H s.heap pp (.tup vs) from I.hok pp _ hp)
  have ei:=hc.vals rv;subst ei;obtain ⟨d1,d2⟩:=hD _ (WX h2);obtain ⟨HH,kx,hh,ne⟩:=K3 I hr rx ru h1 d1;obtain ⟨cl,dd,da,sl⟩:=o';cases (show cl=_ from hcl);cases (show da=_ from hda);exact PySem.W.kia_tup kx I.kIn hh ho d2 ne λtk=>⟨.bl _,H,I.tok tk,rfl,q⟩
 ·have kk:Kp G1 H1 G1 (upd H1 pp (.tup vs)):=Kp.laid hp;have hr2:=hr1.laid (ho:=.tup vs) hp;split at h1
  ·split at h1
   ·rename_i _ o e1 _ b e2;exact ⟨G1,x,y,_,_,pp,rfl,zg,hr2,rx.keep hr1 kk,e1,e2,af _ G1 h1 _ _ (.bl _) hr2 (k1.trans kk)⟩
   ·exact h1.elim
  ·exact h1.elim
end
def T3:Sp3:=λ_ _ _=>False
def KH {P:Program} {w:World} {K:Frg} {mg:Str->Option Value} {base:Heap} {x qual:Str} {st:Stmt} {f:Addr} {fd:FuncData} {ps:List Str} (F:Fun K x qual st f fd) (bd:zm K fd ps []) (hm:mg x=some (.ref f)):Fn3 P w K mg base 0 x T3:=
 ⟨f,fd,ps,⟨λvs H Q E ⟨_,_,_,_,_,h,_⟩=>h.elim,λA outer s H args us vs Q E _ _ _ _ ⟨_,_,_,_,_,h,_⟩=>h.elim⟩,bd,F.kp,hm⟩
def ixT (xs:List T) (i:Int) (G:Gp) (q:Q3):ix3 (.tup xs) (.int i) G q=(match L2.atI xs i with|some z=>q z G|none=>False):=rfl
def ixR (p:Addr) (i:Int) (G:Gp) (q:Q3):ix3 (.ref p) (.int i) G q=(match zG G p with|some xs=>(match L2.atI xs i with|some z=>q z G|none=>False)|none=>False):=rfl
def U6 {α:Type} {xs:List α} {i:Int} (h0:0<=i) (h1:i<(xs.length:Int)):L2.atI xs i=xs[i.toNat]?:=by
 unfold L2.atI ixN;have e1:i.toNat<xs.length:=by omega
 simp [h0,e1,h1]
def RG:¬ Str.ofString "row" = Str.ofString "block" := by decide
def TW:¬ Str.ofString "row" = Str.ofString "step" := by decide
def SE:¬ Str.ofString "row" = Str.ofString "cells" := by decide
def ED:¬ Str.ofString "column" = Str.ofString "block" := by decide
def WD:¬ Str.ofString "column" = Str.ofString "step" := by decide
def DF:¬ Str.ofString "column" = Str.ofString "cells" := by decide
def WE:¬ Str.ofString "slant" = Str.ofString "block" := by decide
def X7:¬ Str.ofString "slant" = Str.ofString "step" := by decide
def WB:¬ Str.ofString "slant" = Str.ofString "cells" := by decide
def CK:¬ Str.ofString "back" = Str.ofString "block" := by decide
def SI:¬ Str.ofString "back" = Str.ofString "step" := by decide
def XG:¬ Str.ofString "back" = Str.ofString "cells" := by decide
def YD:¬ Str.ofString "block" = Str.ofString "cells" := by decide
def VS:¬ Str.ofString "step" = Str.ofString "block" := by decide
def VY:¬ Str.ofString "step" = Str.ofString "cells" := by decide
def cm {i j:Int} (h1:-1000000<j) (h2:j<1000000):JD i j:=.inr ⟨by omega,by omega⟩
def KU {stay:Gp->Prop} {g:TG3} {tif:TT3} {te:TE3} {q:Q3} (items:List T) (Pv:Nat->List T->St3->Gp->Prop) {τ:St3} {G:Gp} (h0:Pv 0 [] τ G) (hst:∀ i ys τ G,i<=items.length->Pv i ys τ G->stay G)
  (hs:∀ i x ys τ G (R:List T->St3->Gp->Prop),items[i]?=some x->Pv i ys τ G->(∀ ys' τ' G',Pv (i+1) ys' τ' G'->R ys' τ' G') ->
   g x τ G λτ2 G2=>tif τ2 G2 λk G3=>if k=true then te τ2 G3 λy G4=>ys.length<sizeLine/\R (ys++[y]) τ2 G4 else R ys τ2 G3)
  (hd:∀ ys τ G,Pv items.length ys τ G->∀ p,G p=none->q (.ref p) (gu G p (.lst ys))):WR stay g tif te q items [] τ G:=by
 have key:∀ (r:List T) (i:Nat) ys τ G,items.drop i=r->i<=items.length->Pv i ys τ G->WR stay g tif te q r ys τ G:=by
  intro r;induction r with
  |nil=>
   intro i ys τ G e hi p;have:i=items.length:=by have:=congrArg List.length e;simp at this;omega
   subst this;exact ⟨hst _ ys τ G hi p,hd ys τ G p⟩
  |cons x r ih=>
   intro i ys τ G e hi p;have hl:i<items.length:=by
    apply Classical.byContradiction;intro z;rw [List.drop_eq_nil_of_le (by omega)] at e;cases e
   have e':=List.drop_eq_getElem_cons hl;rw [e] at e';injection e' with e1 e2;exact ⟨hst i ys τ G hi p,hs i x ys τ G _ (by rw [getElem?_eq_getElem hl,e1]) p λys2 τ2 G2 p2=>ih (i+1) ys2 τ2 G2 e2.symm hl p2⟩
 exact key items 0 [] τ G (by simp) (Nat.zero_le _) h0
def KC {stay:Gp->Prop} {g:TG3} {te:TE3} {q:Q3} {G:Gp} (f:T->T) (Ok:St3->Prop) (hst:stay G):∀ (items ys:List T) (τ:St3),Ok τ ->
  (∀ x∈items,∀ τ,Ok τ->∀ R:St3->T->Gp->Prop,(∀ τ',Ok τ'->R τ' (f x) G)->g x τ G λτ2 G2=>te τ2 G2 λy G4=>R τ2 y G4) ->
  ys.length+items.length<sizeLine->(∀ p,G p=none->q (.ref p) (gu G p (.lst (ys++items.map f))))->WR stay g tt3 te q items ys τ G
 |[],ys,τ,_,_,_,h=>⟨hst,by simpa using h⟩
 |x::r,ys,τ,ok,step,len,h=>by
  refine ⟨hst,?_⟩;have e:(λτ2 G2=>tt3 τ2 G2 λk G3=>if k=true then te τ2 G3 λy G4=>ys.length<sizeLine/\WR stay g tt3 te q r (ys++[y]) τ2 G4 else WR stay g tt3 te q r ys τ2 G3)=(λτ2 G2=>te τ2 G2 λy G4=>ys.length<sizeLine/\WR stay g tt3 te q r (ys++[y]) τ2 G4):=by
   funext τ2 G2;simp [tt3]
  rw [e];rw [length_cons] at len;refine step x List.mem_cons_self τ ok _ λτ' ok'=>⟨by omega,KC f Ok hst r (ys++[f x]) τ' ok' (λz hz=>step z (List.mem_cons_of_mem _ hz)) (by rw [length_append,List.length_singleton];omega) λp hp=>?_⟩
  simpa using h p hp
def S8 {lo:Int} {n i:Nat} {x:T} (h:(KO lo n)[i]?=some x):i<n/\x=T.int (lo+(i:Int)):=by
 unfold KO at h;rw [getElem?_map] at h;cases e:(List.range n)[i]? with
 |none=>rw [e] at h;cases h
 |some k=>
  rw [e] at h;obtain ⟨hi,hk⟩:=List.getElem?_eq_some_iff.mp e;simp at hi hk;subst hk;exact ⟨hi,by simpa using h.symm⟩
def QL (lo:Int) (n:Nat):(KO lo n).length=n:=by simp [KO]
end L3
namespace Bk
open PySem L2 L3
def ZT:TS3:=(qH (zT (YL (λt=>z9 t "int") (v3 0)) (Z2 (YL (λt=>z9 t "bool") (v3 0)))))
def VX (S_is_number:Sp3):TS3:=(qH (zT (YL (λt=>z9 t "tuple") (v3 0)) (zT (o3 (zL false) (cb3 YA (qb (v3 0) qg)) (c3 (.int 2))) (zT (cb3 S_is_number (qb (o3 ix3 (v3 0) (c3 (.int 0))) qg)) (cb3 S_is_number (qb (o3 ix3 (v3 0) (c3 (.int 1))) qg))))))
def VU (S_size_of:Sp3):TS3:=(qv (qJ (o3 ix3 (v3 0) (c3 (.int 0))) (gn3 1)) (qv (qY (tb3 (o3 (zL false) (v3 1) (c3 (.str "bits")))) (qH (qP (qb (o3 (iC MV (λi j=>i*2 ^ j.toNat)) (c3 (.int 1)) (o3 ix3 (v3 0) (c3 (.int 1)))) (qb (o3 (iC MV (λi j=>i*2 ^ j.toNat)) (c3 (.int 1)) (o3 ix3 (v3 0) (c3 (.int 2)))) (qb (o3 (iC MV (λi j=>i*2 ^ j.toNat)) (c3 (.int 1)) (cb3 YA (qb (o3 ix3 (v3 0) (c3 (.int 3))) qg))) qg))))) qt) (qv (qY (tb3 (o3 (zL false) (v3 1) (c3 (.str "table")))) (qH (qP (qb (cb3 YA (qb (o3 ix3 (v3 0) (c3 (.int 2))) qg)) (qb (cb3 YA (qb (o3 ix3 (o3 ix3 (v3 0) (c3 (.int 2))) (c3 (.int 0))) qg)) (qb (o3 ix3 (v3 0) (c3 (.int 1))) qg))))) qt) (qv (qY (tb3 (o3 (zL false) (v3 1) (c3 (.str "joined")))) (qv (qJ (cb3 S_size_of (qb (o3 ix3 (v3 0) (c3 (.int 1))) qg)) (zl 3 (qp (gn3 2) (qp (gn3 3) (qp (gn3 4) zn))))) (qv (qJ (cb3 S_size_of (qb (o3 ix3 (v3 0) (c3 (.int 2))) qg)) (zl 3 (qp (gn3 5) (qp (gn3 6) (qp (gn3 7) zn))))) (qH (qP (qb (o3 (iC JD (·*·)) (v3 2) (v3 5)) (qb (o3 (iC JD (·*·)) (v3 3) (v3 6)) (qb (o3 (iC JD (·*·)) (v3 4) (v3 7)) qg))))))) qt) (qH (qP (qb (o3 ix3 (v3 0) (c3 (.int 1))) (qb (o3 ix3 (v3 0) (c3 (.int 2))) (qb (o3 ix3 (v3 0) (c3 (.int 3))) qg)))))))))
def VM (S_is_pair:Sp3) (S_size_of:Sp3):TS3:=(qv (qY (UT (tb3 (cb3 S_is_pair (qb (v3 1) qg)))) (qH (c3 (.bl false))) qt) (qv (qJ (cb3 S_size_of (qb (v3 0) qg)) (zl 3 (qp (gn3 2) (qp (gn3 3) (qp (gn3 4) zn))))) (qH (zT (ch3 (iB λi j=>decide (i<=j)) (iB λi j=>decide (i<j)) (c3 (.int 0)) (o3 ix3 (v3 1) (c3 (.int 0))) (v3 2)) (ch3 (iB λi j=>decide (i<=j)) (iB λi j=>decide (i<j)) (c3 (.int 0)) (o3 ix3 (v3 1) (c3 (.int 1))) (v3 3))))))
def VJ:TS3:=(qv (qJ (o3 (iC (λ_ j=>0<j) (·%·)) (o3 (iC JD (·*·)) (o3 za (o3 za (o3 (iC (λ_ j=>0<j) (·%·)) (v3 0) (c3 (.int 2147483629))) (o3 (iC JD (·*·)) (o3 (iC JD (·*·)) (v3 1) (v3 1)) (c3 (.int 7919)))) (c3 (.int 11))) (c3 (.int 48271))) (c3 (.int 2147483647))) (gn3 2)) (qH (o3 (iC (λ_ j=>0<j) (·%·)) (o3 (iC JD (·*·)) (v3 2) (v3 2)) (c3 (.int 1999999973)))))
def J4:TS3:=(qv (qJ (if3 (tb3 (o3 (iB λi j=>decide (i<j)) (v3 1) (cb3 YA (qb (v3 0) qg)))) (o3 ix3 (v3 0) (v3 1)) (c3 (.int 0))) (gn3 2)) (qv (qJ (if3 (tb3 (o3 (iB λi j=>decide (j<=i)) (cb3 CN (qb (v3 2) qg)) (o3 (iC MV (λi j=>i ^ j.toNat)) (c3 (.int 10)) (c3 (.int 18))))) (cb3 CN (qb (v3 2) qg)) (c3 (.int 0))) (gn3 3)) (qH (ja (qb (v3 3) (qb (o3 za (v3 2) (o3 (iC JD (·*·)) (c3 (.int 1000003)) (v3 1))) (qb (c3 (.int 0)) qg)))))))
def JV (S_law_mix:Sp3):TS3:=(qv (qJ (o3 za (o3 ix3 (v3 0) (c3 (.int 2))) (c3 (.int 1))) (jT (v3 0) (c3 (.int 2)))) (qv (qY (tb3 (o3 (iB λi j=>decide (j<i)) (o3 ix3 (v3 0) (c3 (.int 0))) (c3 (.int 0)))) (qv (qJ (o3 (iC (λ_ j=>0<j) (·%·)) (o3 ix3 (v3 0) (c3 (.int 0))) (v3 1)) (gn3 2)) (qv (qJ (o3 (iC qcJ (·/·)) (o3 ix3 (v3 0) (c3 (.int 0))) (v3 1)) (jT (v3 0) (c3 (.int 0)))) (qH (v3 2)))) qt) (qH (o3 (iC (λ_ j=>0<j) (·%·)) (o3 (iC qcJ (·/·)) (cb3 S_law_mix (qb (cb3 S_law_mix (qb (o3 ix3 (v3 0) (c3 (.int 1))) (qb (o3 ix3 (v3 0) (c3 (.int 2))) qg))) (qb (o3 za (o3 ix3 (v3 0) (c3 (.int 2))) (c3 (.int 64))) qg))) (c3 (.int 64))) (v3 1)))))
def ZR (S_law_pick:Sp3):TS3:=(qv (qJ (o3 ix3 (ja (qb (c3 (.int 6)) (qb (c3 (.int 6)) (qb (c3 (.int 6)) (qb (c3 (.int 16)) qg))))) (cb3 S_law_pick (qb (v3 0) (qb (c3 (.int 4)) qg)))) (gn3 1)) (qv (QS 2 3 (qb (o3 za (c3 (.int 1)) (cb3 S_law_pick (qb (v3 0) (qb (v3 1) qg)))) (qb (o3 za (c3 (.int 1)) (cb3 S_law_pick (qb (v3 0) (qb (v3 1) qg)))) qg))) (qH (o3 ix3 (ja (qb (qP (qb (v3 2) (qb (v3 3) qg))) (qb (qP (qb (v3 2) (qb (v3 3) qg))) (qb (qP (qb (v3 2) (qb (v3 3) qg))) (qb (qP (qb (v3 2) (qb (v3 2) qg))) qg))))) (cb3 S_law_pick (qb (v3 0) (qb (c3 (.int 4)) qg)))))))
def Y7:TS3:=(qv (LB (tb3 (o3 (iB λi j=>decide (j<i)) (v3 1) (c3 (.int 0)))) (QS 0 1 (qb (v3 1) (qb (o3 (iC (λ_ j=>0<j) (·%·)) (v3 0) (v3 1)) qg)))) (qH (v3 0)))
def J1 (S_law_sides:Sp3) (S_law_pick:Sp3):TS3:=(qv (qJ (cb3 S_law_sides (qb (v3 0) qg)) (zl 2 (qp (gn3 1) (qp (gn3 2) zn)))) (qv (qJ (o3 za (c3 (.int 1)) (cb3 S_law_pick (qb (v3 0) (qb (o3 ix3 (ja (qb (c3 (.int 8)) (qb (c3 (.int 8)) (qb (c3 (.int 17)) (qb (c3 (.int 32)) qg))))) (cb3 S_law_pick (qb (v3 0) (qb (c3 (.int 4)) qg)))) qg)))) (gn3 3)) (qv (qJ (o3 ix3 (ja (qb (v3 3) (qb (c3 (.int 10)) (qb (c3 (.int 100)) qg)))) (cb3 S_law_pick (qb (v3 0) (qb (c3 (.int 3)) qg)))) (gn3 4)) (qH (qP (qb (c3 (.str "skew")) (qb (v3 1) (qb (v3 2) (qb (v3 3) (qb (cb3 S_law_pick (qb (v3 0) (qb (v3 4) qg))) (qb (cb3 S_law_pick (qb (v3 0) (qb (v3 4) qg))) qg)))))))))))
def ZQ (S_law_sides:Sp3) (S_law_pick:Sp3) (S_law_gcd:Sp3):TS3:=(qv (qJ (cb3 S_law_sides (qb (v3 0) qg)) (zl 2 (qp (gn3 1) (qp (gn3 2) zn)))) (qv (qJ (o3 za (c3 (.int 1)) (cb3 S_law_pick (qb (v3 0) (qb (o3 ix3 (ja (qb (c3 (.int 8)) (qb (c3 (.int 17)) (qb (c3 (.int 32)) qg)))) (cb3 S_law_pick (qb (v3 0) (qb (c3 (.int 3)) qg)))) qg)))) (gn3 3)) (qv (qJ (o3 za (u3 JP (o3 (iC qcJ (·/·)) (o3 (iC JD (·*·)) (u3 JP (v3 1)) (v3 2)) (v3 3))) (cb3 S_law_pick (qb (v3 0) (qb (c3 (.int 4)) qg)))) (gn3 4)) (qv (WF (zz (qb (c3 (.int 32)) qg)) (gn3 5) (qY (tb3 (o3 (iB λi j=>decide (j<i)) (cb3 S_law_gcd (qb (v3 3) (qb (v3 4) qg))) (c3 (.int 1)))) (qJ (o3 za (v3 4) (c3 (.int 1))) (gn3 4)) qt)) (qH (qP (qb (c3 (.str "rests")) (qb (v3 1) (qb (v3 2) (qb (v3 3) (qb (v3 4) qg)))))))))))
def JR (S_law_pick:Sp3):TS3:=(qv (QS 2 3 (qb (cb3 S_law_pick (qb (v3 0) (qb (o3 za (v3 1) (c3 (.int 1))) qg))) (qb (cb3 S_law_pick (qb (v3 0) (qb (o3 za (v3 1) (c3 (.int 1))) qg))) qg))) (qv (qJ (lc3 (zz (qb (cb3 S_law_pick (qb (v3 0) (qb (c3 (.int 6)) qg))) qg)) (gn3 0) tt3 (cb3 S_law_pick (qb (v3 1) (qb (c3 (.int 256)) qg))) [none,some 0]) (gn3 4)) (qv (qJ (o3 ix3 (ja (qb (c3 (.int 1)) (qb (c3 (.int 2)) (qb (c3 (.int 4)) (qb (c3 (.int 8)) (qb (c3 (.int 16)) (qb (c3 (.int 32)) (qb (c3 (.int 64)) (qb (c3 (.int 128)) (qb (c3 (.int 256)) qg)))))))))) (o3 za (v3 2) (v3 3))) (gn3 5)) (qH (qP (qb (c3 (.str "bits")) (qb (v3 2) (qb (v3 3) (qb (cb3 q0 (qb (lc3 (QP (v3 4)) (gn3 0) tt3 (o3 (iC (λ_ j=>0<j) (·%·)) (v3 0) (v3 1)) [none,some 5]) qg)) qg)))))))))
def ZB (S_law_sides:Sp3) (S_law_pick:Sp3):TS3:=(qv (qJ (cb3 S_law_sides (qb (v3 0) qg)) (zl 2 (qp (gn3 1) (qp (gn3 2) zn)))) (qv (qJ (o3 za (c3 (.int 1)) (cb3 S_law_pick (qb (v3 0) (qb (o3 ix3 (ja (qb (c3 (.int 4)) (qb (c3 (.int 9)) (qb (c3 (.int 32)) qg)))) (cb3 S_law_pick (qb (v3 0) (qb (c3 (.int 3)) qg)))) qg)))) (gn3 3)) (qv (qJ (lc3 (zz (qb (v3 1) qg)) (gn3 0) tt3 (cb3 q0 (qb (lc3 (zz (qb (v3 3) qg)) (gn3 0) tt3 (cb3 S_law_pick (qb (v3 1) (qb (v3 2) qg))) [none,some 1,some 2]) qg)) [none,some 0,some 3,some 2]) (gn3 4)) (qH (qP (qb (c3 (.str "table")) (qb (v3 3) (qb (cb3 q0 (qb (v3 4) qg)) qg))))))))
def ZP (S_law_pick:Sp3) (S_law_gcd:Sp3):TS3:=(qv (qJ (qP (qb (o3 za (c3 (.int 1)) (cb3 S_law_pick (qb (v3 0) (qb (c3 (.int 4)) qg)))) (qb (o3 za (c3 (.int 1)) (cb3 S_law_pick (qb (v3 0) (qb (c3 (.int 4)) qg)))) (qb (o3 za (c3 (.int 1)) (cb3 S_law_pick (qb (v3 0) (qb (c3 (.int 5)) qg)))) qg)))) (zl 3 (qp (gn3 1) (qp (gn3 2) (qp (gn3 3) zn))))) (qv (qJ (cb3 S_law_pick (qb (v3 0) (qb (c3 (.int 4)) qg))) (gn3 4)) (qv (qY (tb3 (o3 (zL false) (v3 4) (c3 (.int 0)))) (qH (qP (qb (c3 (.str "skew")) (qb (v3 1) (qb (v3 2) (qb (v3 3) (qb (cb3 S_law_pick (qb (v3 0) (qb (v3 3) qg))) (qb (cb3 S_law_pick (qb (v3 0) (qb (c3 (.int 9)) qg))) qg)))))))) qt) (qv (qY (tb3 (o3 (zL false) (v3 4) (c3 (.int 1)))) (qv (QS 5 6 (qb (cb3 S_law_pick (qb (v3 0) (qb (c3 (.int 3)) qg))) (qb (cb3 S_law_pick (qb (v3 0) (qb (c3 (.int 3)) qg))) qg))) (qv (qJ (lc3 (zz (qb (cb3 S_law_pick (qb (v3 0) (qb (c3 (.int 3)) qg))) qg)) (gn3 0) tt3 (cb3 S_law_pick (qb (v3 1) (qb (c3 (.int 16)) qg))) [none,some 0]) (gn3 7)) (qv (qJ (o3 ix3 (ja (qb (c3 (.int 1)) (qb (c3 (.int 2)) (qb (c3 (.int 4)) (qb (c3 (.int 8)) (qb (c3 (.int 16)) qg)))))) (o3 za (v3 5) (v3 6))) (gn3 8)) (qH (qP (qb (c3 (.str "bits")) (qb (v3 5) (qb (v3 6) (qb (cb3 q0 (qb (lc3 (QP (v3 7)) (gn3 0) tt3 (o3 (iC (λ_ j=>0<j) (·%·)) (v3 0) (v3 1)) [none,some 8]) qg)) qg))))))))) qt) (qv (qY (tb3 (o3 (zL false) (v3 4) (c3 (.int 2)))) (qv (qJ (o3 za (u3 JP (o3 (iC qcJ (·/·)) (o3 (iC JD (·*·)) (u3 JP (v3 1)) (v3 2)) (v3 3))) (cb3 S_law_pick (qb (v3 0) (qb (c3 (.int 3)) qg)))) (gn3 9)) (qv (WF (zz (qb (c3 (.int 9)) qg)) (gn3 10) (qY (tb3 (o3 (iB λi j=>decide (j<i)) (cb3 S_law_gcd (qb (v3 3) (qb (v3 9) qg))) (c3 (.int 1)))) (qJ (o3 za (v3 9) (c3 (.int 1))) (gn3 9)) qt)) (qH (qP (qb (c3 (.str "rests")) (qb (v3 1) (qb (v3 2) (qb (v3 3) (qb (v3 9) qg))))))))) qt) (qv (qJ (lc3 (zz (qb (v3 1) qg)) (gn3 0) tt3 (cb3 q0 (qb (lc3 (zz (qb (v3 3) qg)) (gn3 0) tt3 (cb3 S_law_pick (qb (v3 1) (qb (v3 2) qg))) [none,some 1,some 2]) qg)) [none,some 0,some 3,some 2]) (gn3 11)) (qH (qP (qb (c3 (.str "table")) (qb (v3 3) (qb (cb3 q0 (qb (v3 11) qg)) qg)))))))))))
def jO (S_law_pick:Sp3) (S_law_skew:Sp3) (S_law_rests:Sp3) (S_law_bits:Sp3) (S_law_table:Sp3) (S_law_small:Sp3):TS3:=(qv (qJ (cb3 S_law_pick (qb (v3 0) (qb (c3 (.int 8)) qg))) (gn3 1)) (qv (qY (tb3 (o3 (iB λi j=>decide (i<j)) (v3 1) (c3 (.int 2)))) (qH (cb3 S_law_skew (qb (v3 0) qg))) qt) (qv (qY (tb3 (o3 (zL false) (v3 1) (c3 (.int 2)))) (qH (cb3 S_law_rests (qb (v3 0) qg))) qt) (qv (qY (tb3 (o3 (zL false) (v3 1) (c3 (.int 3)))) (qH (cb3 S_law_bits (qb (v3 0) (qb (c3 (.int 4)) qg)))) qt) (qv (qY (tb3 (o3 (zL false) (v3 1) (c3 (.int 4)))) (qH (cb3 S_law_table (qb (v3 0) qg))) qt) (qv (qY (tb3 (o3 (zL false) (v3 1) (c3 (.int 5)))) (qv (qJ (qP (qb (c3 (.str "joined")) (qb (qP (qb (c3 (.str "skew")) (qb (o3 za (c3 (.int 1)) (cb3 S_law_pick (qb (v3 0) (qb (c3 (.int 2)) qg)))) (qb (c3 (.int 1)) (qb (c3 (.int 2)) (qb (c3 (.int 1)) (qb (c3 (.int 1)) qg))))))) (qb (qP (qb (c3 (.str "table")) (qb (c3 (.int 2)) (qb (qP (qb (qP (qb (c3 (.int 1)) (qb (c3 (.int 0)) qg))) qg)) qg)))) qg)))) (gn3 2)) (qv (qJ (ja (qb (qP (qb (c3 (.str "joined")) (qb (v3 2) (qb (cb3 S_law_small (qb (v3 0) qg)) qg)))) (qb (qP (qb (c3 (.str "joined")) (qb (cb3 S_law_small (qb (v3 0) qg)) (qb (v3 2) qg)))) qg))) (gn3 3)) (qv (zZ (bm3 EU (v3 3) (qb (qP (qb (c3 (.str "joined")) (qb (qP (qb (c3 (.str "skew")) (qb (c3 (.int 8)) (qb (c3 (.int 1)) (qb (c3 (.int 3)) (qb (c3 (.int 1)) (qb (c3 (.int 1)) qg))))))) (qb (qP (qb (c3 (.str "rests")) (qb (c3 (.int 2)) (qb (c3 (.int 16)) (qb (c3 (.int 5)) (qb (c3 (.int 7)) qg)))))) qg)))) qg))) (qv (zZ (bm3 EU (v3 3) (qb (qP (qb (c3 (.str "joined")) (qb (qP (qb (c3 (.str "rests")) (qb (c3 (.int 1)) (qb (c3 (.int 8)) (qb (c3 (.int 3)) (qb (c3 (.int 4)) qg)))))) (qb (qP (qb (c3 (.str "skew")) (qb (c3 (.int 16)) (qb (c3 (.int 2)) (qb (c3 (.int 5)) (qb (c3 (.int 2)) (qb (c3 (.int 1)) qg))))))) qg)))) qg))) (qH (o3 ix3 (v3 3) (cb3 S_law_pick (qb (v3 0) (qb (c3 (.int 4)) qg))))))))) qt) (qH (qP (qb (c3 (.str "joined")) (qb (cb3 S_law_small (qb (v3 0) qg)) (qb (cb3 S_law_small (qb (v3 0) qg)) qg)))))))))))
inductive Dl where
 |skew (r c b x y:Int)
 |rests (r c b p:Int)
 |bits (h l:Nat) (ms:List Int)
 |table (b:Int) (cells:List (List Int))
 |joined (d e:Dl)
def qbi (r:List Int):T:=.tup (r.map T.int)
def Dl.t:Dl->T
 |.skew r c b x y=>.tup [.str "skew",.int r,.int c,.int b,.int x,.int y]
 |.rests r c b p=>.tup [.str "rests",.int r,.int c,.int b,.int p]
 |.bits h l ms=>.tup [.str "bits",.int h,.int l,.tup (ms.map T.int)]
 |.table b cells=>.tup [.str "table",.int b,.tup (cells.map qbi)]
 |.joined d e=>.tup [.str "joined",d.t,e.t]
def Dl.R:Dl->Int
 |.skew r _ _ _ _=>r
 |.rests r _ _ _=>r
 |.bits h _ _=>2 ^ h
 |.table _ cells=>cells.length
 |.joined d e=>d.R*e.R
def Dl.C:Dl->Int
 |.skew _ c _ _ _=>c
 |.rests _ c _ _=>c
 |.bits _ l _=>2 ^ l
 |.table _ cells=>((cells[0]?).getD []).length
 |.joined d e=>d.C*e.C
def Dl.B:Dl->Int
 |.skew _ _ b _ _=>b
 |.rests _ _ b _=>b
 |.bits _ _ ms=>2 ^ ms.length
 |.table b _=>b
 |.joined d e=>d.B*e.B
def pop:Nat->Nat->Nat
 |0,_=>0
 |k+1,n=>n%2+pop k (n/2)
def qmr (n m:Int):Bool:=pop 64 (Builtin.bitAnd n m).toNat%2==1
def VQ (n:Int):Nat->List Int->Int
 |_,[]=>0
 |t,m::ms=>(if qmr n m then 2 ^ t else 0)+VQ n (t+1) ms
def EA (ms:List Int) (n:Int):Int:=VQ n 0 ms
def Dl.bank:Dl->Int->Int->Int
 |.skew _ _ b x y,i,j=>(x*i+y*j)%b
 |.rests _ c b _,i,j=>(i*c+j)%b
 |.bits _ l ms,i,j=>EA ms (i*2 ^ l+j)
 |.table _ cells,i,j=>(((cells[i.toNat]?).getD [])[j.toNat]?).getD 0
 |.joined d e,i,j=>d.bank (i/e.R) (j/e.C)*e.B+e.bank (i%e.R) (j%e.C)
def Dl.Ok:Dl->Prop
 |.skew r c b x y=>1<=r/\r<=60/\1<=c/\c<=60/\1<=b/\b<=1000/\0<=x/\x<=1000/\0<=y/\y<=1000
 |.rests r c b p=>1<=r/\r<=60/\1<=c/\c<=60/\1<=b/\b<=1000/\1<=p/\p<=100000/\Int.gcd b p=1/\r*c<=b*p
 |.bits h l ms=>h<=4/\l<=4/\ms.length<=5/\∀ m∈ms,0<=m/\m<2 ^ (h+l)
 |.table b cells=>1<=b/\b<=1000/\1<=cells.length/\cells.length<=60/\∃ c,1<=c/\c<=60/\∀ row∈cells,row.length=c/\∀ x∈row,0<=x/\x<b
 |.joined d e=>d.Ok/\e.Ok/\d.R*e.R<=4096/\d.C*e.C<=4096/\d.B*e.B<=4096
def Dl.dep:Dl->Nat
 |.joined d e=>max d.dep e.dep+1
 |_=>0
def p2 (n:Nat):((2:Int) ^ n)=((2 ^ n:Nat):Int):=by simp
def R8 (n:Nat):(1:Int)<=2 ^ n:=by
 rw [p2];have:=Nat.one_le_two_pow (n:=n);omega
def X0 {n k:Nat} (h:n<=k):(2:Int) ^ n<=2 ^ k:=by
 rw [p2,p2];have:=Nat.pow_le_pow_right (n:=2) (by omega) h;omega
structure Lims (d:Dl):Prop where
 r1:1<=d.R
 r2:d.R<=4096
 c1:1<=d.C
 c2:d.C<=4096
 b1:1<=d.B
 b2:d.B<=4096
def JW {a b:Int} (h1:1<=a) (h2:1<=b):1<=a*b:=by
 have:=Int.mul_le_mul (a:=1) (b:=1) (c:=a) (d:=b) h1 h2 (by omega) (by omega);omega
def Dl.lims:∀ {d:Dl},d.Ok->Lims d
 |.skew r c b x y,⟨h1,h2,h3,h4,h5,h6,_⟩=>⟨h1,by simp [Dl.R];omega,h3,by simp [Dl.C];omega,h5,by simp [Dl.B];omega⟩
 |.rests r c b x,⟨h1,h2,h3,h4,h5,h6,_⟩=>⟨h1,by simp [Dl.R];omega,h3,by simp [Dl.C];omega,h5,by simp [Dl.B];omega⟩
 |.bits h l ms,⟨h1,h2,h3,_⟩=>by
  have e1:=X0 h1;have e2:=X0 h2;have e3:=X0 h3;refine ⟨R8 _,?_,R8 _,?_,R8 _,?_⟩<;>simp [Dl.R,Dl.C,Dl.B]<;>omega
 |.table b cells,⟨h1,h2,h3,h4,c,h5,h6,h7⟩=>by
  have e0:cells[0]?=some cells[0]:=getElem?_eq_getElem (by omega);have e1:=(h7 cells[0] (List.getElem_mem _)).1;have e2:(Dl.table b cells).C=c:=by simp [Dl.C,e0,e1]
  exact ⟨by simp [Dl.R];omega,by simp [Dl.R];omega,by rw [e2];omega,by rw [e2];omega,h1,by simp [Dl.B];omega⟩
 |.joined d e,⟨h1,h2,h3,h4,h5⟩=>by
  have a:=Dl.lims h1;have b:=Dl.lims h2;exact ⟨JW a.r1 b.r1,h3,JW a.c1 b.c1,h4,JW a.b1 b.b1,h5⟩
structure Inn (d:Dl) (i j:Int):Prop where
 i1:0<=i
 i2:i<d.R
 j1:0<=j
 j2:j<d.C
def CZ (d:Dl):T:=.tup [.int d.R,.int d.C,.int d.B]
def Q2:Nat->Sp3
 |0=>T3
 |n+1=>λts G q=>∃ d:Dl,ts=[d.t]/\d.dep<=n/\d.Ok/\q (CZ d) G
abbrev SO (q:Q3):Ends3:={ nx:=λ_ G'=>q .non G',rt:=q }
def qmO {j:Nat} (h:j<=1000):MV 1 (j:Int):=⟨by omega,by omega,by decide⟩
def zN {A B:TS3} {d:Ends3} {τ:St3} {G:Gp} (h:∀ nx,nx=B d->A { d with nx:=nx } τ G):qv A B d τ G:=h _ rfl
def ZZ {s l:Str} {i:Nat} {R S:TS3} {d:Ends3} {τ:St3} {G:Gp} (hτ:τ[i]?=some (some (T.str s))):qv (qY (tb3 (o3 (zL false) (v3 i) (c3 (.str l)))) R qt) S d τ G=(if s=l then R { d with nx:=S d } τ G else S d τ G):=by
 simp only [qv,qY,tb3,o3,v3,hτ,c3,zL,zt,qt];by_cases e:s=l<;>simp [e]
def UA (n:Nat):∀ ts G q,Q2 (n+1) ts G q->ts.length=1/\VU (Q2 n) (SO q) (qk ["dealing","kind","rows","columns","banks","other_rows","other_columns","other_banks"] ts) G:=by
 rintro ts G q ⟨d,rfl,hd,ok,h⟩;refine ⟨rfl,?_⟩;unfold VU;refine zN λnx q1=>?_;cases d with
 |skew r c b x y=>
  show nx [some (Dl.skew r c b x y).t,some (.str "skew"),none,none,none,none,none,none] G;rw [q1,ZZ rfl,if_neg (by decide),ZZ rfl,if_neg (by decide),ZZ rfl,if_neg (by decide)];simp [Dl.t,qv,qJ,gn3,qH,VV,qY,zZ,WL,qt,v3,c3,o3,u3,JP,L3.ixT,L3.ixR,za,iI,iC,iB,zL,zt,CQ,tb3,CC,or3,UT,zT,LD,Z2,if3,ch3,cb3,qb,qg,YL,tyT,z9,qP,ja,D6,np3,sp3,zl,qp,zn,jT,WC,QS,qk,bm3,EU,DM,YA,CN,XM,LJ,UV,q0,QM,WM,KD,KM,L2.atI,ixN,U0,HT.sIx,zG,in3,jh,eqF,gu,sizeLine_eq,getElem?_cons_zero,getElem?_cons_succ];exact h
 |rests r c b x=>
  show nx [some (Dl.rests r c b x).t,some (.str "rests"),none,none,none,none,none,none] G;rw [q1,ZZ rfl,if_neg (by decide),ZZ rfl,if_neg (by decide),ZZ rfl,if_neg (by decide)];simp [Dl.t,qv,qJ,gn3,qH,VV,qY,zZ,WL,qt,v3,c3,o3,u3,JP,L3.ixT,L3.ixR,za,iI,iC,iB,zL,zt,CQ,tb3,CC,or3,UT,zT,LD,Z2,if3,ch3,cb3,qb,qg,YL,tyT,z9,qP,ja,D6,np3,sp3,zl,qp,zn,jT,WC,QS,qk,bm3,EU,DM,YA,CN,XM,LJ,UV,q0,QM,WM,KD,KM,L2.atI,ixN,U0,HT.sIx,zG,in3,jh,eqF,gu,sizeLine_eq,getElem?_cons_zero,getElem?_cons_succ];exact h
 |bits hh l ms=>
  obtain ⟨k1,k2,k3,_⟩:=ok;show nx [some (Dl.bits hh l ms).t,some (.str "bits"),none,none,none,none,none,none] G;rw [q1,ZZ rfl,if_pos rfl];simp [Dl.t,qv,qJ,gn3,qH,VV,qY,zZ,WL,qt,v3,c3,o3,u3,JP,L3.ixT,L3.ixR,za,iI,iC,iB,zL,zt,CQ,tb3,CC,or3,UT,zT,LD,Z2,if3,ch3,cb3,qb,qg,YL,tyT,z9,qP,ja,D6,np3,sp3,zl,qp,zn,jT,WC,QS,qk,bm3,EU,DM,YA,CN,XM,LJ,UV,q0,QM,WM,KD,KM,L2.atI,ixN,U0,HT.sIx,zG,in3,jh,eqF,gu,sizeLine_eq,getElem?_cons_zero,getElem?_cons_succ];exact ⟨qmO (by omega),qmO (by omega),qmO (by omega),h⟩
 |table b cells=>
  have L:=Dl.lims ok;obtain ⟨k1,k2,k3,k4,c,k5,k6,k7⟩:=ok;cases cells with
  |nil=>simp at k3
  |cons row cells=>
   show nx [some (Dl.table b (row::cells)).t,some (.str "table"),none,none,none,none,none,none] G;rw [q1,ZZ rfl,if_neg (by decide),ZZ rfl,if_pos rfl];simp [Dl.t,qbi,qv,qJ,gn3,qH,VV,qY,zZ,WL,qt,v3,c3,o3,u3,JP,L3.ixT,L3.ixR,za,iI,iC,iB,zL,zt,CQ,tb3,CC,or3,UT,zT,LD,Z2,if3,ch3,cb3,qb,qg,YL,tyT,z9,qP,ja,D6,np3,sp3,zl,qp,zn,jT,WC,QS,qk,bm3,EU,DM,YA,CN,XM,LJ,UV,q0,QM,WM,KD,KM,L2.atI,ixN,U0,HT.sIx,zG,in3,jh,eqF,gu,sizeLine_eq,getElem?_cons_zero,getElem?_cons_succ];simpa [CZ,Dl.R,Dl.C,Dl.B] using h
 |joined d e=>
  have Ld:=Dl.lims ok.1;have Le:=Dl.lims ok.2.1;have:1<=n:=by simp [Dl.dep] at hd;omega
  obtain ⟨m,rfl⟩:∃ m,n=m+1:=⟨n-1,by omega⟩
  show nx [some (Dl.joined d e).t,some (.str "joined"),none,none,none,none,none,none] G;rw [q1,ZZ rfl,if_neg (by decide),ZZ rfl,if_neg (by decide),ZZ rfl,if_pos rfl];simp [Dl.t,qv,qJ,gn3,qH,VV,qY,zZ,WL,qt,v3,c3,o3,u3,JP,L3.ixT,L3.ixR,za,iI,iC,iB,zL,zt,CQ,tb3,CC,or3,UT,zT,LD,Z2,if3,ch3,cb3,qb,qg,YL,tyT,z9,qP,ja,D6,np3,sp3,zl,qp,zn,jT,WC,QS,qk,bm3,EU,DM,YA,CN,XM,LJ,UV,q0,QM,WM,KD,KM,L2.atI,ixN,U0,HT.sIx,zG,in3,jh,eqF,gu,sizeLine_eq,getElem?_cons_zero,getElem?_cons_succ];refine ⟨d,rfl,by simp [Dl.dep] at hd;omega,ok.1,?_⟩;simp [CZ];refine ⟨e,rfl,by simp [Dl.dep] at hd;omega,ok.2.1,?_⟩;have e1:=Le.r1;have e2:=Le.r2;have e3:=Le.c1;have e4:=Le.c2;have e5:=Le.b1;have e6:=Le.b2;simp [CZ];exact ⟨cm (by omega) (by omega),cm (by omega) (by omega),cm (by omega) (by omega),h⟩
def Lf (G:Gp) (a:Addr) (n:Int):Prop:=∃ o c m,G a=some (.lst [.int o,.int c,.int m])/\0<=o/\0<=m/\m<=n
def Ext (a:Addr) (G G':Gp):Prop:=∀ b o,b≠a->G b=some o->G' b=some o
def Lf.ne {G:Gp} {a p:Addr} {n:Int} (h:Lf G a n) (hp:G p=none):p≠a:=by
 rintro rfl;obtain ⟨o,c,m,e,_⟩:=h;rw [hp] at e;cases e
def Lf.new {G:Gp} {a p:Addr} {n:Int} {ob:O} (h:Lf G a n) (hp:p≠a):Lf (gu G p ob) a n:=by
 obtain ⟨o,c,m,e,r⟩:=h;exact ⟨o,c,m,by rw [zS (Ne.symm hp)];exact e,r⟩
def Lf.mono {G:Gp} {a:Addr} {n k:Int} (h:Lf G a n) (hk:n<=k):Lf G a k:=by
 obtain ⟨o,c,m,e,h1,h2,h3⟩:=h;exact ⟨o,c,m,e,h1,h2,by omega⟩
def Lf.ex {G G':Gp} {a:Addr} {n:Int} (h:Lf G a n) (e:Ex G G'):Lf G' a n:=by
 obtain ⟨o,c,m,e1,h1⟩:=h;exact ⟨o,c,m,e _ _ e1,h1⟩
def Ext.refl {a:Addr} {G:Gp}:Ext a G G:=λ_ _ _ e=>e
def Ext.trans {a:Addr} {G G1 G2:Gp} (x:Ext a G G1) (y:Ext a G1 G2):Ext a G G2:=λb o hb e=>y b o hb (x b o hb e)
def zj {a p:Addr} {G:Gp} {ob:O} (hp:G p=none):Ext a G (gu G p ob):=λb o _ e=>by
 rw [zS (by rintro rfl;rw [hp] at e;cases e)];exact e
def W1 {a:Addr} {G G':Gp} (h:Ex G G'):Ext a G G':=λb o _ e=>h b o e
def W8:Sp3:=λts G q=>∃ c k,ts=[.int c,.int k]/\0<=k/\k<4294967296/\∀ m,0<=m->m<1999999973->q (.int m) G
def ZU:Sp3:=λts G q=>∃ (a:Addr) (k:Int) (ns:List Int),ts=[.ref a,.int k]/\G a=some (.frz (ns.map T.int))/\ns.length<=63/\0<=k/\k<=63/\∀ p o c,G p=none->0<=o->q (.ref p) (gu G p (.lst [.int o,.int c,.int 0]))
def qA:Sp3:=λts G q=>∃ a n many,ts=[.ref a,.int many]/\1<=many/\many<1073741824/\Lf G a n/\n<1073741824/\∀ d G',0<=d->d<many->Lf G' a (n+1)->Ext a G G'->q (.int d) G'
def QH:Sp3:=λts G q=>∃ a n,ts=[.ref a]/\Lf G a n/\n<100000000/\∀ r c G',1<=r->r<=16->1<=c->c<=16->Lf G' a (n+4)->Ext a G G'->q (.tup [.int r,.int c]) G'
def V4:Sp3:=λts G q=>∃ x y:Int,ts=[.int x,.int y]/\0<=x/\0<=y/\q (.int (Int.gcd x y:Nat)) G
structure Dr (d:Dl) (r c b:Int):Prop where
 ok:d.Ok
 r2:d.R<=r
 c2:d.C<=c
 b2:d.B<=b
def EC:Sp3:=λts G q=>∃ a n,ts=[.ref a]/\Lf G a n/\n<10000000/\∀ r c b x y G',Dr (.skew r c b x y) 16 16 32->Lf G' a (n+10)->Ext a G G'->q (Dl.skew r c b x y).t G'
def UU:Sp3:=λts G q=>∃ a n,ts=[.ref a]/\Lf G a n/\n<10000000/\∀ r c b p G',Dr (.rests r c b p) 16 16 32->Lf G' a (n+10)->Ext a G G'->q (Dl.rests r c b p).t G'
def qD {a:Addr} {n many:Int} {G:Gp} {q:Q3} (hL:Lf G a n) (h1:1<=many) (h2:many<1073741824) (hn:n<1073741824) (h:∀ d G',0<=d->d<many->Lf G' a (n+1)->Ext a G G'->q (.int d) G'):qA [.ref a,.int many] G q:=⟨a,n,many,rfl,h1,h2,hL,hn,h⟩
def LU:∀ ts G q,W8 ts G q->ts.length=2/\VJ (SO q) (qk ["_law_cell","_law_k","_law_m"] ts) G:=by
 rintro ts G q ⟨c,k,rfl,h1,h2,h⟩;refine ⟨rfl,?_⟩;simp only [VJ,qv,qJ,o3,v3,qk,map_cons,List.map_nil,length_cons,length_nil,Nat.zero_add,Nat.reduceAdd,Nat.reduceSub,List.replicate_one,cons_append,List.nil_append,Nat.zero_lt_succ,getElem?_pos,getElem_cons_zero,c3,iC,Int.reduceLT,Nat.reduceLT,getElem_cons_succ,za,gn3,qH,set_cons_succ,set_cons_zero,Nat.lt_add_one,true_and];exact ⟨.inl ⟨by omega,by omega⟩,cm (by omega) (by omega),cm (by omega) (by omega),.inl ⟨by omega,by omega⟩,h _ (Int.emod_nonneg _ (by omega)) (Int.emod_lt_of_pos _ (by omega))⟩
def cp:MV 10 18:=⟨by decide,by decide,by decide⟩
def SV:∀ ts G q,ZU ts G q->ts.length=2/\J4 (SO q) (qk ["_law_script","_law_k","_law_cell","_law_own"] ts) G:=by
 rintro ts G q ⟨a,k,ns,rfl,hG,hl,h1,h2,h⟩;refine ⟨rfl,?_⟩;simp only [J4,qv,qJ,if3,tb3,o3,v3,qk,map_cons,List.map_nil,length_cons,length_nil,Nat.zero_add,Nat.reduceAdd,Nat.reduceSub,List.reduceReplicate,cons_append,List.nil_append,Nat.reduceLT,getElem?_pos,getElem_cons_succ,getElem_cons_zero,cb3,qb,Nat.zero_lt_succ,qg,YA,zG,hG,iB,length_map,decide_eq_true_eq,gn3,set_cons_succ,set_cons_zero,CN,c3,iC,Int.reduceToNat,Int.reducePow,qH,ja,Nat.lt_add_one,za,ne_eq,sizeLine_eq,Nat.reduceLeDiff,true_and,gu,ixR,atI,ixN,getElem?_map,Int.lt_irrefl,↓reduceIte,Int.reduceLE,decide_false,Bool.false_eq_true,Int.zero_add];have ck:JD 1000003 k:=cm (by omega) (by omega);by_cases hk:k<ns.length
 ·have hk':k.toNat<ns.length:=by omega
  simp [hk,h1,hk',cp,ck];split
  ·split
   ·exact λp hp=>h p (-ns[k.toNat]) _ hp (by omega)
   ·exact λp hp=>h p 0 _ hp (by omega)
  ·split
   ·exact λp hp=>h p ns[k.toNat] _ hp (by omega)
   ·exact λp hp=>h p 0 _ hp (by omega)
 ·simp [hk,cp,ck];exact λp hp=>h p 0 _ hp (by omega)
def KA:∀ ts G q,qA ts G q->ts.length=2/\JV W8 (SO q) (qk ["_law_left_here","_law_many","_law_digit"] ts) G:=by
 rintro ts G q ⟨a,n,many,rfl,m1,m2,⟨o,c,m,hG,ho,hm,hn⟩,h3,h⟩;refine ⟨rfl,?_⟩;unfold JV;refine zN λnx1 q1=>?_;simp only [qJ,o3,v3,qk,map_cons,List.map_nil,length_cons,length_nil,Nat.zero_add,Nat.reduceAdd,Nat.reduceSub,List.replicate_one,cons_append,List.nil_append,Nat.zero_lt_succ,getElem?_pos,getElem_cons_zero,c3,za,ne_eq,sizeLine_eq,jT,WC,ixN,Int.zero_le_ofNat,↓reduceIte,Int.reduceToNat,tb3,iB,decide_eq_true_eq,Nat.reduceLT,getElem_cons_succ,iC,gn3,set_cons_succ,set_cons_zero,Std.le_refl,Int.natCast_pos,Int.toNat_zero,qH,Nat.lt_add_one,ixR,zG,atI,qt,cb3,qb,qg,Int.toNat_one,List.length_set,hG,Int.cast_ofNat_Int,Int.reduceLT,Option.bind_some,qq];rw [q1];clear q1;refine zN λnx2 q2=>?_;simp only [qY,qJ,o3,v3,qk,map_cons,List.map_nil,length_cons,length_nil,Nat.zero_add,Nat.reduceAdd,Nat.reduceSub,List.replicate_one,cons_append,List.nil_append,Nat.zero_lt_succ,getElem?_pos,getElem_cons_zero,c3,za,ne_eq,sizeLine_eq,jT,WC,ixN,Int.zero_le_ofNat,↓reduceIte,Int.reduceToNat,tb3,iB,decide_eq_true_eq,Nat.reduceLT,getElem_cons_succ,iC,gn3,set_cons_succ,set_cons_zero,Std.le_refl,Int.natCast_pos,Int.toNat_zero,qH,Nat.lt_add_one,ixR,zG,atI,qt,cb3,qb,qg,Int.toNat_one,List.length_set,hG,Int.cast_ofNat_Int,Int.reduceLT,Option.bind_some,qq];split
 ·simp only [qv,qJ,o3,v3,length_cons,length_nil,Nat.zero_add,Nat.reduceAdd,Nat.zero_lt_succ,getElem?_pos,getElem_cons_zero,c3,Nat.reduceLT,getElem_cons_succ,iC,gn3,set_cons_succ,set_cons_zero,jT,WC,ixN,Std.le_refl,↓reduceIte,Int.natCast_pos,Int.toNat_zero,qH,Nat.lt_add_one,ixR,zG,atI,qq,Int.cast_ofNat_Int,Int.reduceLT,Option.bind_some];refine ⟨by omega,⟨by omega,m2⟩,h _ _ (Int.emod_nonneg _ (by omega)) (Int.emod_lt_of_pos _ (by omega)) ⟨o/many,c,m+1,qq,Int.ediv_nonneg ho (by omega),by omega,by omega⟩ λb ob hb e=>?_⟩;rw [zS hb,zS hb];exact e
 ·rw [q2];clear q2;simp only [qJ,o3,v3,qk,map_cons,List.map_nil,length_cons,length_nil,Nat.zero_add,Nat.reduceAdd,Nat.reduceSub,List.replicate_one,cons_append,List.nil_append,Nat.zero_lt_succ,getElem?_pos,getElem_cons_zero,c3,za,ne_eq,sizeLine_eq,jT,WC,ixN,Int.zero_le_ofNat,↓reduceIte,Int.reduceToNat,tb3,iB,decide_eq_true_eq,Nat.reduceLT,getElem_cons_succ,iC,gn3,set_cons_succ,set_cons_zero,Std.le_refl,Int.natCast_pos,Int.toNat_zero,qH,Nat.lt_add_one,ixR,zG,atI,qt,cb3,qb,qg,Int.toNat_one,List.length_set,hG,Int.cast_ofNat_Int,Int.reduceLT,Option.bind_some,qq];refine ⟨c,m+1,rfl,by omega,by omega,λu u1 u2=>?_⟩;simp only [qJ,o3,v3,qk,map_cons,List.map_nil,length_cons,length_nil,Nat.zero_add,Nat.reduceAdd,Nat.reduceSub,List.replicate_one,cons_append,List.nil_append,Nat.zero_lt_succ,getElem?_pos,getElem_cons_zero,c3,za,ne_eq,sizeLine_eq,jT,WC,ixN,Int.zero_le_ofNat,↓reduceIte,Int.reduceToNat,tb3,iB,decide_eq_true_eq,Nat.reduceLT,getElem_cons_succ,iC,gn3,set_cons_succ,set_cons_zero,Std.le_refl,Int.natCast_pos,Int.toNat_zero,qH,Nat.lt_add_one,ixR,zG,atI,qt,cb3,qb,qg,Int.toNat_one,List.length_set,hG,Int.cast_ofNat_Int,Int.reduceLT,Option.bind_some,qq];refine ⟨u,m+1+64,rfl,by omega,by omega,λv v1 v2=>?_⟩;refine ⟨⟨by omega,by omega⟩,by omega,h _ _ (Int.emod_nonneg _ (by omega)) (Int.emod_lt_of_pos _ (by omega)) ⟨o,c,m+1,qq,ho,by omega,by omega⟩ λb ob hb e=>?_⟩;rw [zS hb];exact e
def qca {x y:Int} (hy:0<y):Int.gcd y (x%y)=Int.gcd x y:=by
 rw [Int.emod_def,Int.gcd_comm x y];simp
def MQ:∀ ts G q,V4 ts G q->ts.length=2/\Y7 (SO q) (qk ["_law_one","_law_other"] ts) G:=by
 rintro ts G q ⟨x,y,rfl,hx,hy,h⟩;refine ⟨rfl,?_⟩;simp only [Y7,qv,LB,qk,map_cons,List.map_nil,length_cons,length_nil,Nat.zero_add,Nat.reduceAdd,Nat.sub_self,List.replicate_zero,List.append_nil,tb3,o3,v3,c3,iB,decide_eq_true_eq,QS,qb,iC,qg,qH];refine ⟨λn τ G'=>G'=G/\∃ u v:Int,τ=[some (.int u),some (.int v)]/\n=v.toNat/\0<=u/\0<=v/\Int.gcd u v=Int.gcd x y,⟨_,rfl,x,y,rfl,rfl,hx,hy,rfl⟩,?_⟩;rintro n τ G' ⟨eG,u,v,rfl,rfl,hu,hv,e⟩;simp;by_cases h0:0<v
 ·simp [h0];refine ⟨λτ' G'=>G'=G/\∃ x' y':Int,τ'=[some (.int x'),some (.int y')]/\y'.toNat<v.toNat/\0<=x'/\0<=y'/\Int.gcd x' y'=Int.gcd x y,λτ' G' ⟨e1,x',y',e2,e3,e4,e5,e6⟩=>⟨y'.toNat,by omega,e1,x',y',e2,rfl,e4,e5,e6⟩,eG,v,u%v,rfl,?_,hv,Int.emod_nonneg _ (by omega),by rw [qca h0,e]⟩;have:=Int.emod_lt_of_pos u h0;omega
 ·have:v=0:=by omega
  subst this;simp at e;simp [eG];have:u=(Int.gcd x y:Nat):=by omega
  rw [this];exact h
def qmh {d:Int} (h1:0<=d) (h2:d<4) {x0 x1 x2 x3:T} {P:T->Prop} (p0:P x0) (p1:P x1) (p2:P x2) (p3:P x3):∃ x,L2.atI [x0,x1,x2,x3] d=some x/\P x:=by
 have:d=0\/d=1\/d=2\/d=3:=by omega
 rcases this with rfl|rfl|rfl|rfl
 ·exact ⟨x0,rfl,p0⟩
 ·exact ⟨x1,rfl,p1⟩
 ·exact ⟨x2,rfl,p2⟩
 ·exact ⟨x3,rfl,p3⟩
def qm4 {d:Int} (h1:0<=d) (h2:d<3) {x0 x1 x2:T} {P:T->Prop} (p0:P x0) (p1:P x1) (p2:P x2):∃ x,L2.atI [x0,x1,x2] d=some x/\P x:=by
 have:d=0\/d=1\/d=2:=by omega
 rcases this with rfl|rfl|rfl
 ·exact ⟨x0,rfl,p0⟩
 ·exact ⟨x1,rfl,p1⟩
 ·exact ⟨x2,rfl,p2⟩
def R6:∀ ts G q,QH ts G q->ts.length=1/\ZR qA (SO q) (qk ["_law_left_here","_law_wide","_law_rows","_law_columns"] ts) G:=by
 rintro ts G q ⟨a,n,rfl,hL,hn,h⟩;refine ⟨rfl,?_⟩;unfold ZR;refine zN λnx1 q1=>?_;simp only [qJ,o3,ja,qb,c3,qg,length_cons,length_nil,Nat.zero_add,Nat.reduceAdd,sizeLine_eq,Nat.reduceLeDiff,cb3,v3,qk,map_cons,List.map_nil,Nat.add_one_sub_one,List.reduceReplicate,cons_append,List.nil_append,Nat.zero_lt_succ,getElem?_pos,getElem_cons_zero,gn3,set_cons_succ,set_cons_zero,true_and];intro p hp;have hpa:=hL.ne hp;refine qD (hL.new hpa) (by decide) (by decide) (by omega) λd G1 d1 d2 L1 E1=>?_;have g1:=E1 p _ hpa qq;obtain ⟨w,hw,w',rfl,w1,w2⟩:=qmh d1 d2 (P:=λt=>∃ w,t=T.int w/\1<=w/\w<=16) ⟨6,rfl,by decide⟩ ⟨6,rfl,by decide⟩ ⟨6,rfl,by decide⟩ ⟨16,rfl,by decide⟩;simp only [ixR,zG,g1,hw];rw [q1];clear q1;refine zN λnx2 q2=>?_;simp only [QS,qb,o3,c3,cb3,v3,length_cons,length_nil,Nat.zero_add,Nat.reduceAdd,Nat.zero_lt_succ,getElem?_pos,getElem_cons_zero,Nat.reduceLT,getElem_cons_succ,qg,za,ne_eq,sizeLine_eq,set_cons_succ,set_cons_zero];refine qD L1 w1 (by omega) (by omega) λr G2 r1 r2 L2' E2=>?_;simp only [iI,qv,qJ,o3,ja,qb,c3,qg,length_cons,length_nil,Nat.zero_add,Nat.reduceAdd,sizeLine_eq,Nat.reduceLeDiff,cb3,v3,qk,map_cons,List.map_nil,Nat.add_one_sub_one,List.reduceReplicate,cons_append,List.nil_append,Nat.zero_lt_succ,getElem?_pos,getElem_cons_zero,gn3,QS,set_cons_succ,set_cons_zero,Nat.reduceLT,getElem_cons_succ,za,ne_eq,qH,qP,Nat.lt_add_one,true_and,gu];refine qD L2' w1 (by omega) (by omega) λc G3 c1 c2 L3' E3=>?_;simp only [iI,qv,qJ,o3,ja,qb,c3,qg,length_cons,length_nil,Nat.zero_add,Nat.reduceAdd,sizeLine_eq,Nat.reduceLeDiff,cb3,v3,qk,map_cons,List.map_nil,Nat.add_one_sub_one,List.reduceReplicate,cons_append,List.nil_append,Nat.zero_lt_succ,getElem?_pos,getElem_cons_zero,gn3,QS,set_cons_succ,set_cons_zero,Nat.reduceLT,getElem_cons_succ,za,ne_eq,qH,qP,Nat.lt_add_one,true_and,gu];rw [q2];clear q2;simp only [qH,o3,ja,qb,qP,v3,length_cons,length_nil,Nat.zero_add,Nat.reduceAdd,Nat.reduceLT,getElem?_pos,getElem_cons_succ,getElem_cons_zero,Nat.lt_add_one,qg,sizeLine_eq,Nat.reduceLeDiff,cb3,Nat.zero_lt_succ,c3,true_and];intro p2 hp2;have hpa2:=L3'.ne hp2;refine qD (L3'.new hpa2) (by decide) (by decide) (by omega) λe G4 e1 e2 L4 E4=>?_;have g4:=E4 p2 _ hpa2 qq;have x1:1<=1+r:=by omega
 have x2:1+r<=16:=by omega
 have x3:1<=1+c:=by omega
 have x4:1+c<=16:=by omega
 obtain ⟨t,ht,r',c',rfl,z1,z2,z3,z4⟩:=qmh e1 e2 (P:=λt=>∃ r' c',t=T.tup [.int r',.int c']/\1<=r'/\r'<=16/\1<=c'/\c'<=16) ⟨1+r,1+c,rfl,x1,x2,x3,x4⟩ ⟨1+r,1+c,rfl,x1,x2,x3,x4⟩ ⟨1+r,1+c,rfl,x1,x2,x3,x4⟩ ⟨1+r,1+r,rfl,x1,x2,x1,x2⟩;simp only [ixR,zG,g4,ht];exact h r' c' G4 z1 z2 z3 z4 (L4.mono (by omega)) ((((zj hp).trans E1).trans (E2.trans E3)).trans ((zj hp2).trans E4))
def T4:∀ ts G q,EC ts G q->ts.length=1/\J1 QH qA (SO q) (qk ["_law_left_here","_law_rows","_law_columns","_law_banks","_law_wide"] ts) G:=by
 rintro ts G q ⟨a,n,rfl,hL,hn,h⟩;refine ⟨rfl,?_⟩;unfold J1;refine zN λnx1 q1=>?_;simp only [qJ,cb3,qb,v3,qk,map_cons,List.map_nil,length_cons,length_nil,Nat.zero_add,Nat.reduceAdd,Nat.add_one_sub_one,List.reduceReplicate,cons_append,List.nil_append,Nat.zero_lt_succ,getElem?_pos,getElem_cons_zero,qg,zl,qp,gn3,zn,set_cons_succ,set_cons_zero];refine ⟨a,n,rfl,hL,by omega,λr c G1 r1 r2 c1 c2 L1 E1=>?_⟩;simp only [length_cons,length_nil,Nat.zero_add,Nat.reduceAdd,true_and];rw [q1];clear q1;refine zN λnx2 q2=>?_;simp only [qJ,o3,c3,cb3,qb,v3,length_cons,length_nil,Nat.zero_add,Nat.reduceAdd,Nat.zero_lt_succ,getElem?_pos,getElem_cons_zero,ja,qg,sizeLine_eq,Nat.reduceLeDiff,za,ne_eq,gn3,set_cons_succ,set_cons_zero,true_and];intro p hp;have hpa:=L1.ne hp;refine qD (L1.new hpa) (by decide) (by decide) (by omega) λd G2 d1 d2 L2' E2=>?_;have g2:=E2 p _ hpa qq;obtain ⟨w,hw,w',rfl,w1,w2⟩:=qmh d1 d2 (P:=λt=>∃ w,t=T.int w/\1<=w/\w<=32) ⟨8,rfl,by decide⟩ ⟨8,rfl,by decide⟩ ⟨17,rfl,by decide⟩ ⟨32,rfl,by decide⟩;simp only [ixR,zG,g2,hw];refine qD L2' w1 (by omega) (by omega) λb G3 b1 b2 L3' E3=>?_;simp [qv,qJ,gn3,qH,VV,qY,zZ,WL,qt,v3,c3,o3,u3,JP,L3.ixT,L3.ixR,za,iI,iC,iB,zL,zt,CQ,tb3,CC,or3,UT,zT,LD,Z2,if3,ch3,cb3,qb,qg,YL,tyT,z9,qP,ja,D6,np3,sp3,zl,qp,zn,jT,WC,QS,qk,bm3,EU,DM,YA,CN,XM,LJ,UV,q0,QM,WM,KD,KM,U0,HT.sIx,zG,in3,jh,eqF,gu,sizeLine_eq,getElem?_cons_zero,getElem?_cons_succ];rw [q2];clear q2;refine zN λnx3 q3=>?_;simp only [qJ,o3,ja,qb,v3,length_cons,length_nil,Nat.zero_add,Nat.reduceAdd,Nat.reduceLT,getElem?_pos,getElem_cons_succ,getElem_cons_zero,c3,qg,sizeLine_eq,Nat.reduceLeDiff,cb3,Nat.zero_lt_succ,gn3,set_cons_succ,set_cons_zero,true_and];intro p2 hp2;have hpa2:=L3'.ne hp2;refine qD (L3'.new hpa2) (by decide) (by decide) (by omega) λe G4 e1 e2 L4 E4=>?_;have g4:=E4 p2 _ hpa2 qq;obtain ⟨u,hu,u',rfl,u1,u2⟩:=qm4 e1 e2 (P:=λt=>∃ w,t=T.int w/\1<=w/\w<=100) ⟨1+b,rfl,by omega,by omega⟩ ⟨10,rfl,by decide⟩ ⟨100,rfl,by decide⟩;simp only [ixR,zG,g4,hu];rw [q3];clear q3;simp only [qH,qP,qb,c3,v3,length_cons,length_nil,Nat.zero_add,Nat.reduceAdd,Nat.reduceLT,getElem?_pos,getElem_cons_succ,getElem_cons_zero,cb3,Nat.zero_lt_succ,Nat.lt_add_one,qg,sizeLine_eq,Nat.reduceLeDiff,true_and];refine qD L4 u1 (by omega) (by omega) λx G5 x1 x2 L5 E5=>?_
 try simp [qv,qJ,gn3,qH,VV,qY,zZ,WL,qt,v3,c3,o3,u3,JP,L3.ixT,L3.ixR,za,iI,iC,iB,zL,zt,CQ,tb3,CC,or3,UT,zT,LD,Z2,if3,ch3,cb3,qb,qg,YL,tyT,z9,qP,ja,D6,np3,sp3,zl,qp,zn,jT,WC,QS,qk,bm3,EU,DM,YA,CN,XM,LJ,UV,q0,QM,WM,KD,KM,U0,HT.sIx,zG,in3,jh,eqF,gu,sizeLine_eq,getElem?_cons_zero,getElem?_cons_succ]
 refine qD L5 u1 (by omega) (by omega) λy G6 y1 y2 L6 E6=>?_
 try simp [qv,qJ,gn3,qH,VV,qY,zZ,WL,qt,v3,c3,o3,u3,JP,L3.ixT,L3.ixR,za,iI,iC,iB,zL,zt,CQ,tb3,CC,or3,UT,zT,LD,Z2,if3,ch3,cb3,qb,qg,YL,tyT,z9,qP,ja,D6,np3,sp3,zl,qp,zn,jT,WC,QS,qk,bm3,EU,DM,YA,CN,XM,LJ,UV,q0,QM,WM,KD,KM,U0,HT.sIx,zG,in3,jh,eqF,gu,sizeLine_eq,getElem?_cons_zero,getElem?_cons_succ]
 exact h r c (1+b) x y G6 ⟨⟨r1,by omega,c1,by omega,by omega,by omega,x1,by omega,y1,by omega⟩,r2,c2,by show 1+b<=32;omega⟩ (L6.mono (by omega)) (E1.trans (((zj hp).trans E2).trans (E3.trans (((zj hp2).trans E4).trans (E5.trans E6)))))
def cop {b p:Int} (hb:1<=b):∃ k:Nat,(k:Int)<b/\Int.gcd b (p+k)=1:=by
 refine ⟨((1-p)%b).toNat,?_,?_⟩
 ·have:=Int.emod_nonneg (1-p) (show b≠0 by omega);have:=Int.emod_lt_of_pos (1-p) (show 0<b by omega);omega
 ·have h1:=Int.emod_nonneg (1-p) (show b≠0 by omega);have h2:=Int.emod_add_mul_ediv (1-p) b;have e:p+(((1-p)%b).toNat:Int)=1+b*(-((1-p)/b)):=by
   rw [Int.toNat_of_nonneg h1,Int.mul_neg];omega
  rw [e];simp
structure Plc (b p0 pl:Int) (i:Nat):Prop where
 lo:p0<=pl
 hi:pl<=p0+i
 at_:Int.gcd b pl=1\/(pl=p0+i/\∀ k:Nat,k<i->Int.gcd b (p0+k)≠1)
def Plc.done {b p0 pl:Int} {n:Nat} (h:Plc b p0 pl n) (hb:1<=b) (hn:b<=n):Int.gcd b pl=1:=by
 rcases h.at_ with h|⟨_,h⟩
 ·exact h
 ·obtain ⟨k,h1,h2⟩:=cop (p:=p0) hb;exact absurd h2 (h k (by omega))
def Plc.next {b p0 pl:Int} {i:Nat} (h:Plc b p0 pl i) (hb:1<=b) (hp:1<=p0) (hg:(1:Int)<(Int.gcd b pl:Nat)):Plc b p0 (pl+1) (i+1):=by
 rcases h.at_ with z|⟨z1,z2⟩
 ·rw [z] at hg;simp at hg
 ·refine ⟨by have:=h.lo;omega,by omega,.inr ⟨by omega,λk hk=>?_⟩⟩;rcases Nat.lt_or_ge k i with q|q
  ·exact z2 k q
  ·have:k=i:=by omega
   subst this;rw [← z1];omega
def Plc.stay {b p0 pl:Int} {i:Nat} (h:Plc b p0 pl i) (hb:1<=b) (hp:1<=p0) (hg:¬ (1:Int)<(Int.gcd b pl:Nat)):Plc b p0 pl (i+1):=by
 have g0:0<Int.gcd b pl:=Int.gcd_pos_of_ne_zero_left _ (by omega);exact ⟨h.lo,by have:=h.hi;omega,.inl (by omega)⟩
def qd6 {r c b:Int} (hr:1<=r) (hc:1<=c) (hb:1<=b):1<=-(-r*c/b)/\r*c<=b*-(-r*c/b)/\-(-r*c/b)<=r*c:=by
 have h1:=JW hr hc;have e:-r*c=-(r*c):=Int.neg_mul ..;rw [e];have h2:=Int.ediv_neg_of_neg_of_pos (a:=-(r*c)) (b:=b) (by omega) (by omega);have h3:=Int.mul_ediv_self_le (x:=-(r*c)) (k:=b) (by omega);have h4:-(r*c)<=-(r*c)/b:=by
  have:=Int.le_ediv_of_mul_le (a:=-(r*c)) (b:=-(r*c)) (c:=b) (by omega) (by
   have:=Int.mul_le_mul_of_nonneg_left hb (show (0:Int)<=r*c by omega);rw [Int.neg_mul];omega)
  exact this
 rw [Int.mul_neg];omega
def RF:∀ ts G q,UU ts G q->ts.length=1/\ZQ QH qA V4 (SO q) (qk ["_law_left_here","_law_rows","_law_columns","_law_banks","_law_places","_law_turn"] ts) G:=by
 rintro ts G q ⟨a,n,rfl,hL,hn,h⟩;refine ⟨rfl,?_⟩;unfold ZQ;refine zN λnx1 q1=>?_;simp only [qJ,cb3,qb,v3,qk,map_cons,List.map_nil,length_cons,length_nil,Nat.zero_add,Nat.reduceAdd,Nat.add_one_sub_one,List.reduceReplicate,cons_append,List.nil_append,Nat.zero_lt_succ,getElem?_pos,getElem_cons_zero,qg,zl,qp,gn3,zn,set_cons_succ,set_cons_zero];refine ⟨a,n,rfl,hL,by omega,λr c G1 r1 r2 c1 c2 L1 E1=>?_⟩;simp only [length_cons,length_nil,Nat.zero_add,Nat.reduceAdd,true_and];rw [q1];clear q1;refine zN λnx2 q2=>?_;simp only [qJ,o3,c3,cb3,qb,v3,length_cons,length_nil,Nat.zero_add,Nat.reduceAdd,Nat.zero_lt_succ,getElem?_pos,getElem_cons_zero,ja,qg,sizeLine_eq,Nat.reduceLeDiff,za,ne_eq,gn3,set_cons_succ,set_cons_zero,true_and];intro p hp;have hpa:=L1.ne hp;refine qD (L1.new hpa) (by decide) (by decide) (by omega) λd G2 d1 d2 L2' E2=>?_;have g2:=E2 p _ hpa qq;obtain ⟨w,hw,w',rfl,w1,w2⟩:=qm4 d1 d2 (P:=λt=>∃ w,t=T.int w/\1<=w/\w<=32) ⟨8,rfl,by decide⟩ ⟨17,rfl,by decide⟩ ⟨32,rfl,by decide⟩;simp only [ixR,zG,g2,hw];refine qD L2' w1 (by omega) (by omega) λb G3 b1 b2 L3' E3=>?_;simp [qv,qJ,gn3,qH,VV,qY,zZ,WL,qt,v3,c3,o3,u3,JP,L3.ixT,L3.ixR,za,iI,iC,iB,zL,zt,CQ,tb3,CC,or3,UT,zT,LD,Z2,if3,ch3,cb3,qb,qg,YL,tyT,z9,qP,ja,D6,np3,sp3,zl,qp,zn,jT,WC,QS,qk,bm3,EU,DM,YA,CN,XM,LJ,UV,q0,QM,WM,KD,KM,U0,HT.sIx,zG,in3,jh,eqF,gu,sizeLine_eq,getElem?_cons_zero,getElem?_cons_succ];rw [q2];clear q2;refine zN λnx3 q3=>?_;simp only [qJ,o3,u3,v3,length_cons,length_nil,Nat.zero_add,Nat.reduceAdd,Nat.reduceLT,getElem?_pos,getElem_cons_succ,getElem_cons_zero,JP,iC,cb3,qb,Nat.zero_lt_succ,c3,qg,za,ne_eq,sizeLine_eq,gn3,set_cons_succ,set_cons_zero];refine ⟨cm (by omega) (by omega),⟨by omega,by omega⟩,qD L3' (by omega) (by omega) (by omega) λe G4 e1 e2 L4 E4=>?_⟩;obtain ⟨u1,u2,u3⟩:=qd6 r1 c1 (show 1<=1+b by omega);have rc:r*c<=16*16:=Int.mul_le_mul r2 c2 (by omega) (by omega);simp [qv,qJ,gn3,qH,VV,qY,zZ,WL,qt,v3,c3,o3,u3,JP,L3.ixT,L3.ixR,za,iI,iC,iB,zL,zt,CQ,tb3,CC,or3,UT,zT,LD,Z2,if3,ch3,cb3,qb,qg,YL,tyT,z9,qP,ja,D6,np3,sp3,zl,qp,zn,jT,WC,QS,qk,bm3,EU,DM,YA,CN,XM,LJ,UV,q0,QM,WM,KD,KM,U0,HT.sIx,zG,in3,jh,eqF,gu,sizeLine_eq,getElem?_cons_zero,getElem?_cons_succ];rw [q3];clear q3;simp only [qv,WF,zz,qb,c3,qg,Int.reducePow,Int.reduceNeg,Int.neg_ofNat_le_ofNat,Int.reduceLT,and_self,Int.reduceToNat,true_and];obtain ⟨p0,hp0⟩:∃ p0,p0=-(-r*c/(1+b))+e:=⟨_,rfl⟩
 refine VD _ (λi τ G'=>G'=G4/\∃ (pl:Int) (x:Option T),τ=[some (.ref a),some (.int r),some (.int c),some (.int (1+b)),some (.int pl),x]/\Plc (1+b) p0 pl i) ⟨rfl,_,none,by rw [← hp0],⟨by omega,by omega,.inr ⟨by omega,by omega⟩⟩⟩ (λ_ _ _ _ _=>True.intro) ?_ ?_
 ·rintro i x τ G' nx hx ⟨rfl,pl,y,rfl,P⟩ hn;simp only [gn3,qY,tb3,o3,cb3,qb,v3,set_cons_succ,set_cons_zero,length_cons,length_nil,Nat.zero_add,Nat.reduceAdd,Nat.reduceLT,getElem?_pos,getElem_cons_succ,getElem_cons_zero,qg,c3,iB,decide_eq_true_eq,qJ,za,qt];refine ⟨1+b,pl,rfl,by omega,by have:=P.lo;omega,?_⟩;simp;split
  ·rename_i hg;exact hn _ _ ⟨rfl,_,_,rfl,P.next (by omega) (by omega) (by omega)⟩
  ·rename_i hg;exact hn _ _ ⟨rfl,_,_,rfl,P.stay (by omega) (by omega) (by omega)⟩
 ·rintro τ G' ⟨rfl,pl,x,rfl,P⟩;simp only [qH,qP,qb,c3,v3,length_cons,length_nil,Nat.zero_add,Nat.reduceAdd,Nat.reduceLT,getElem?_pos,getElem_cons_succ,getElem_cons_zero,qg,sizeLine_eq,Nat.reduceLeDiff,true_and];rw [QL] at P;have lo:=P.lo;have hi:=P.hi;have m1:(1+b)*-(-r*c/(1+b))<=(1+b)*pl:=Int.mul_le_mul_of_nonneg_left (by omega) (by omega);exact h r c (1+b) pl G' ⟨⟨r1,by omega,c1,by omega,by omega,by omega,by omega,by omega,P.done (by omega) (by omega),by omega⟩,r2,c2,by show 1+b<=32;omega⟩ (L4.mono (by omega)) (E1.trans (((zj hp).trans E2).trans (E3.trans E4)))
def j4:Nat->Sp3
 |0=>T3
 |n+1=>λts G q=>∃ d:Dl,ts=[d.t]/\d.dep<=n/\d.Ok/\∀ G',Ex G G'->q (CZ d) G'
def qcn:∀ {d:Nat},d<=8->L2.atI [T.int 1,.int 2,.int 4,.int 8,.int 16,.int 32,.int 64,.int 128,.int 256] (d:Int)=some (.int (2 ^ d))
 |0,_=>rfl
 |1,_=>rfl
 |2,_=>rfl
 |3,_=>rfl
 |4,_=>rfl
 |5,_=>rfl
 |6,_=>rfl
 |7,_=>rfl
 |8,_=>rfl
 |k+9,h=>absurd h (Nat.not_le.mpr (Nat.lt_of_lt_of_le (Nat.lt_succ_self _) (Nat.le_add_left _ _)))
def qbP:∀ {d:Nat},d<=4->L2.atI [T.int 1,.int 2,.int 4,.int 8,.int 16] (d:Int)=some (.int (2 ^ d))
 |0,_=>rfl
 |1,_=>rfl
 |2,_=>rfl
 |3,_=>rfl
 |4,_=>rfl
 |k+5,h=>absurd h (Nat.not_le.mpr (Nat.lt_of_lt_of_le (Nat.lt_succ_self _) (Nat.le_add_left _ _)))
def ND {α:Type} {x:α} {xs:List α}:L2.atI (x::xs) 0=some x:=by simp [L2.atI,ixN]
def qbw {α:Type} {x y:α} {xs:List α}:L2.atI (x::y::xs) 1=some y:=by
 rw [U6 (by omega) (by simp;omega)];rfl
def qe1 {α:Type} {x y z:α} {xs:List α}:L2.atI (x::y::z::xs) 2=some z:=by
 rw [U6 (by omega) (by simp;omega)];rfl
def qn2 {α:Type} {x y z w:α} {xs:List α}:L2.atI (x::y::z::w::xs) 3=some w:=by
 rw [U6 (by omega) (by simp;omega)];rfl
def DL {s l:Str} {xs:List T} {R S:TS3} {d:Ends3} {τ:St3} {G:Gp} (hτ:τ[0]?=some (some (T.tup (.str s::xs)))):qv (qY (tb3 (o3 (zL false) (o3 ix3 (v3 0) (c3 (.int 0))) (c3 (.str l)))) R qt) S d τ G=(if s=l then R { d with nx:=S d } τ G else S d τ G):=by
 simp only [qv,qY,tb3,o3,v3,hτ,c3,L3.ixT,ND,zL,zt,qt];by_cases e:s=l<;>simp [e]
def CG {te:TE3} {q:Q3} {a:Addr} {n many:Int} {j8:St3} {items:List T} {x0:Option T} {G:Gp} (hte:∀ x0 G3 (Q:T->Gp->Prop),qA [.ref a,.int many] G3 Q->te (x0::j8) G3 Q) (hL:Lf G a n) (m1:1<=many) (m2:many<1073741824) (hl:items.length<=1000) (hn:n<1000000000)
  (h:∀ (ds:List Int) G' p,ds.length=items.length->(∀ d∈ds,0<=d/\d<many)->Lf G' a (n+items.length)->Ext a G G'->G' p=none->q (.ref p) (gu G' p (.lst (ds.map T.int)))) :
  WR (λ_=>True) (gn3 0) tt3 te q items [] (x0::j8) G:=by
 refine KU _ (λi ys τ G'=>∃ (ds:List Int) (x0:Option T),τ=x0::j8/\ys=ds.map T.int/\ds.length=i/\(∀ d∈ds,0<=d/\d<many)/\Lf G' a (n+i)/\Ext a G G') ⟨[],x0,rfl,rfl,rfl,by simp,by simpa using hL,Ext.refl⟩ (λ_ _ _ _ _ _=>True.intro) ?_ ?_
 ·rintro i z ys τ G' R hz ⟨ds,x0,rfl,rfl,e,hd,hL',E⟩ hR;have hi:=(List.getElem?_eq_some_iff.mp hz).1;simp only [gn3,tt3,set_cons_zero,if_true];refine hte _ _ _ (qD hL' m1 m2 (by omega) λd G2 d1 d2 L2 E2=>⟨by simp [sizeLine_eq];omega,hR _ _ _ ⟨ds++[d],_,rfl,by simp,by simp [e],λx hx=>?_,L2.mono (by omega),E.trans E2⟩⟩);rcases List.mem_append.mp hx with hx|hx
  ·exact hd x hx
  ·simp at hx;subst hx;exact ⟨d1,d2⟩
 ·rintro ys τ G' ⟨ds,x0,rfl,rfl,e,hd,hL',E⟩ p hp;exact h ds G' p e hd hL' E hp
def EQ:Sp3:=λts G q=>∃ a n most,ts=[.ref a,.int most]/\Lf G a n/\n<10000000/\0<=most/\most<=4/\∀ (h l:Nat) (ms:List Int) G',(h:Int)<=most->(l:Int)<=most->(Dl.bits h l ms).Ok->Lf G' a (n+10)->Ext a G G'->q (Dl.bits h l ms).t G'
def LK {wide:Int} {p:Addr} {ds:List Int} {x0:Option T} {G:Gp} {q:Q3} (hw:0<wide) (hl:ds.length<=1000) (hG:zG G p=some (ds.map T.int)) (h:∀ p2,G p2=none->q (.ref p2) (gu G p2 (.lst ((ds.map (·%wide)).map T.int)))) :
  WR (λG=>zG G p=some (ds.map T.int)) (gn3 0) tt3 (o3 (iC (λ_ j=>0<j) (·%·)) (v3 0) (v3 1)) q (ds.map T.int) [] [x0,some (.int wide)] G:=by
 refine KC (λt=>match t with|.int m=>T.int (m%wide)|t=>t) (λτ=>∃ x0,τ=[x0,some (.int wide)]) hG _ _ _ ⟨_,rfl⟩ ?_ (by simp [sizeLine_eq];omega) λp2 hp2=>?_
 ·rintro z hz τ ⟨x0,rfl⟩ R hR;rw [mem_map] at hz;obtain ⟨m,_,rfl⟩:=hz;simp [gn3,o3,v3,iC];exact ⟨hw,hR _ ⟨_,rfl⟩⟩
 ·have:=h p2 hp2;simpa [map_map,Function.comp_def] using this
def S5:∀ ts G q,EQ ts G q->ts.length=2/\JR qA (SO q) (qk ["_law_left_here","_law_most","_law_high","_law_low","_law_masks","_law_wide"] ts) G:=by
 rintro ts G q ⟨a,n,most,rfl,hL,hn,m1,m2,h⟩;refine ⟨rfl,?_⟩;simp only [JR,qv,QS,qb,cb3,v3,qk,map_cons,List.map_nil,length_cons,length_nil,Nat.zero_add,Nat.reduceAdd,Nat.reduceSub,List.reduceReplicate,cons_append,List.nil_append,Nat.zero_lt_succ,getElem?_pos,getElem_cons_zero,o3,Nat.reduceLT,getElem_cons_succ,c3,za,qg,qJ,set_cons_succ,set_cons_zero,gn3,ja,sizeLine_eq,Nat.reduceLeDiff,ne_eq,qH,qP,q0,true_and,zG,gu,ixR,↓reduceIte];refine qD hL (by omega) (by omega) (by omega) λhi G1 h1 h2 L1 E1=>?_
 try simp
 refine qD L1 (by omega) (by omega) (by omega) λlo G2 l1 l2 L2' E2=>?_;simp only [lc3,zz,qb,cb3,v3,length_cons,length_nil,Nat.zero_add,Nat.reduceAdd,Nat.zero_lt_succ,getElem?_pos,getElem_cons_zero,c3,qg,Int.reducePow,Int.reduceNeg,cap,map_cons,Nat.lt_add_one,getElem_cons_succ,Option.join_some,List.map_nil];refine qD L2' (by omega) (by omega) (by omega) λk G3 k1 k2 L3' E3=>?_;refine ⟨⟨by omega,by omega⟩,CG (many:=256) (λx0 G3 Q hq=>by simpa [cb3,qb,v3,c3,qg] using hq) L3' (by omega) (by omega) (by rw [QL];omega) (by omega) λds G4 p e1 e2 L4 E4 hp=>?_⟩;rw [QL] at e1 L4;obtain ⟨H,rfl⟩:=Int.eq_ofNat_of_zero_le h1;obtain ⟨W,rfl⟩:=Int.eq_ofNat_of_zero_le l1;have hpa:=L4.ne hp
 try simp
 intro p2 hp2;have pp:p≠p2:=by rintro rfl;rw [qq] at hp2;cases hp2
 have e3:((H:Int)+(W:Int))=((H+W:Nat):Int):=by omega
 have w1:=R8 (H+W);have hG:∀ B,zG (gu (gu G4 p (.lst (ds.map T.int))) p2 B) p=some (ds.map T.int):=λB=>by simp only [zG,zS pp,qq]
 rw [e3,qcn (d:=H+W) (by omega)];simp only [QP,v3,getElem?_cons_zero,getElem?_cons_succ,hG];refine LK (by omega) (by omega) (hG _) λp3 hp3=>?_;simp only [qq];refine h H W _ _ (by omega) (by omega) ⟨by omega,by omega,by simp;omega,λm hm=>?_⟩ ((((L4.new hpa).new ((L4.new hpa).ne hp2)).new (((L4.new hpa).new ((L4.new hpa).ne hp2)).ne hp3)).mono (by omega)) (((E1.trans E2).trans (E3.trans E4)).trans (((zj hp).trans (zj hp2)).trans (zj hp3)));rw [mem_map] at hm;obtain ⟨x,_,rfl⟩:=hm;exact ⟨Int.emod_nonneg _ (by omega),Int.emod_lt_of_pos _ (by omega)⟩
structure Cells (cells:List (List Int)) (r c b:Int):Prop where
 r:(cells.length:Int)=r
 c:∀ row∈cells,(row.length:Int)=c/\∀ x∈row,0<=x/\x<b
def KJ {q:Q3} {a:Addr} {n r c b:Int} {x0:Option T} {G:Gp} (hL:Lf G a n) (hn:n<100000000) (r1:1<=r) (r2:r<=16) (c1:1<=c) (c2:c<=16) (b1:1<=b) (b2:b<=1000)
  (h:∀ cells G' p,Cells cells r c b->Lf G' a (n+256)->Ext a G G'->G' p=none->q (.ref p) (gu G' p (.lst (cells.map qbi)))) :
  WR (λ_=>True) (gn3 0) tt3 (cb3 q0 (qb (lc3 (zz (qb (v3 3) qg)) (gn3 0) tt3 (cb3 qA (qb (v3 1) (qb (v3 2) qg))) [none,some 1,some 2]) qg)) q (KO 0 r.toNat) [] [x0,some (.ref a),some (.int b),some (.int c)] G:=by
 refine KU _ (λi ys τ G'=>∃ (cells:List (List Int)) (x0:Option T),τ=[x0,some (.ref a),some (.int b),some (.int c)]/\ys=cells.map qbi/\Cells cells i c b/\Lf G' a (n+16*i)/\Ext a G G') ⟨[],x0,rfl,rfl,⟨rfl,by simp⟩,by simpa using hL,Ext.refl⟩ (λ_ _ _ _ _ _=>True.intro) ?_ ?_
 ·rintro i z ys τ G' R hz ⟨cells,x0,rfl,rfl,C,hL',E⟩ hR;obtain ⟨hi,rfl⟩:=S8 hz;have hc:=C.r;simp only [gn3,tt3,↓reduceIte,cb3,qb,lc3,zz,v3,Int.zero_add,set_cons_zero,length_cons,length_nil,Nat.zero_add,Nat.reduceAdd,Nat.lt_add_one,getElem?_pos,getElem_cons_succ,getElem_cons_zero,qg,Int.reducePow,Int.reduceNeg,q0,length_map,sizeLine_eq,zG,cap,map_cons,Nat.reduceLT,Option.join_some,List.map_nil];refine ⟨⟨by omega,by omega⟩,CG (many:=b) (λx0 G3 Q hq=>by simpa [cb3,qb,v3,c3,qg] using hq) hL' (by omega) (by omega) (by rw [QL];omega) (by omega) λds G4 p e1 e2 L4 E4 hp=>?_⟩;rw [QL] at e1 L4;simp only [qq];refine ⟨by omega,hR _ _ _ ⟨cells++[ds],_,rfl,by simp [qbi],⟨by simp;omega,λrow hrow=>?_⟩,((L4.new (L4.ne hp)).mono (by omega)),(E.trans E4).trans (zj hp)⟩⟩;rcases List.mem_append.mp hrow with hr|hr
  ·exact C.c row hr
  ·simp at hr;subst hr;exact ⟨by omega,e2⟩
 ·rintro ys τ G' ⟨cells,x0,rfl,rfl,C,hL',E⟩ p hp;rw [QL] at C hL';exact h cells G' p ⟨by have:=C.r;omega,C.c⟩ (hL'.mono (by omega)) E hp
def Cells.ok {cells:List (List Int)} {r c b:Int} (C:Cells cells r c b) (r1:1<=r) (r2:r<=60) (c1:1<=c) (c2:c<=60) (b1:1<=b) (b2:b<=1000):(Dl.table b cells).Ok/\(Dl.table b cells).R=r/\(Dl.table b cells).C=c:=by
 have hl:=C.r;have ok:(Dl.table b cells).Ok:=⟨b1,b2,by omega,by omega,c.toNat,by omega,by omega,λrow hr=>⟨by have:=(C.c row hr).1;omega,(C.c row hr).2⟩⟩
 have e0:cells[0]?=some cells[0]:=getElem?_eq_getElem (by omega);exact ⟨ok,hl,by simp [Dl.C,e0];exact (C.c cells[0] (List.getElem_mem _)).1⟩
def UW:Sp3:=λts G q=>∃ a n,ts=[.ref a]/\Lf G a n/\n<10000000/\∀ (d:Dl) G',Dr d 4 4 5->d.dep=0->Lf G' a (n+300)->Ext a G G'->q d.t G'
def R7:∀ ts G q,UW ts G q->ts.length=1/\ZP qA V4 (SO q) (qk ["_law_left_here","_law_rows","_law_columns","_law_banks","_law_way","_law_high","_law_low","_law_masks","_law_wide","_law_places","_law_turn","_law_cells"] ts) G:=by
 rintro ts G q ⟨a,n,rfl,hL,hn,h⟩;refine ⟨rfl,?_⟩;unfold ZP;refine zN λnx1 q1=>?_;simp only [qJ,qP,qb,o3,c3,cb3,v3,qk,map_cons,List.map_nil,length_cons,length_nil,Nat.zero_add,Nat.reduceAdd,Nat.add_one_sub_one,List.reduceReplicate,cons_append,List.nil_append,Nat.zero_lt_succ,getElem?_pos,getElem_cons_zero,qg,za,ne_eq,sizeLine_eq,Nat.reduceLeDiff,zl,qp,gn3,zn,set_cons_succ,set_cons_zero,true_and];refine qD hL (by omega) (by omega) (by omega) λr G1 r1 r2 L1 E1=>?_
 try simp
 refine qD L1 (by omega) (by omega) (by omega) λc G2 c1 c2 L2' E2=>?_
 try simp
 refine qD L2' (by omega) (by omega) (by omega) λb G3 b1 b2 L3' E3=>?_
 try simp
 rw [q1];refine zN λnx2 q2=>?_;simp only [qJ,cb3,qb,v3,length_cons,length_nil,Nat.zero_add,Nat.reduceAdd,Nat.zero_lt_succ,getElem?_pos,getElem_cons_zero,c3,qg,gn3,set_cons_succ,set_cons_zero];refine qD L3' (by omega) (by omega) (by omega) λway G4 w1 w2 L4 E4=>?_;have EE:=(E1.trans E2).trans (E3.trans E4);rw [q2];refine zN λnx3 q3=>?_;by_cases k0:way=0
 ·subst k0;simp only [qY,tb3,o3,v3,length_cons,length_nil,Nat.zero_add,Nat.reduceAdd,Nat.reduceLT,getElem?_pos,getElem_cons_succ,getElem_cons_zero,c3,zL,zt,decide_true,Bool.false_eq_true,↓reduceIte,qH,qP,qb,cb3,Nat.zero_lt_succ,qg,sizeLine_eq,Nat.reduceLeDiff,true_and];refine qD L4 (by omega) (by omega) (by omega) λx G5 x1 x2 L5 E5=>?_
  try simp
  refine qD L5 (by omega) (by omega) (by omega) λy G6 y1 y2 L6 E6=>?_
  try simp
  exact h (.skew (1+r) (1+c) (1+b) x y) G6 ⟨⟨by omega,by omega,by omega,by omega,by omega,by omega,by omega,by omega,by omega,by omega⟩,by show 1+r<=4;omega,by show 1+c<=4;omega,by show 1+b<=5;omega⟩ rfl (L6.mono (by omega)) (EE.trans (E5.trans E6))
 simp only [qY,tb3,o3,v3,c3,zL,zt,getElem?_cons_zero,getElem?_cons_succ,k0,decide_false,Bool.false_eq_true,if_false,qt];rw [q3];refine zN λnx4 q4=>?_;by_cases k1:way=1
 ·subst k1;simp only [qY,tb3,o3,v3,length_cons,length_nil,Nat.zero_add,Nat.reduceAdd,Nat.reduceLT,getElem?_pos,getElem_cons_succ,getElem_cons_zero,c3,zL,zt,decide_true,Bool.false_eq_true,↓reduceIte,qv,QS,qb,cb3,Nat.zero_lt_succ,qg,qJ,set_cons_succ,set_cons_zero,gn3,ja,sizeLine_eq,Nat.reduceLeDiff,za,ne_eq,qH,qP,q0,true_and,zG,gu,ixR];refine qD L4 (by omega) (by omega) (by omega) λhi G5 h1 h2 L5 E5=>?_
  try simp
  refine qD L5 (by omega) (by omega) (by omega) λlo G6 l1 l2 L6 E6=>?_;simp only [lc3,zz,qb,cb3,v3,length_cons,length_nil,Nat.zero_add,Nat.reduceAdd,Nat.zero_lt_succ,getElem?_pos,getElem_cons_zero,c3,qg,Int.reducePow,Int.reduceNeg,cap,map_cons,Nat.reduceLT,getElem_cons_succ,Option.join_some,List.map_nil];refine qD L6 (by omega) (by omega) (by omega) λk G7 k1 k2 L7 E7=>?_;refine ⟨⟨by omega,by omega⟩,CG (many:=16) (λx0 G3 Q hq=>by simpa [cb3,qb,v3,c3,qg] using hq) L7 (by omega) (by omega) (by rw [QL];omega) (by omega) λds G8 p e1 e2 L8 E8 hp=>?_⟩;rw [QL] at e1 L8;obtain ⟨H,rfl⟩:=Int.eq_ofNat_of_zero_le h1;obtain ⟨W,rfl⟩:=Int.eq_ofNat_of_zero_le l1;have hpa:=L8.ne hp
  try simp
  intro p2 hp2;have pp:p≠p2:=by rintro rfl;rw [qq] at hp2;cases hp2
  have e3:((H:Int)+(W:Int))=((H+W:Nat):Int):=by omega
  have w1:=R8 (H+W);have hG:∀ B,zG (gu (gu G8 p (.lst (ds.map T.int))) p2 B) p=some (ds.map T.int):=λB=>by simp only [zG,zS pp,qq]
  rw [e3,qbP (d:=H+W) (by omega)];simp only [QP,v3,getElem?_cons_zero,getElem?_cons_succ,hG];refine LK (by omega) (by omega) (hG _) λp3 hp3=>?_;simp only [qq];have bl:(Dl.bits H W (ds.map (·%2 ^ (H+W)))).Ok:=⟨by omega,by omega,by simp;omega,λm hm=>by
   rw [mem_map] at hm;obtain ⟨x,_,rfl⟩:=hm;exact ⟨Int.emod_nonneg _ (by omega),Int.emod_lt_of_pos _ (by omega)⟩⟩
  have q1:=X0 (n:=H) (k:=2) (by omega);have q2:=X0 (n:=W) (k:=2) (by omega);have q3:=X0 (n:=ds.length) (k:=2) (by omega);exact h (.bits H W _) _ ⟨bl,by show (2:Int) ^ H<=4;omega,by show (2:Int) ^ W<=4;omega,by simp [Dl.B];omega⟩ rfl ((((L8.new hpa).new ((L8.new hpa).ne hp2)).new (((L8.new hpa).new ((L8.new hpa).ne hp2)).ne hp3)).mono (by omega)) (EE.trans (((E5.trans E6).trans (E7.trans E8)).trans (((zj hp).trans (zj hp2)).trans (zj hp3))))
 simp only [qY,tb3,o3,v3,c3,zL,zt,getElem?_cons_zero,getElem?_cons_succ,k1,decide_false,Bool.false_eq_true,if_false,qt];rw [q4];refine zN λnx5 q5=>?_;by_cases k2:way=2
 ·subst k2;simp only [qY,tb3,o3,v3,length_cons,length_nil,Nat.zero_add,Nat.reduceAdd,Nat.reduceLT,getElem?_pos,getElem_cons_succ,getElem_cons_zero,c3,zL,zt,decide_true,Bool.false_eq_true,↓reduceIte,qv,qJ,u3,JP,iC,cb3,qb,Nat.zero_lt_succ,qg,za,ne_eq,sizeLine_eq,gn3,set_cons_succ,set_cons_zero];refine ⟨cm (by omega) (by omega),⟨by omega,by omega⟩,qD L4 (by omega) (by omega) (by omega) λe G5 e1 e2 L5 E5=>?_⟩;obtain ⟨u1,u2,u3⟩:=qd6 (show 1<=1+r by omega) (show 1<=1+c by omega) (show 1<=1+b by omega);have rc:(1+r)*(1+c)<=4*4:=Int.mul_le_mul (by omega) (by omega) (by omega) (by omega);simp only [WF,zz,qb,c3,qg,Int.reducePow,Int.reduceNeg,Int.neg_ofNat_le_ofNat,Int.reduceLT,and_self,Int.reduceToNat,true_and];obtain ⟨p0,hp0⟩:∃ p0,p0=-(-(1+r)*(1+c)/(1+b))+e:=⟨_,rfl⟩
  refine VD _ (λi τ G'=>G'=G5/\∃ (pl:Int) (x:Option T),τ=[some (.ref a),some (.int (1+r)),some (.int (1+c)),some (.int (1+b)),some (.int 2),none,none,none,none,some (.int pl),x,none]/\Plc (1+b) p0 pl i) ⟨rfl,_,none,by rw [← hp0],⟨by omega,by omega,.inr ⟨by omega,by omega⟩⟩⟩ (λ_ _ _ _ _=>True.intro) ?_ ?_
  ·rintro i x τ G' nx hx ⟨rfl,pl,y,rfl,P⟩ hn;simp only [gn3,qY,tb3,o3,cb3,qb,v3,set_cons_succ,set_cons_zero,length_cons,length_nil,Nat.zero_add,Nat.reduceAdd,Nat.reduceLT,getElem?_pos,getElem_cons_succ,getElem_cons_zero,qg,c3,iB,decide_eq_true_eq,qJ,za,qt];refine ⟨1+b,pl,rfl,by omega,by have:=P.lo;omega,?_⟩;simp;split
   ·exact hn _ _ ⟨rfl,_,_,rfl,P.next (by omega) (by omega) (by omega)⟩
   ·exact hn _ _ ⟨rfl,_,_,rfl,P.stay (by omega) (by omega) (by omega)⟩
  ·rintro τ G' ⟨rfl,pl,x,rfl,P⟩;simp only [qH,qP,qb,c3,v3,length_cons,length_nil,Nat.zero_add,Nat.reduceAdd,Nat.reduceLT,getElem?_pos,getElem_cons_succ,getElem_cons_zero,qg,sizeLine_eq,Nat.reduceLeDiff,true_and];rw [QL] at P;have lo:=P.lo;have hi:=P.hi;have m1:(1+b)*-(-(1+r)*(1+c)/(1+b))<=(1+b)*pl:=Int.mul_le_mul_of_nonneg_left (by omega) (by omega);exact h (.rests (1+r) (1+c) (1+b) pl) G' ⟨⟨by omega,by omega,by omega,by omega,by omega,by omega,by omega,by omega,P.done (by omega) (by omega),by omega⟩,by show 1+r<=4;omega,by show 1+c<=4;omega,by show 1+b<=5;omega⟩ rfl (L5.mono (by omega)) (EE.trans E5)
 ·simp only [qY,tb3,o3,v3,c3,zL,zt,getElem?_cons_zero,getElem?_cons_succ,k2,decide_false,Bool.false_eq_true,if_false,qt];rw [q5];simp only [qv,qJ,lc3,zz,qb,v3,length_cons,length_nil,Nat.zero_add,Nat.reduceAdd,Nat.reduceLT,getElem?_pos,getElem_cons_succ,getElem_cons_zero,qg,Int.reducePow,Int.reduceNeg,gn3,qH,qP,c3,set_cons_succ,set_cons_zero,cb3,Nat.lt_add_one,q0,sizeLine_eq,Nat.reduceLeDiff,true_and,zG,cap,map_cons,Nat.zero_lt_succ,Option.join_some,List.map_nil];refine ⟨⟨by omega,by omega⟩,KJ L4 (by omega) (by omega) (by omega) (by omega) (by omega) (by omega) (by omega) λcells G5 p C L5 E5 hp=>?_⟩;obtain ⟨ok,eR,eC⟩:=C.ok (by omega) (by omega) (by omega) (by omega) (by omega) (by omega);simp only [qq];exact h (.table (1+b) cells) _ ⟨ok,by omega,by omega,by show 1+b<=5;omega⟩ rfl ((L5.new (L5.ne hp)).mono (by omega)) (EE.trans (E5.trans (zj hp)))
def UQ:Sp3:=λts G q=>∃ a n,ts=[.ref a]/\Lf G a n/\n<10000000/\∀ (b:Int) cells r c G',Cells cells r c b->Dr (.table b cells) 16 16 32->(Dl.table b cells).R=r->(Dl.table b cells).C=c->Lf G' a (n+300)->Ext a G G'->q (Dl.table b cells).t G'
def C4:∀ ts G q,UQ ts G q->ts.length=1/\ZB QH qA (SO q) (qk ["_law_left_here","_law_rows","_law_columns","_law_banks","_law_cells"] ts) G:=by
 rintro ts G q ⟨a,n,rfl,hL,hn,h⟩;refine ⟨rfl,?_⟩;simp only [ZB,qv,qJ,cb3,qb,v3,qk,map_cons,List.map_nil,length_cons,length_nil,Nat.zero_add,Nat.reduceAdd,Nat.add_one_sub_one,List.reduceReplicate,cons_append,List.nil_append,Nat.zero_lt_succ,getElem?_pos,getElem_cons_zero,qg,zl,qp,gn3,zn,o3,c3,set_cons_succ,set_cons_zero,ja,sizeLine_eq,Nat.reduceLeDiff,za,ne_eq,qH,qP,Nat.reduceLT,getElem_cons_succ,Nat.lt_add_one,q0,true_and,zG];refine ⟨a,n,rfl,hL,by omega,λr c G1 r1 r2 c1 c2 L1 E1=>?_⟩;simp;intro p hp;have hpa:=L1.ne hp;refine qD (L1.new hpa) (by omega) (by omega) (by omega) λd G2 d1 d2 L2' E2=>?_;have g2:=E2 p _ hpa qq;obtain ⟨w,hw,w',rfl,w1,w2⟩:=qm4 d1 d2 (P:=λt=>∃ w,t=T.int w/\1<=w/\w<=32) ⟨4,rfl,by omega,by omega⟩ ⟨9,rfl,by omega,by omega⟩ ⟨32,rfl,by omega,by omega⟩;simp only [ixR,zG,g2,hw];refine qD L2' w1 (by omega) (by omega) λb G3 b1 b2 L3' E3=>?_;simp only [lc3,zz,qb,v3,length_cons,length_nil,Nat.zero_add,Nat.reduceAdd,Nat.reduceLT,getElem?_pos,getElem_cons_succ,getElem_cons_zero,qg,Int.reducePow,Int.reduceNeg,cap,map_cons,Nat.zero_lt_succ,Option.join_some,List.map_nil];refine ⟨⟨by omega,by omega⟩,KJ L3' (by omega) (by omega) (by omega) (by omega) (by omega) (by omega) (by omega) λcells G5 p C L5 E5 hp5=>?_⟩;obtain ⟨ok,eR,eC⟩:=C.ok (by omega) (by omega) (by omega) (by omega) (by omega) (by omega);simp only [qq];exact h (1+b) cells r c _ C ⟨ok,by omega,by omega,by show 1+b<=32;omega⟩ eR eC ((L5.new (L5.ne hp5)).mono (by omega)) (E1.trans (((zj hp).trans E2).trans (E3.trans (E5.trans (zj hp5)))))
def TV {a b x y:Int} (h0:1<=a) (h1:a<=x) (h2:1<=b) (h3:b<=y):a*b<=x*y:=Int.mul_le_mul h1 h3 (by omega) (by omega)
def Dr.join {d e:Dl} {r c b r' c' b':Int} (D:Dr d r c b) (E:Dr e r' c' b') (h1:r*r'<=4096) (h2:c*c'<=4096) (h3:b*b'<=4096):Dr (.joined d e) (r*r') (c*c') (b*b'):=by
 have Ld:=Dl.lims D.ok;have Le:=Dl.lims E.ok;have a1:=TV Ld.r1 D.r2 Le.r1 E.r2;have a2:=TV Ld.c1 D.c2 Le.c1 E.c2;have a3:=TV Ld.b1 D.b2 Le.b1 E.b2;exact ⟨⟨D.ok,E.ok,by omega,by omega,by omega⟩,a1,a2,a3⟩
def Dr.mono {d:Dl} {r c b r' c' b':Int} (D:Dr d r c b) (h1:r<=r') (h2:c<=c') (h3:b<=b'):Dr d r' c' b':=⟨D.ok,by have:=D.r2;omega,by have:=D.c2;omega,by have:=D.b2;omega⟩
def jr:Sp3:=λts G q=>∃ a n,ts=[.ref a]/\Lf G a n/\n<1000000/\∀ (d:Dl) G',Dr d 16 16 32->d.dep<=2->Lf G' a (n+1000)->Ext a G G'->q d.t G'
def qbt {x:Int} (h0:0<=x) (h1:x<2):Dr (.joined (.skew (1+x) 1 2 1 1) (.table 2 [[1,0]])) 2 2 4:=by
 have a:Dr (.skew (1+x) 1 2 1 1) 2 1 2:=⟨⟨by omega,by omega,by omega,by omega,by omega,by omega,by omega,by omega,by omega,by omega⟩,by show 1+x<=2;omega,Int.le_refl 1,Int.le_refl 2⟩
 have b:Dr (.table 2 [[1,0]]) 1 2 2:=⟨⟨by decide,by decide,by decide,by decide,2,by decide,by decide,by simp⟩,by decide,by decide,by decide⟩
 exact (a.join b (by decide) (by decide) (by decide)).mono (by decide) (by decide) (by decide)
def qpO:Dr (.joined (.skew 8 1 3 1 1) (.rests 2 16 5 7)) 16 16 15:=by
 have a:Dr (.skew 8 1 3 1 1) 8 1 3:=⟨⟨by decide,by decide,by decide,by decide,by decide,by decide,by decide,by decide,by decide,by decide⟩,by decide,by decide,by decide⟩
 have b:Dr (.rests 2 16 5 7) 2 16 5:=⟨⟨by decide,by decide,by decide,by decide,by decide,by decide,by decide,by decide,by decide,by decide⟩,by decide,by decide,by decide⟩
 exact (a.join b (by decide) (by decide) (by decide)).mono (by decide) (by decide) (by decide)
def qpn:Dr (.joined (.rests 1 8 3 4) (.skew 16 2 5 2 1)) 16 16 15:=by
 have a:Dr (.rests 1 8 3 4) 1 8 3:=⟨⟨by decide,by decide,by decide,by decide,by decide,by decide,by decide,by decide,by decide,by decide⟩,by decide,by decide,by decide⟩
 have b:Dr (.skew 16 2 5 2 1) 16 2 5:=⟨⟨by decide,by decide,by decide,by decide,by decide,by decide,by decide,by decide,by decide,by decide⟩,by decide,by decide,by decide⟩
 exact (a.join b (by decide) (by decide) (by decide)).mono (by decide) (by decide) (by decide)
def WI:∀ ts G q,jr ts G q->ts.length=1/\jO qA EC UU EQ UQ UW (SO q) (qk ["_law_left_here","_law_way","_law_inner","_law_some"] ts) G:=by
 rintro ts G q ⟨a,n,rfl,hL,hn,h⟩;refine ⟨rfl,?_⟩;unfold jO;refine zN λnx1 q1=>?_;simp only [qJ,cb3,qb,v3,qk,map_cons,List.map_nil,length_cons,length_nil,Nat.zero_add,Nat.reduceAdd,Nat.add_one_sub_one,List.reduceReplicate,cons_append,List.nil_append,Nat.zero_lt_succ,getElem?_pos,getElem_cons_zero,c3,qg,gn3,set_cons_succ,set_cons_zero];refine qD hL (by omega) (by omega) (by omega) λw G1 w1 w2 L1 E1=>?_
 try simp
 rw [q1];clear q1;refine zN λnx2 q2=>?_;by_cases k0:w<2
 ·simp only [qY,tb3,o3,v3,length_cons,length_nil,Nat.zero_add,Nat.reduceAdd,Nat.reduceLT,getElem?_pos,getElem_cons_succ,getElem_cons_zero,c3,iB,k0,decide_true,↓reduceIte,qH,cb3,qb,Nat.zero_lt_succ,qg];exact ⟨a,n+1,rfl,L1,by omega,λr c b x y G2 D L2' E2=>h _ G2 D (Nat.zero_le _) (L2'.mono (by omega)) (E1.trans E2)⟩
 simp only [qY,tb3,o3,v3,c3,iB,getElem?_cons_zero,getElem?_cons_succ,k0,decide_false,Bool.false_eq_true,if_false,qt];rw [q2];clear q2;refine zN λnx3 q3=>?_;by_cases k1:w=2
 ·subst k1;simp only [qY,tb3,o3,v3,length_cons,length_nil,Nat.zero_add,Nat.reduceAdd,Nat.reduceLT,getElem?_pos,getElem_cons_succ,getElem_cons_zero,c3,zL,zt,decide_true,Bool.false_eq_true,↓reduceIte,qH,cb3,qb,Nat.zero_lt_succ,qg];exact ⟨a,n+1,rfl,L1,by omega,λr c b p G2 D L2' E2=>h _ G2 D (Nat.zero_le _) (L2'.mono (by omega)) (E1.trans E2)⟩
 simp only [qY,tb3,o3,v3,c3,zL,zt,getElem?_cons_zero,getElem?_cons_succ,k1,decide_false,Bool.false_eq_true,if_false,qt];rw [q3];clear q3;refine zN λnx4 q4=>?_;by_cases k2:w=3
 ·subst k2;simp only [qY,tb3,o3,v3,length_cons,length_nil,Nat.zero_add,Nat.reduceAdd,Nat.reduceLT,getElem?_pos,getElem_cons_succ,getElem_cons_zero,c3,zL,zt,decide_true,Bool.false_eq_true,↓reduceIte,qH,cb3,qb,Nat.zero_lt_succ,qg];refine ⟨a,n+1,4,rfl,L1,by omega,by omega,by omega,λhh l ms G2 h1 h2 ok L2' E2=>h _ G2 ⟨ok,?_,?_,?_⟩ (Nat.zero_le _) (L2'.mono (by omega)) (E1.trans E2)⟩
  ·have:=X0 (n:=hh) (k:=4) (by omega);show (2:Int) ^ hh<=16;omega
  ·have:=X0 (n:=l) (k:=4) (by omega);show (2:Int) ^ l<=16;omega
  ·have:=X0 ok.2.2.1;show (2:Int) ^ ms.length<=32;omega
 simp only [qY,tb3,o3,v3,c3,zL,zt,getElem?_cons_zero,getElem?_cons_succ,k2,decide_false,Bool.false_eq_true,if_false,qt];rw [q4];clear q4;refine zN λnx5 q5=>?_;by_cases k3:w=4
 ·subst k3;simp only [qY,tb3,o3,v3,length_cons,length_nil,Nat.zero_add,Nat.reduceAdd,Nat.reduceLT,getElem?_pos,getElem_cons_succ,getElem_cons_zero,c3,zL,zt,decide_true,Bool.false_eq_true,↓reduceIte,qH,cb3,qb,Nat.zero_lt_succ,qg];exact ⟨a,n+1,rfl,L1,by omega,λb cells r c G2 C D eR eC L2' E2=>h _ G2 D (Nat.zero_le _) (L2'.mono (by omega)) (E1.trans E2)⟩
 simp only [qY,tb3,o3,v3,c3,zL,zt,getElem?_cons_zero,getElem?_cons_succ,k3,decide_false,Bool.false_eq_true,if_false,qt];rw [q5];clear q5;refine zN λnx6 q6=>?_;by_cases k4:w=5
 ·subst k4;simp only [qY,tb3,o3,v3,length_cons,length_nil,Nat.zero_add,Nat.reduceAdd,Nat.reduceLT,getElem?_pos,getElem_cons_succ,getElem_cons_zero,c3,zL,zt,decide_true,Bool.false_eq_true,↓reduceIte,qv,qJ,qP,qb,cb3,Nat.zero_lt_succ,qg,za,ne_eq,sizeLine_eq,Nat.reduceLeDiff,gn3,ja,set_cons_succ,set_cons_zero,zZ,bm3,Nat.lt_add_one,zG,gu,Option.isSome_some,EU,cons_append,List.nil_append,qH,true_and];refine qD L1 (by omega) (by omega) (by omega) λx G2 x1 x2 L2' E2=>?_;have I:=qbt x1 x2
  try simp
  refine ⟨a,n+1+1,rfl,L2',by omega,λd G3 Dd dd L3' E3=>?_⟩
  try simp
  refine ⟨a,n+1+1+300,rfl,L3',by omega,λe G4 De de L4 E4=>?_⟩
  try simp
  intro p hp;have hpa:=L4.ne hp;refine qD (((L4.new hpa).new hpa).new hpa) (by omega) (by omega) (by omega) λk G5 k1 k2 L5 E5=>?_;have g5:=E5 p _ hpa qq;have EE:Ext a G G5:=(E1.trans E2).trans ((E3.trans E4).trans (Ext.trans (λb o hb e=>by
   have hbp:b≠p:=by rintro rfl;rw [hp] at e;cases e
   rw [zS hbp,zS hbp,zS hbp];exact e) E5))
  have P1:∃ d':Dl,(Dl.joined (.joined (.skew (1+x) 1 2 1 1) (.table 2 [[1,0]])) d).t=d'.t/\Dr d' 16 16 32/\d'.dep<=2:=⟨_,rfl,(I.join Dd (by decide) (by decide) (by decide)).mono (by decide) (by decide) (by decide),by simp [Dl.dep,dd]⟩
  have P2:∃ d':Dl,(Dl.joined e (.joined (.skew (1+x) 1 2 1 1) (.table 2 [[1,0]]))).t=d'.t/\Dr d' 16 16 32/\d'.dep<=2:=⟨_,rfl,(De.join I (by decide) (by decide) (by decide)).mono (by decide) (by decide) (by decide),by simp [Dl.dep,de]⟩
  have P3:∃ d':Dl,(Dl.joined (.skew 8 1 3 1 1) (.rests 2 16 5 7)).t=d'.t/\Dr d' 16 16 32/\d'.dep<=2:=⟨_,rfl,qpO.mono (by decide) (by decide) (by decide),by simp [Dl.dep]⟩
  have P4:∃ d':Dl,(Dl.joined (.rests 1 8 3 4) (.skew 16 2 5 2 1)).t=d'.t/\Dr d' 16 16 32/\d'.dep<=2:=⟨_,rfl,qpn.mono (by decide) (by decide) (by decide),by simp [Dl.dep]⟩
  obtain ⟨t,ht,d',rfl,D',dl⟩:=qmh k1 k2 (P:=λt=>∃ d':Dl,t=d'.t/\Dr d' 16 16 32/\d'.dep<=2) P1 P2 P3 P4;have hg:zG G5 p=some [(Dl.joined (.joined (.skew (1+x) 1 2 1 1) (.table 2 [[1,0]])) d).t,(Dl.joined e (.joined (.skew (1+x) 1 2 1 1) (.table 2 [[1,0]]))).t,(Dl.joined (.skew 8 1 3 1 1) (.rests 2 16 5 7)).t,(Dl.joined (.rests 1 8 3 4) (.skew 16 2 5 2 1)).t]:=by
   unfold zG;rw [g5];rfl
  rw [L3.ixR,hg];simp only [ht];exact h d' G5 D' dl (L5.mono (by omega)) EE
 ·simp only [qY,tb3,o3,v3,c3,zL,zt,getElem?_cons_zero,getElem?_cons_succ,k4,decide_false,Bool.false_eq_true,if_false,qt];rw [q6];simp only [qH,qP,qb,c3,cb3,v3,length_cons,length_nil,Nat.zero_add,Nat.reduceAdd,Nat.zero_lt_succ,getElem?_pos,getElem_cons_zero,qg,sizeLine_eq,Nat.reduceLeDiff,true_and];refine ⟨a,n+1,rfl,L1,by omega,λd G3 Dd dd L3' E3=>?_⟩;refine ⟨a,n+1+300,rfl,L3',by omega,λe G4 De de L4 E4=>?_⟩
  try simp
  exact h (.joined d e) G4 ((Dd.join De (by decide) (by decide) (by decide)).mono (by decide) (by decide) (by decide)) (by simp [Dl.dep];omega) (L4.mono (by omega)) (E1.trans (E3.trans E4))
def _root_.L3.Dps.append {G:Gp}:∀ {xs ys:List T} {ds es:List PyData},Dps G xs ds->Dps G ys es->Dps G (xs++ys) (ds++es)
 |_,_,_,_,.nil,b=>b
 |_,_,_,_,.cons a t,b=>.cons a (L3.Dps.append t b)
def _root_.L3.Dps.take {G:Gp}:∀ {xs:List T} {ds:List PyData} (i:Nat),Dps G xs ds->Dps G (xs.take i) (ds.take i)
 |_,_,0,_=>.nil
 |_,_,_+1,.nil=>.nil
 |_,_,i+1,.cons a t=>.cons a (L3.Dps.take i t)
def _root_.L3.Dps.drop {G:Gp}:∀ {xs:List T} {ds:List PyData} (i:Nat),Dps G xs ds->Dps G (xs.drop i) (ds.drop i)
 |_,_,0,h=>h
 |_,_,_+1,.nil=>.nil
 |_,_,i+1,.cons a t=>L3.Dps.drop i t
def U7:TS3:=(qH (lc3 (zz (qb (v3 2) qg)) (gn3 0) tt3 (qP (qb (o3 (iC JD (·*·)) (v3 0) (v3 1)) (qb (o3 (iC JD (·*·)) (v3 0) (v3 2)) qg))) [none,some 0,some 1]))
def JS (S_strung:Sp3):TS3:=(qv (qJ (o3 ix3 (v3 0) (c3 (.int 0))) (gn3 1)) (qv (qY (tb3 (o3 (zL false) (v3 1) (c3 (.str "cells")))) (qH (cb3 QM (qb (o3 ix3 (v3 0) (c3 (.int 1))) qg))) qt) (qv (qY (tb3 (o3 (zL false) (v3 1) (c3 (.str "block")))) (qH (ql7 (zz (qb (o3 ix3 (v3 0) (c3 (.int 1))) qg)) (gn3 0) tt3 (zz (qb (o3 ix3 (v3 2) (c3 (.int 2))) qg)) (gn3 1) tt3 (qP (qb (v3 0) (qb (v3 1) qg))) [none,none,some 0])) qt) (qv (qY (tb3 (o3 (zL false) (v3 1) (c3 (.str "step")))) (qH (cb3 S_strung (qb (o3 ix3 (v3 0) (c3 (.int 1))) (qb (o3 ix3 (v3 0) (c3 (.int 2))) (qb (o3 ix3 (v3 0) (c3 (.int 3))) qg))))) qt) (qv (qJ (qci VB (v3 1)) (zl 2 (qp (gn3 2) (qp (gn3 3) zn)))) (qH (cb3 S_strung (qb (v3 2) (qb (v3 3) (qb (o3 ix3 (v3 0) (c3 (.int 1))) qg))))))))))
def JT (S_law_pick:Sp3):TS3:=(qH (o3 za (c3 (.int 1)) (cb3 S_law_pick (qb (v3 0) (qb (o3 ix3 (ja (qb (c3 (.int 5)) (qb (c3 (.int 5)) (qb (c3 (.int 5)) (qb (c3 (.int 5)) (qb (c3 (.int 5)) (qb (c3 (.int 5)) (qb (c3 (.int 8)) (qb (c3 (.int 16)) qg))))))))) (cb3 S_law_pick (qb (v3 0) (qb (c3 (.int 8)) qg)))) qg)))))
def J3 (S_law_pick:Sp3) (S_law_many:Sp3):TS3:=(qv (qJ (cb3 S_law_pick (qb (v3 0) (qb (c3 (.int 9)) qg))) (gn3 1)) (qv (qY (tb3 (o3 (iB λi j=>decide (i<j)) (v3 1) (c3 (.int 4)))) (qH (qP (qb (o3 ix3 (ja (qb (c3 (.str "row")) (qb (c3 (.str "column")) (qb (c3 (.str "slant")) (qb (c3 (.str "back")) qg))))) (v3 1)) (qb (cb3 S_law_many (qb (v3 0) qg)) qg)))) qt) (qv (qY (tb3 (o3 (iB λi j=>decide (i<j)) (v3 1) (c3 (.int 6)))) (qv (QS 2 3 (qb (cb3 S_law_pick (qb (v3 0) (qb (c3 (.int 2)) qg))) (qb (o3 za (c3 (.int 1)) (cb3 S_law_pick (qb (v3 0) (qb (c3 (.int 4)) qg)))) qg))) (qv (qJ (o3 za (c3 (.int 1)) (cb3 S_law_pick (qb (v3 0) (qb (o3 (iC qcJ (·/·)) (c3 (.int 16)) (v3 3)) qg)))) (gn3 4)) (qH (o3 ix3 (ja (qb (qP (qb (c3 (.str "block")) (qb (v3 3) (qb (v3 4) qg)))) (qb (qP (qb (c3 (.str "block")) (qb (v3 4) (qb (v3 3) qg)))) qg))) (v3 2))))) qt) (qv (qY (tb3 (o3 (iB λi j=>decide (i<j)) (v3 1) (c3 (.int 8)))) (qv (QS 5 6 (qb (o3 (iI (·-·)) (cb3 S_law_pick (qb (v3 0) (qb (c3 (.int 7)) qg))) (c3 (.int 3))) (qb (o3 (iI (·-·)) (cb3 S_law_pick (qb (v3 0) (qb (c3 (.int 9)) qg))) (c3 (.int 4))) qg))) (qv (qY (tb3 (o3 (zL false) (cb3 S_law_pick (qb (v3 0) (qb (c3 (.int 6)) qg))) (c3 (.int 0)))) (qH (qP (qb (c3 (.str "step")) (qb (o3 (iC JD (·*·)) (c3 (.int 5)) (v3 5)) (qb (o3 za (o3 (iC JD (·*·)) (c3 (.int 3)) (v3 6)) (cb3 UV (qb (zT (o3 (zL false) (v3 5) (c3 (.int 0))) (o3 (zL false) (v3 6) (c3 (.int 0)))) qg))) (qb (o3 za (c3 (.int 1)) (cb3 S_law_pick (qb (v3 0) (qb (c3 (.int 4)) qg)))) qg)))))) qt) (qH (qP (qb (c3 (.str "step")) (qb (v3 5) (qb (o3 za (v3 6) (cb3 UV (qb (zT (o3 (zL false) (v3 5) (c3 (.int 0))) (o3 (zL false) (v3 6) (c3 (.int 0)))) qg))) (qb (cb3 S_law_many (qb (v3 0) qg)) qg)))))))) qt) (qv (QS 7 8 (qb (ja qg) (qb (o3 za (c3 (.int 1)) (o3 (iC JD (·*·)) (c3 (.int 4)) (cb3 UV (qb (o3 (zL false) (cb3 S_law_pick (qb (v3 0) (qb (c3 (.int 5)) qg))) (c3 (.int 0))) qg)))) qg))) (qv (WF (zz (qb (cb3 S_law_many (qb (v3 0) qg)) qg)) (gn3 9) (qv (qJ (qP (qb (o3 (iC JD (·*·)) (v3 8) (o3 (iI (·-·)) (cb3 S_law_pick (qb (v3 0) (qb (c3 (.int 6)) qg))) (c3 (.int 2)))) (qb (o3 (iC JD (·*·)) (v3 8) (o3 (iI (·-·)) (cb3 S_law_pick (qb (v3 0) (qb (c3 (.int 6)) qg))) (c3 (.int 2)))) qg))) (gn3 10)) (qY (tb3 (o3 (qfU true) (v3 10) (v3 7))) (zZ (bm3 EU (v3 7) (qb (v3 10) qg))) qt))) (qH (qP (qb (c3 (.str "cells")) (qb (cb3 q0 (qb (v3 7) qg)) qg))))))))))
def Q9:TS3:=(qv (qY (tb3 (o3 (zL false) (o3 ix3 (v3 0) (c3 (.int 0))) (c3 (.str "cells")))) (qH (cb3 QM (qb (o3 ix3 (v3 0) (c3 (.int 1))) qg))) qt) (qv (qY (tb3 (o3 (zL false) (o3 ix3 (v3 0) (c3 (.int 0))) (c3 (.str "block")))) (qv (qJ (ja qg) (gn3 1)) (qv (WF (zz (qb (o3 ix3 (v3 0) (c3 (.int 1))) qg)) (gn3 2) (zZ (bm3 DM (v3 1) (qb (lc3 (zz (qb (o3 ix3 (v3 0) (c3 (.int 2))) qg)) (gn3 0) tt3 (qP (qb (v3 1) (qb (v3 0) qg))) [none,some 2]) qg)))) (qH (v3 1)))) qt) (qv (qJ (qfK ["row","column","slant","back","step"] (qb (qP (qb (c3 (.int 0)) (qb (c3 (.int 1)) qg))) (qb (qP (qb (c3 (.int 1)) (qb (c3 (.int 0)) qg))) (qb (qP (qb (c3 (.int 1)) (qb (c3 (.int 1)) qg))) (qb (qP (qb (c3 (.int 1)) (qb (u3 JP (c3 (.int 1))) qg))) (qb (D6 (v3 0) (sp3 (c3 (.int 1))) (sp3 (c3 (.int 3)))) qg))))) (o3 ix3 (v3 0) (c3 (.int 0)))) (zl 2 (qp (gn3 3) (qp (gn3 4) zn)))) (qH (lc3 (zz (qb (o3 ix3 (v3 0) (u3 JP (c3 (.int 1)))) qg)) (gn3 0) tt3 (qP (qb (o3 (iC JD (·*·)) (v3 0) (v3 1)) (qb (o3 (iC JD (·*·)) (v3 0) (v3 2)) qg))) [none,some 3,some 4])))))
def VE (S_cells_of:Sp3):TS3:=(qH (lc3 (QP (cb3 S_cells_of (qb (v3 0) qg))) (zl 2 (qp (gn3 0) (qp (gn3 1) zn))) tt3 (qP (qb (o3 za (o3 ix3 (v3 2) (c3 (.int 0))) (v3 0)) (qb (o3 za (o3 ix3 (v3 2) (c3 (.int 1))) (v3 1)) qg))) [none,none,some 1]))
def JZ (S_shifted:Sp3) (S_is_word:Sp3) (S_is_pair:Sp3):TS3:=(qH (zT (cb3 S_is_pair (qb (v3 2) qg)) (cb3 WM (qb (lc3 (QP (cb3 S_shifted (qb (v3 1) (qb (v3 2) qg)))) (gn3 0) tt3 (cb3 S_is_word (qb (v3 1) (qb (v3 0) qg))) [none,some 0]) qg))))
def J2 (S_is_start:Sp3) (S_shifted:Sp3):TS3:=(qv (qY (UT (tb3 (cb3 S_is_start (qb (v3 0) (qb (v3 1) (qb (v3 2) qg)))))) WL qt) (qH (cb3 S_shifted (qb (v3 1) (qb (v3 2) qg)))))
def QG (S_law_size:Sp3) (S_law_cells:Sp3):TS3:=(qv (qJ (cb3 S_law_size (qb (v3 0) qg)) (zl 3 (qp (gn3 2) (qp (gn3 3) (qp (gn3 4) zn))))) (qv (qJ (cb3 S_law_cells (qb (v3 1) qg)) (gn3 5)) (qv (QS 6 7 (qb (lc3 (QP (v3 5)) (zl 2 (qp (gn3 0) (qp (gn3 1) zn))) tt3 (v3 0) [none,none]) (qb (lc3 (QP (v3 5)) (zl 2 (qp (gn3 0) (qp (gn3 1) zn))) tt3 (v3 1) [none,none]) qg))) (qv (qJ (ja qg) (gn3 8)) (qv (WF (zz (qb (u3 JP (cb3 MF (qb (v3 6) qg))) (qb (o3 (iI (·-·)) (v3 2) (cb3 MH (qb (v3 6) qg))) qg))) (gn3 9) (zZ (bm3 DM (v3 8) (qb (lc3 (zz (qb (u3 JP (cb3 MF (qb (v3 7) qg))) (qb (o3 (iI (·-·)) (v3 3) (cb3 MH (qb (v3 7) qg))) qg))) (gn3 0) tt3 (qP (qb (v3 1) (qb (v3 0) qg))) [none,some 9]) qg)))) (qH (v3 8)))))))
def Q8 {G:Gp} {p:Addr} {xs:List T} (h:G p=some (.lst xs)):zG G p=some xs:=by unfold zG;rw [h]
def qf8 {xs:List T} {d:Int} (h0:0<=d) (h1:d<(xs.length:Int)):∃ z,L2.atI xs d=some z/\z∈xs:=by
 rw [U6 h0 h1];have:d.toNat<xs.length:=by omega
 exact ⟨xs[d.toNat],getElem?_eq_getElem this,List.getElem_mem this⟩
inductive Wk where
 |line (k m:Nat)
 |block (h w:Nat)
 |step (d a:Int) (m:Nat)
 |cells (ps:List (Int×Int))
def VW:Nat->Str
 |0=>"row" |1=>"column" |2=>"slant" |_=>"back"
def lnD:Nat->Int
 |0=>0|_=>1
def lnA:Nat->Int
 |0=>1|1=>0|2=>1|_=>-1
def pT (p:Int×Int):T:=.tup [.int p.1,.int p.2]
def Wk.t:Wk->T
 |.line k m=>.tup [.str (VW k),.int m]
 |.block h w=>.tup [.str "block",.int h,.int w]
 |.step d a m=>.tup [.str "step",.int d,.int a,.int m]
 |.cells ps=>.tup [.str "cells",.tup (ps.map pT)]
def jF (d a:Int) (m:Nat):List (Int×Int):=(List.range m).map λ(t:Nat)=>((t:Int)*d,(t:Int)*a)
def ji (h w:Nat):List (Int×Int):=(List.range h).flatMap λ(p:Nat)=>(List.range w).map λ(q:Nat)=>((p:Int),(q:Int))
def Wk.pc:Wk->List (Int×Int)
 |.line k m=>jF (lnD k) (lnA k) m
 |.block h w=>ji h w
 |.step d a m=>jF d a m
 |.cells ps=>ps
def Wk.Ok:Wk->Prop
 |.line k m=>k<4/\1<=m/\m<=16
 |.block h w=>1<=h/\1<=w/\h<=16/\w<=16/\h*w<=16
 |.step d a m=>(-16<=d/\d<=16)/\(-16<=a/\a<=16)/\1<=m/\m<=16
 |.cells ps=>1<=ps.length/\ps.length<=16/\ps.Nodup/\∀ p∈ps,(-16<=p.1/\p.1<=16)/\(-16<=p.2/\p.2<=16)
def W7 (h w:Nat):ji (h+1) w=ji h w++(List.range w).map λ(q:Nat)=>((h:Int),(q:Int)):=by
 simp [ji,List.range_succ]
def VL (h w:Nat):(ji h w).length=h*w:=by
 induction h with
 |zero=>simp [ji]
 |succ h ih=>rw [W7,length_append,ih,length_map,length_range,Nat.succ_mul]
def qaT {w:Wk} (ok:w.Ok):1<=w.pc.length/\w.pc.length<=16:=by
 cases w with
 |line k m=>simp only [Wk.pc,jF,length_map,length_range];exact ok.2
 |block h v=>
  obtain ⟨h1,h2,h3,h4,h5⟩:=ok;simp only [Wk.pc,VL];exact ⟨Nat.mul_le_mul h1 h2,h5⟩
 |step d a m=>simp only [Wk.pc,jF,length_map,length_range];exact ok.2.2
 |cells ps=>exact ⟨ok.1,ok.2.1⟩
def YJ:Sp3:=λts G q=>∃ a n,ts=[.ref a]/\Lf G a n/\n<10000000/\∀ (m:Nat) G',1<=m->m<=16->Lf G' a (n+2)->Ext a G G'->q (.int m) G'
def SW:∀ ts G q,YJ ts G q->ts.length=1/\JT qA (SO q) (qk ["_law_left_here"] ts) G:=by
 rintro ts G q ⟨a,n,rfl,hL,hn,h⟩;refine ⟨rfl,?_⟩;simp only [JT,qH,o3,c3,cb3,qb,v3,qk,map_cons,List.map_nil,length_cons,length_nil,Nat.zero_add,Nat.sub_self,List.replicate_zero,List.append_nil,Nat.lt_add_one,getElem?_pos,getElem_cons_zero,ja,qg,Nat.reduceAdd,sizeLine_eq,Nat.reduceLeDiff,za,ne_eq,true_and];intro p hp;have np:=hL.ne hp;refine qD (hL.new np) (by omega) (by omega) (by omega) λd G1 d0 d1 L1 E1=>?_;have g:=Q8 (E1 _ _ np qq);obtain ⟨z,hz,hm⟩:=qf8 (xs:=[T.int 5,.int 5,.int 5,.int 5,.int 5,.int 5,.int 8,.int 16]) d0 (by simpa using d1);simp only [L3.ixR,g,hz];have:∃ k:Int,z=.int k/\1<=k/\k<=16:=by
  simp only [mem_cons,not_mem_nil,or_false] at hm;rcases hm with rfl|rfl|rfl|rfl|rfl|rfl|rfl|rfl<;>exact ⟨_,rfl,by omega,by omega⟩
 obtain ⟨k,rfl,k1,k2⟩:=this;refine qD L1 (by omega) (by omega) (by omega) λe G2 e0 e1 L2' E2=>?_;simp;obtain ⟨e',rfl⟩:=Int.eq_ofNat_of_zero_le e0;have:=h (e'+1) G2 (by omega) (by omega) (L2'.mono (by omega)) ((zj hp).trans (E1.trans E2));rw [show (1:Int)+(e':Int)=((e'+1:Nat):Int) by omega];exact this
def pD (p:Int×Int):PyData:=.tuple [.int p.1,.int p.2]
def qks (G:Gp) (p:Int×Int):Dp G (pT p) (pD p):=.tup (.cons (.int _) (.cons (.int _) .nil))
def qd7 (G:Gp):∀ ps:List (Int×Int),Dps G (ps.map pT) (ps.map pD)
 |[]=>.nil
 |p::ps=>.cons (qks G p) (qd7 G ps)
def qnv (p r:Int×Int):zH (pD p) (pD r)=some (decide (p=r)):=by
 obtain ⟨a,b⟩:=p;obtain ⟨c,d⟩:=r;simp only [pD,zH,QJ];by_cases h:a=c<;>by_cases h':b=d<;>simp [h,h']
def pIn (r:Int×Int):∀ ps:List (Int×Int),CU (pD r) (ps.map pD)=some (decide (r∈ps))
 |[]=>by simp [CU]
 |p::ps=>by
  simp only [map_cons,CU,qnv,pIn r ps];by_cases h:p=r
  ·subst h;simp
  ·have h':¬ r=p:=λz=>h z.symm;simp [h,h']
def qhM (p:Int×Int):dpt (pD p)<=40:=by simp [pD,dpt,CT]
def ZF:Sp3:=λts G q=>∃ a n,ts=[.ref a]/\Lf G a n/\n<1000000/\∀ (w:Wk) G',w.Ok->Lf G' a (n+60)->Ext a G G'->q w.t G'
def TJ:∀ ts G q,ZF ts G q->ts.length=1/\J3 qA YJ (SO q) (qk ["_law_left_here","_law_way","_law_lying","_law_high","_law_wide","_law_down","_law_along","_law_pairs","_law_far","_law_turn","_law_pair"] ts) G:=by
 rintro ts G q ⟨a,n,rfl,hL,hn,h⟩;refine ⟨rfl,?_⟩;unfold J3;refine zN λnx1 q1=>?_;simp only [qJ,cb3,qb,v3,qk,map_cons,List.map_nil,length_cons,length_nil,Nat.zero_add,Nat.reduceAdd,Nat.add_one_sub_one,List.reduceReplicate,cons_append,List.nil_append,Nat.zero_lt_succ,getElem?_pos,getElem_cons_zero,c3,qg,gn3,set_cons_succ,set_cons_zero];refine qD hL (by omega) (by omega) (by omega) λway G1 w0 w1 L1 E1=>?_
 try simp
 rw [q1];clear q1;refine zN λnx2 q2=>?_;by_cases lt:way<4
 ·simp only [qY,tb3,o3,v3,length_cons,length_nil,Nat.zero_add,Nat.reduceAdd,Nat.reduceLT,getElem?_pos,getElem_cons_succ,getElem_cons_zero,c3,iB,lt,decide_true,↓reduceIte,qH,qP,qb,ja,qg,sizeLine_eq,Nat.reduceLeDiff,cb3,Nat.zero_lt_succ,true_and,ixR];intro p hp;have np:=L1.ne hp;have L3':=L1.new np (ob:=.lst [.str "row",.str "column",.str "slant",.str "back"]);obtain ⟨k,rfl⟩:=Int.eq_ofNat_of_zero_le w0;have hk:k<4:=by omega
  have e1:L2.atI [T.str (Str.ofString "row"),.str (Str.ofString "column"),.str (Str.ofString "slant"),.str (Str.ofString "back")] (k:Int)=some (.str (VW k)):=by
   rcases k with _|_|_|_|k
   ·rfl
   ·rfl
   ·rfl
   ·rfl
   ·omega
  simp only [L3.ixR,Q8 qq,e1];refine ⟨a,_,rfl,L3',by omega,λm G2 m1 m2 L4 E4=>?_⟩;exact h (.line k m) _ ⟨hk,m1,m2⟩ (L4.mono (by omega)) (E1.trans ((zj hp).trans E4))
 simp only [qY,tb3,o3,v3,c3,iB,getElem?_cons_zero,getElem?_cons_succ,lt,decide_false,Bool.false_eq_true,if_false,qt];rw [q2];clear q2;refine zN λnx3 q3=>?_;by_cases lt6:way<6
 ·simp only [qY,tb3,o3,v3,c3,iB,getElem?_cons_zero,getElem?_cons_succ,lt6,decide_true,if_true];refine zN λnx4 q4=>?_;simp only [QS,qb,cb3,v3,length_cons,length_nil,Nat.zero_add,Nat.reduceAdd,Nat.zero_lt_succ,getElem?_pos,getElem_cons_zero,c3,qg,o3,za,ne_eq,sizeLine_eq,set_cons_succ,set_cons_zero];refine qD L1 (by omega) (by omega) (by omega) λly G2 y0 y1 L2' E2=>?_
  try simp
  refine qD L2' (by omega) (by omega) (by omega) λhi G3 h0 h1 L3' E3=>?_
  try simp
  rw [q4];clear q4;obtain ⟨hh,rfl⟩:=Int.eq_ofNat_of_zero_le h0;refine zN λnx5 q5=>?_;simp only [qJ,o3,c3,cb3,qb,v3,length_cons,length_nil,Nat.zero_add,Nat.reduceAdd,Nat.zero_lt_succ,getElem?_pos,getElem_cons_zero,Nat.reduceLT,getElem_cons_succ,iC,qg,za,ne_eq,sizeLine_eq,gn3,set_cons_succ,set_cons_zero];have dv:1<=(16:Int)/(1+(hh:Int))/\(16:Int)/(1+(hh:Int))<=16:=by
   have:hh=0\/hh=1\/hh=2\/hh=3:=by omega
   rcases this with rfl|rfl|rfl|rfl<;>decide
  refine ⟨⟨by omega,by omega⟩,qD L3' (by omega) (by omega) (by omega) λwi G4 u0 u1 L4 E4=>?_⟩
  try simp
  rw [q5];clear q5;obtain ⟨ww,rfl⟩:=Int.eq_ofNat_of_zero_le u0;have pr:(hh+1)*(ww+1)<=16:=by
   have:hh=0\/hh=1\/hh=2\/hh=3:=by omega
   rcases this with rfl|rfl|rfl|rfl<;>simp at u1<;>omega
  simp only [qH,o3,ja,qb,qP,c3,v3,length_cons,length_nil,Nat.zero_add,Nat.reduceAdd,Nat.reduceLT,getElem?_pos,getElem_cons_succ,getElem_cons_zero,qg,sizeLine_eq,Nat.reduceLeDiff,ixR,true_and];intro p hp;have np:=L4.ne hp;have X4:=E1.trans (E2.trans (E3.trans E4));have z1:(1:Int)+(hh:Int)=((hh+1:Nat):Int):=by omega
  have z2:(1:Int)+(ww:Int)=((ww+1:Nat):Int):=by omega
  rw [z1,z2];have hl:ly=0\/ly=1:=by omega
  rcases hl with rfl|rfl
  ·simp only [L3.ixR,Q8 qq,ND];exact h (.block (hh+1) (ww+1)) _ ⟨by omega,by omega,by omega,by omega,pr⟩ ((L4.new np).mono (by omega)) (X4.trans (zj hp))
  ·simp only [L3.ixR,Q8 qq,qbw];exact h (.block (ww+1) (hh+1)) _ ⟨by omega,by omega,by omega,by omega,by rw [Nat.mul_comm];exact pr⟩ ((L4.new np).mono (by omega)) (X4.trans (zj hp))
 simp only [qY,tb3,o3,v3,c3,iB,getElem?_cons_zero,getElem?_cons_succ,lt6,decide_false,Bool.false_eq_true,if_false,qt];rw [q3];clear q3;refine zN λnx4 q4=>?_;by_cases lt8:way<8
 ·simp only [qY,tb3,o3,v3,c3,iB,getElem?_cons_zero,getElem?_cons_succ,lt8,decide_true,if_true];refine zN λnx5 q5=>?_;simp only [QS,qb,o3,cb3,v3,length_cons,length_nil,Nat.zero_add,Nat.reduceAdd,Nat.zero_lt_succ,getElem?_pos,getElem_cons_zero,c3,qg,iI,set_cons_succ,set_cons_zero];refine qD L1 (by omega) (by omega) (by omega) λd G2 d0 d1 L2' E2=>?_
  try simp
  refine qD L2' (by omega) (by omega) (by omega) λal G3 a0 a1 L3' E3=>?_
  try simp
  rw [q5];clear q5;obtain ⟨D,hD⟩:∃ D,D=d-3:=⟨_,rfl⟩
  obtain ⟨A,hA⟩:∃ A,A=al-4:=⟨_,rfl⟩
  rw [← hD,← hA];refine zN λnx6 q6=>?_;simp only [qY,tb3,o3,cb3,qb,v3,length_cons,length_nil,Nat.zero_add,Nat.reduceAdd,Nat.zero_lt_succ,getElem?_pos,getElem_cons_zero,c3,qg,zL,zt,Bool.false_eq_true,↓reduceIte,qH,qP,Nat.reduceLT,getElem_cons_succ,iC,zT,decide_eq_true_eq,UV,za,ne_eq,sizeLine_eq,Nat.reduceLeDiff,true_and,Int.add_zero,qt,exists_and_left,Bool.exists_bool];refine qD L3' (by omega) (by omega) (by omega) λsix G4 s0 s1 L4 E4=>?_;have X4:=E1.trans (E2.trans (E3.trans E4));by_cases k0:six=0
  ·subst k0;simp only [decide_true,↓reduceIte];refine ⟨cm (by omega) (by omega),cm (by omega) (by omega),?_⟩;have fin:∀ e:Int,0<=e->e<=1->qA [.ref a,.int 4] G4 λx G'=>(match T.int 1,x with|.int i,.int j=>q (.tup [.str (Str.ofString "step"),.int (5*D),.int (3*A+e),.int (i+j)]) G'|_,_=>False):=by
    intro e e0 e1;refine qD L4 (by omega) (by omega) (by omega) λm G5 m0 m1 L5 E5=>?_;obtain ⟨m',rfl⟩:=Int.eq_ofNat_of_zero_le m0;have:=h (.step (5*D) (3*A+e) (m'+1)) G5 ⟨⟨by omega,by omega⟩,⟨by omega,by omega⟩,by omega,by omega⟩ (L5.mono (by omega)) (X4.trans E5);simp only [Wk.t] at this;rw [show ((m'+1:Nat):Int)=1+(m':Int) by omega] at this;exact this
   by_cases hD0:D=0
   ·by_cases hA0:A=0
    ·have:=fin 1 (by omega) (by omega);simp only [hD0,Int.mul_zero,hA0,Int.zero_add,↓reduceIte] at this ⊢;exact this
    ·have:=fin 0 (by omega) (by omega);simp only [hD0,Int.mul_zero,Int.add_zero,↓reduceIte,hA0] at this ⊢;exact this
   ·have:=fin 0 (by omega) (by omega);simp only [Int.add_zero,hD0,↓reduceIte] at this ⊢;exact this
  ·simp [k0];rw [q6];clear q6;have fin:∀ e:Int,0<=e->e<=1->YJ [.ref a] G4 λx G'=>q (.tup [.str (Str.ofString "step"),.int D,.int (A+e),x]) G':=by
    intro e e0 e1;refine ⟨a,_,rfl,L4,by omega,λm G5 m0 m1 L5 E5=>?_⟩;exact h (.step D (A+e) m) G5 ⟨⟨by omega,by omega⟩,⟨by omega,by omega⟩,by omega,by omega⟩ (L5.mono (by omega)) (X4.trans E5)
   by_cases hD0:D=0
   ·by_cases hA0:A=0
    ·have:=fin 1 (by omega) (by omega);simp only [hD0,hA0,Int.zero_add,qH,qP,qb,c3,v3,length_cons,length_nil,Nat.zero_add,Nat.reduceAdd,Nat.reduceLT,getElem?_pos,getElem_cons_succ,getElem_cons_zero,o3,cb3,zT,zL,zt,decide_true,Bool.false_eq_true,↓reduceIte,qg,UV,za,Nat.zero_lt_succ,sizeLine_eq,Nat.reduceLeDiff,true_and] at this ⊢;exact this
    ·have:=fin 0 (by omega) (by omega);simp only [hD0,Int.add_zero,qH,qP,qb,c3,v3,length_cons,length_nil,Nat.zero_add,Nat.reduceAdd,Nat.reduceLT,getElem?_pos,getElem_cons_succ,getElem_cons_zero,o3,cb3,zT,zL,zt,decide_true,Bool.false_eq_true,↓reduceIte,hA0,decide_false,qg,UV,za,Nat.zero_lt_succ,sizeLine_eq,Nat.reduceLeDiff,true_and] at this ⊢;exact this
   ·have:=fin 0 (by omega) (by omega);simp only [Int.add_zero,qH,qP,qb,c3,v3,length_cons,length_nil,Nat.zero_add,Nat.reduceAdd,Nat.reduceLT,getElem?_pos,getElem_cons_succ,getElem_cons_zero,o3,cb3,zT,zL,zt,hD0,decide_false,Bool.false_eq_true,↓reduceIte,qg,UV,za,Nat.zero_lt_succ,sizeLine_eq,Nat.reduceLeDiff,true_and] at this ⊢;exact this
 simp only [qY,tb3,o3,v3,c3,iB,getElem?_cons_zero,getElem?_cons_succ,lt8,decide_false,Bool.false_eq_true,if_false,qt];rw [q4];clear q4;refine zN λnx5 q5=>?_;simp only [QS,qb,ja,qg,length_nil,sizeLine_eq,Nat.zero_le,o3,c3,cb3,v3,length_cons,Nat.zero_add,Nat.reduceAdd,Nat.zero_lt_succ,getElem?_pos,getElem_cons_zero,zL,zt,UV,iC,Bool.false_eq_true,↓reduceIte,za,set_cons_succ,set_cons_zero,ne_eq,exists_and_left,Bool.exists_bool,Int.mul_zero,Int.add_zero,Int.mul_one,Int.reduceAdd,true_and];intro pp hpp;have npp:=L1.ne hpp;have Lp:=L1.new npp (ob:=.lst []);refine qD Lp (by omega) (by omega) (by omega) λfv G2 f0 f1 L2' E2=>?_;have gp2:=E2 _ _ npp qq;have X2:Ext a G G2:=E1.trans ((zj hpp).trans E2);have hf:∃ far:Int,(far=1\/far=5)/\nx5=nx5:=⟨1,.inl rfl,rfl⟩
 clear hf;have fin:∀ far:Int,far=1\/far=5->nx5 [some (.ref a),some (.int way),none,none,none,none,none,some (.ref pp),some (.int far),none,none] G2:=by
  intro far hfar;rw [q5];clear q5;refine zN λnx6 q6=>?_;simp only [WF,zz,cb3,qb,qg,v3,getElem?_cons_zero,getElem?_cons_succ];refine ⟨a,_,rfl,L2',by omega,λm G3 m1 m2 L3' E3=>?_⟩;have gp3:=E3 _ _ npp gp2;refine ⟨⟨by omega,by omega⟩,?_⟩;rw [Int.toNat_natCast];refine VD _ (λi τ G'=>∃ ps:List (Int×Int),G' pp=some (.lst (ps.map pT))/\(1<=i->1<=ps.length)/\ps.length<=i/\ps.Nodup/\(∀ p∈ps,(-16<=p.1/\p.1<=16)/\(-16<=p.2/\p.2<=16))/\Lf G' a (n+5+2*i)/\Ext a G G'/\∃ x9 x10,τ=[some (.ref a),some (.int way),none,none,none,none,none,some (.ref pp),some (.int far),x9,x10])
   ⟨[],gp3,by omega,by simp,by simp,(by intro p hp;cases hp),by simpa using L3'.mono (by omega),X2.trans E3,none,none,rfl⟩ (λ_ _ _ _ _=>True.intro) ?_ ?_
  ·rintro i z τ G' nx hz ⟨ps,gp,i1,pl,nd,bd,L,E,x9,x10,rfl⟩ hnx;obtain ⟨hi,rfl⟩:=S8 hz;simp only [gn3,set_cons_succ,set_cons_zero];refine zN λnx7 q7=>?_;simp only [qJ,qP,qb,o3,v3,Int.zero_add,length_cons,length_nil,Nat.zero_add,Nat.reduceAdd,Nat.reduceLT,getElem?_pos,getElem_cons_succ,getElem_cons_zero,cb3,Nat.zero_lt_succ,c3,qg,iI,iC,sizeLine_eq,Nat.reduceLeDiff,gn3,set_cons_succ,set_cons_zero,true_and];refine qD L (by omega) (by omega) (by omega) λu G4 u0 u1 L4 E4=>?_
   try simp
   refine ⟨cm (by omega) (by omega),qD L4 (by omega) (by omega) (by omega) λv G5 v0 v1 L5 E5=>?_⟩
   try simp
   refine ⟨cm (by omega) (by omega),?_⟩;rw [q7];clear q7;have gp5:=E5 _ _ npp (E4 _ _ npp gp);have X5:=E.trans (E4.trans E5);have pe:T.tup [.int (far*(u-2)),.int (far*(v-2))]=pT (far*(u-2),far*(v-2)):=rfl;rw [pe];have pb:(-16<=far*(u-2)/\far*(u-2)<=16)/\(-16<=far*(v-2)/\far*(v-2)<=16):=by rcases hfar with rfl|rfl<;>omega
   generalize hP:(far*(u-2),far*(v-2))=P at *;have pb':(-16<=P.1/\P.1<=16)/\(-16<=P.2/\P.2<=16):=by rw [← hP];exact pb
   simp only [qY,tb3,o3,v3,getElem?_cons_zero,getElem?_cons_succ];refine ⟨_,_,_,_,Q8 gp5,qks _ _,qd7 _ _,pIn _ _,λd hd=>?_,?_⟩
   ·obtain ⟨p,_,rfl⟩:=mem_map.mp hd;exact qhM p
   ·by_cases hm:P∈ps
    ·simp only [↓reduceIte,hm,decide_true,Bool.not_true,Bool.false_eq_true,qt];exact hnx _ _ ⟨ps,gp5,λ_=>List.length_pos_of_mem hm,by omega,nd,bd,L5.mono (by omega),X5,_,_,rfl⟩
    ·simp only [↓reduceIte,hm,decide_false,Bool.not_false,zZ,bm3,v3,length_cons,length_nil,Nat.zero_add,Nat.reduceAdd,Nat.reduceLT,getElem?_pos,getElem_cons_succ,getElem_cons_zero,qb,Nat.lt_add_one,qg,EU,gp5,length_map,sizeLine_eq];refine ⟨by rw [Q8 gp5];rfl,by omega,?_⟩;refine hnx _ _ ⟨ps++[P],by rw [qq];simp,λ_=>by simp,by simp;omega,?_,λp hp=>?_,L5.new npp |>.mono (by omega),λb o hb eb=>?_,_,_,rfl⟩
     ·rw [List.nodup_append];exact ⟨nd,by simp,λx hx y hy=>by simp at hy;subst hy;rintro rfl;exact hm hx⟩
     ·rcases List.mem_append.mp hp with hp|hp
      ·exact bd p hp
      ·simp at hp;subst hp;exact pb'
     ·have:b≠pp:=by
       rintro rfl;have:=E1 _ _ hb eb;rw [hpp] at this;cases this
      rw [zS this];exact X5 _ _ hb eb
  ·rintro τ G' ⟨ps,gp,i1,pl,nd,bd,L,E,x9,x10,rfl⟩;rw [QL] at i1 pl L;show nx6 _ _;rw [q6];simp only [qH,qP,qb,c3,cb3,v3,length_cons,length_nil,Nat.zero_add,Nat.reduceAdd,Nat.reduceLT,getElem?_pos,getElem_cons_succ,getElem_cons_zero,qg,q0,Q8 gp,sizeLine_eq,Nat.reduceLeDiff,true_and];exact h (.cells ps) G' ⟨i1 m1,by omega,nd,bd⟩ (L.mono (by omega)) E
 by_cases k0:fv=0
 ·have:=fin 5 (.inr rfl);simp only [k0,decide_true,↓reduceIte,Int.mul_one,Int.reduceAdd];exact ⟨cm (by omega) (by omega),this⟩
 ·have:=fin 1 (.inl rfl);simp only [k0,decide_false,Bool.false_eq_true,↓reduceIte,Int.mul_zero,Int.add_zero];exact ⟨cm (by omega) (by omega),this⟩
end Bk
namespace Pu
open PySem L2 L3
def cif {α:Type} (P:Prop) (a b:α):α:=@ite α P (Classical.propDecidable P) a b
def zA {α:Type} {P:Prop} {a b:α} (h:P):cif P a b=a:=@if_pos P (Classical.propDecidable P) h α a b
def SY {α:Type} {P:Prop} {a b:α} (h:¬ P):cif P a b=b:=@if_neg P (Classical.propDecidable P) h α a b
structure Tru (b:Bool):Prop where
 h:b=true
mutual
inductive Dq (G:Gp):T->PyData->Prop
 |non:Dq G .non .none
 |bl (b:Bool):Dq G (.bl b) (.bool b)
 |int (i:Int):Dq G (.int i) (.int i)
 |str (x:Str):Dq G (.str x) (.str x)
 |tup {xs:List T} {ds:List PyData}:Dqs G xs ds->Dq G (.tup xs) (.tuple ds)
 |lst {p:Addr} {xs:List T} {ds:List PyData}:G p=some (.lst xs)->Dqs G xs ds->Dq G (.ref p) (.list ds)
inductive Dqs (G:Gp):List T->List PyData->Prop
 |nil:Dqs G [] []
 |cons {x:T} {d:PyData} {xs:List T} {ds:List PyData}:Dq G x d->Dqs G xs ds->Dqs G (x::xs) (d::ds)
end
mutual
def Dq.up {G G':Gp} (e:Ex G G'):∀ {x:T} {d:PyData},Dq G x d->Dq G' x d
 |_,_,.non=>.non
 |_,_,.bl b=>.bl b
 |_,_,.int i=>.int i
 |_,_,.str x=>.str x
 |_,_,.tup h=>.tup (Dqs.up e h)
 |_,_,.lst h1 h2=>.lst (e _ _ h1) (Dqs.up e h2)
def Dqs.up {G G':Gp} (e:Ex G G'):∀ {x:List T} {d:List PyData},Dqs G x d->Dqs G' x d
 |_,_,.nil=>.nil
 |_,_,.cons a b=>.cons (Dq.up e a) (Dqs.up e b)
end
def zI {G:Gp} {p:Addr} {xs:List T} (h:G p=some (.lst xs)):zG G p=some xs:=by unfold zG;rw [h]
mutual
def Dq.dp {G:Gp}:∀ {x:T} {d:PyData},Dq G x d->Dp G x d
 |_,_,.non=>.non
 |_,_,.bl b=>.bl b
 |_,_,.int i=>.int i
 |_,_,.str x=>.str x
 |_,_,.tup h=>.tup (Dqs.dp h)
 |_,_,.lst h1 h2=>.lst (zI h1) (Dqs.dp h2)
def Dqs.dp {G:Gp}:∀ {x:List T} {d:List PyData},Dqs G x d->Dps G x d
 |_,_,.nil=>.nil
 |_,_,.cons a b=>.cons (Dq.dp a) (Dqs.dp b)
end
def Dqs.length {G:Gp}:∀ {xs:List T} {ds:List PyData},Dqs G xs ds->xs.length=ds.length
 |_,_,.nil=>rfl
 |_,_,.cons _ b=>by simp [Dqs.length b]
def Dqs.get {G:Gp}:∀ {xs:List T} {ds:List PyData} {i:Nat} {d:PyData},Dqs G xs ds->ds[i]?=some d->∃ x,xs[i]?=some x/\Dq G x d
 |_,_,_,_,.nil,e=>by simp at e
 |_,_,0,_,.cons r _,e=>by simp at e;subst e;exact ⟨_,rfl,r⟩
 |_,_,i+1,d,.cons _ t,e=>by
  obtain ⟨u,h1,h2⟩:=Dqs.get (i:=i) (d:=d) t (by simpa using e);exact ⟨u,by simpa using h1,h2⟩
def Dqs.append {G:Gp}:∀ {xs:List T} {ds:List PyData} {ys:List T} {es:List PyData},Dqs G xs ds->Dqs G ys es->Dqs G (xs++ys) (ds++es)
 |_,_,_,_,.nil,h=>h
 |_,_,_,_,.cons a b,h=>.cons a (Dqs.append b h)
def Dqs.drop {G:Gp}:∀ {xs:List T} {ds:List PyData} (n:Nat),Dqs G xs ds->Dqs G (xs.drop n) (ds.drop n)
 |_,_,0,h=>h
 |_,_,_+1,.nil=>.nil
 |_,_,n+1,.cons _ b=>Dqs.drop n b
def Dqs.take {G:Gp}:∀ {xs:List T} {ds:List PyData} (n:Nat),Dqs G xs ds->Dqs G (xs.take n) (ds.take n)
 |_,_,0,h=>by simp;exact .nil
 |_,_,_+1,.nil=>.nil
 |_,_,n+1,.cons a b=>.cons a (Dqs.take n b)
def Dqs.ints {G:Gp}:∀ {ns:List Int} {xs:List T},Dqs G xs (ns.map PyData.int)->xs=ns.map T.int
 |[],_,.nil=>rfl
 |n::ns,_,.cons a b=>by cases a;rw [Dqs.ints b];rfl
def Dqs.ofInts {G:Gp}:∀ (ns:List Int),Dqs G (ns.map T.int) (ns.map PyData.int)
 |[]=>.nil
 |n::r=>.cons (.int n) (Dqs.ofInts r)
def rs (D:Addr->Prop) (G:Gp):Gp:=λb=>cif (D b) none (G b)
def qG {D:Addr->Prop} {G:Gp} {b:Addr} {o:O} (h:rs D G b=some o):¬ D b/\G b=some o:=by
 unfold rs cif at h;split at h
 ·cases h
 ·rename_i n;exact ⟨n,h⟩
def jJ {D:Addr->Prop} {G:Gp} {b:Addr} (n:¬ D b):rs D G b=G b:=by unfold rs;exact SY n
def J5 {D:Addr->Prop} {G:Gp}:Ex (rs D G) G:=λb o h=>(qG h).2
def jL {D:Addr->Prop} {G G':Gp} (e:Ex G G'):Ex (rs D G) (rs D G'):=λb o h=>by
 obtain ⟨n,h⟩:=qG h;rw [jJ n];exact e _ _ h
def zB {D D':Addr->Prop} {G:Gp} (h:∀ b,D' b->D b):Ex (rs D G) (rs D' G):=λb o e=>by
 obtain ⟨n,e⟩:=qG e;rw [jJ λz=>n (h b z)];exact e
def Dom (D:Addr->Prop) (G:Gp):Prop:=∀ b,D b->G b≠none
def Dom.up {D:Addr->Prop} {G G':Gp} (h:Dom D G) (e:Ex G G'):Dom D G':=λb d z=>by
 cases g:G b with
 |none=>exact h b d g
 |some o=>rw [e _ _ g] at z;cases z
def qg1 {D:Addr->Prop} {G:Gp} {p:Addr} {o:O} (hd:Dom D G) (hp:G p=none):rs D (gu G p o) p=some o:=by
 rw [jJ λz=>hd p z hp,qq]
inductive Sl where
 |un|sh (d:PyData)|ow (ds:List PyData)|dc (kvs:List (Int×PyData))
abbrev Rho:=List Sl
def Sl.d:Sl->Option PyData
 |.un=>none|.sh d=>some d|.ow ds=>some (.list ds)|.dc _=>none
def vw (ρ:Rho) (i:Nat):Option PyData:=(ρ[i]?).bind Sl.d
def WT (fv:List Nat) (D:Addr->Prop) (G:Gp) (τ:St3) (ρ:Rho):Prop:=∀ i∈fv,∀ d,vw ρ i=some d->∃ t,τ[i]?=some (some t)/\Dq (rs D G) t d
def WT.up {fv:List Nat} {D:Addr->Prop} {G G':Gp} {τ:St3} {ρ:Rho} (h:WT fv D G τ ρ) (e:Ex G G'):WT fv D G' τ ρ:=λi hi d hd=>
 let ⟨t,a,b⟩:=h i hi d hd;⟨t,a,b.up (jL e)⟩
def WT.l {fv gv:List Nat} {D:Addr->Prop} {G:Gp} {τ:St3} {ρ:Rho} (h:WT (fv++gv) D G τ ρ):WT fv D G τ ρ:=λi hi=>h i (by simp [hi])
def WT.r {fv gv:List Nat} {D:Addr->Prop} {G:Gp} {τ:St3} {ρ:Rho} (h:WT (fv++gv) D G τ ρ):WT gv D G τ ρ:=λi hi=>h i (by simp [hi])
def qbm:PyData->Bool
 |.none=>true|.bool _=>true|.int _=>true|.str _=>true|_=>false
def Nw (D:Addr->Prop) (G G':Gp) (x:T) (d:PyData):Prop:=qbm d=true\/∃ p xs ds,x=.ref p/\d=.list ds/\G p=none/\G' p=some (.lst xs)/\Dqs (rs (λb=>D b\/b=p) G') xs ds
def Nw.back {D:Addr->Prop} {G0 G G':Gp} {x:T} {d:PyData} (h:Nw D G G' x d) (e:Ex G0 G):Nw D G0 G' x d:=by
 rcases h with h|⟨p,xs,ds,a,b,c,r⟩
 ·exact .inl h
 refine .inr ⟨p,xs,ds,a,b,?_,r⟩;cases z:G0 p with
 |none=>rfl
 |some o=>rw [e _ _ z] at c;cases c
structure PuE (t:TE3) where
 f:Rho->Option PyData
 fv:List Nat
 nw:Bool
 ok:∀ {D τ ρ G} {q:Q3} {d},WT fv D G τ ρ->Dom D G->f ρ=some d->(∀ x G',Ex G G'->Dq (rs D G') x d->(nw=true->Nw D G G' x d)->q x G')->t τ G q
structure PuC (t:TT3) where
 f:Rho->Option Bool
 fv:List Nat
 ok:∀ {D τ ρ G} {q:Bool->Gp->Prop} {k},WT fv D G τ ρ->Dom D G->f ρ=some k->(∀ G',Ex G G'->q k G')->t τ G q
structure PuA (t:TA3) where
 f:Rho->Option (List PyData)
 fv:List Nat
 n:Nat
 ln:∀ {ρ d},f ρ=some d->d.length=n
 ok:∀ {D τ ρ G} {q:List T->Gp->Prop} {d},WT fv D G τ ρ->Dom D G->f ρ=some d->(∀ x G',Ex G G'->Dqs (rs D G') x d->q x G')->t τ G q
structure PuO (t:TO3) where
 f:Rho->Option (Option Int)
 fv:List Nat
 ok:∀ {D τ ρ G} {q:Option Int->Gp->Prop} {k},WT fv D G τ ρ->Dom D G->f ρ=some k->(∀ G',Ex G G'->q k G')->t τ G q
structure PuI (t:TI3) where
 f:Rho->Option (List PyData)
 fv:List Nat
 /-- numbers alone -/
 nm:Bool
 ok:∀ {D τ ρ G} {r:List T->(Gp->Prop)->Gp->Prop} {ds},WT fv D G τ ρ->Dom D G->f ρ=some ds ->
  (∀ items stay G',Ex G G'->Dqs (rs D G') items ds->(∀ G'',(nm=true\/Ex (rs D G') G'')->stay G'')->(nm=true->∃ ns:List Int,ds=ns.map PyData.int)->r items stay G')->t τ G r
structure OpD (r:R3) where
 f:PyData->PyData->Option PyData
 nw:Bool
 ok:∀ {D G x y d e v} {q:Q3},Dq (rs D G) x d->Dq (rs D G) y e->Dom D G->f d e=some v->(∀ z G',Ex G G'->Dq (rs D G') z v->(nw=true->Nw D G G' z v)->q z G')->r x y G q
structure FnD (r:List T->Gp->Q3->Prop) where
 f:List PyData->Option PyData
 nw:Bool
 ok:∀ {D G xs ds v} {q:Q3},Dqs (rs D G) xs ds->Dom D G->f ds=some v->(∀ z G',Ex G G'->Dq (rs D G') z v->(nw=true->Nw D G G' z v)->q z G')->r xs G q
def bV (i:Nat):PuE (v3 i):=⟨λρ=>vw ρ i,[i],false,λhv hd hf k=>by
 obtain ⟨t,e,h⟩:=hv i (by simp) _ hf;unfold v3;rw [e];exact k t _ Ex.refl h (λz=>by cases z)⟩
def zC (i:Int):PuE (c3 (.int i)):=⟨λ_=>some (.int i),[],false,λhv hd hf k=>by cases hf;exact k _ _ Ex.refl (.int i) (λz=>by cases z)⟩
def bBl (i:Bool):PuE (c3 (.bl i)):=⟨λ_=>some (.bool i),[],false,λhv hd hf k=>by cases hf;exact k _ _ Ex.refl (.bl i) (λz=>by cases z)⟩
def qbk (i:Str):PuE (c3 (.str i)):=⟨λ_=>some (.str i),[],false,λhv hd hf k=>by cases hf;exact k _ _ Ex.refl (.str i) (λz=>by cases z)⟩
def qoj:PuE (c3 .non):=⟨λ_=>some .none,[],false,λhv hd hf k=>by cases hf;exact k _ _ Ex.refl .non (λz=>by cases z)⟩
def bO {r:R3} {ta tb:TE3} (R:OpD r) (a:PuE ta) (b:PuE tb):PuE (o3 r ta tb):=
 ⟨λρ=>(a.f ρ).bind λx=>(b.f ρ).bind λy=>R.f x y,a.fv++b.fv,R.nw,λhv hd hf k=>by
  obtain ⟨x,e1,hf⟩:=obb hf;obtain ⟨y,e2,hf⟩:=obb hf;exact a.ok hv.l hd e1 λx' G1 E1 D1 _=>b.ok (hv.r.up E1) (hd.up E1) e2 λy' G2 E2 D2 _=>R.ok (D1.up (jL E2)) D2 ((hd.up E1).up E2) hf λz G3 E3 D3 N3=>k z G3 ((E1.trans E2).trans E3) D3 λh=>(N3 h).back (E1.trans E2)⟩
def zc:PuA qg:=⟨λ_=>some [],[],0,(λh=>by cases h;rfl),λhv hd hf k=>by cases hf;exact k _ _ Ex.refl .nil⟩
def qj {ta:TE3} {tr:TA3} (a:PuE ta) (r:PuA tr):PuA (qb ta tr):=
 ⟨λρ=>(a.f ρ).bind λx=>(r.f ρ).bind λxs=>some (x::xs),a.fv++r.fv,r.n+1,(λhf=>by
  obtain ⟨x,e1,hf⟩:=obb hf;obtain ⟨xs,e2,hf⟩:=obb hf;cases hf;simp [r.ln e2]),λhv hd hf k=>by
  obtain ⟨x,e1,hf⟩:=obb hf;obtain ⟨xs,e2,hf⟩:=obb hf;cases hf;exact a.ok hv.l hd e1 λx' G1 E1 D1 _=>r.ok (hv.r.up E1) (hd.up E1) e2 λy' G2 E2 D2=>k _ G2 (E1.trans E2) (.cons (D1.up (jL E2)) D2)⟩
def few {n:Nat} (h:Tru (Nat.ble n 1000)):n<=sizeLine:=Nat.le_trans (Nat.le_of_ble_eq_true h.h) (by rw [sizeLine_eq];omega)
def YZ {t:TA3} (a:PuA t) (hn:Tru (Nat.ble a.n 1000)):PuE (qP t):=⟨λρ=>(a.f ρ).map .tuple,a.fv,false,λhv hd hf k=>by
 obtain ⟨xs,e1,rfl⟩:=Option.map_eq_some_iff.mp hf;exact a.ok hv hd e1 λx G1 E1 D1=>⟨by rw [D1.length,a.ln e1];exact few hn,k _ _ E1 (.tup D1) (λz=>by cases z)⟩⟩
def WV {D:Addr->Prop} {G:Gp} {p:Addr} {xs:List T} {ds:List PyData} (hp:G p=none) (h:Dqs (rs D G) xs ds):Nw D G (gu G p (.lst xs)) (.ref p) (.list ds):=
 .inr ⟨p,xs,ds,rfl,rfl,hp,qq,h.up λb o e=>by
  obtain ⟨n,e⟩:=qG e;have:b≠p:=by rintro rfl;rw [hp] at e;cases e
  rw [jJ (by rintro (z|z);exact n z;exact this z),zS this];exact e⟩
def UX {D:Addr->Prop} {G:Gp} {p:Addr} {xs:List T} {ds:List PyData} (hd:Dom D G) (hp:G p=none) (h:Dqs (rs D G) xs ds):Dq (rs D (gu G p (.lst xs))) (.ref p) (.list ds):=
 .lst (qg1 hd hp) (h.up (jL (QB hp)))
def MU {t:TA3} (a:PuA t) (hn:Tru (Nat.ble a.n 1000)):PuE (ja t):=⟨λρ=>(a.f ρ).map .list,a.fv,true,λhv hd hf k=>by
 obtain ⟨xs,e1,rfl⟩:=Option.map_eq_some_iff.mp hf;exact a.ok hv hd e1 λx G1 E1 D1=>⟨by rw [D1.length,a.ln e1];exact few hn,λp hp=>k _ _ (E1.trans (QB hp)) (UX (hd.up E1) hp D1) λ_=>(WV hp D1).back E1⟩⟩
def zR {r:List T->Gp->Q3->Prop} {t:TA3} (R:FnD r) (a:PuA t):PuE (cb3 r t):=
 ⟨λρ=>(a.f ρ).bind R.f,a.fv,R.nw,λhv hd hf k=>by
  obtain ⟨x,e1,hf⟩:=obb hf;exact a.ok hv hd e1 λx' G1 E1 D1=>R.ok D1 (hd.up E1) hf λz G3 E3 D3 N3=>k z G3 (E1.trans E3) D3 λh=>(N3 h).back E1⟩
def asB:PyData->Option Bool
 |.bool b=>some b
 |_=>none
def asI:PyData->Option Int
 |.int b=>some b
 |_=>none
def KN {d:PyData} {b:Bool} (h:asB d=some b):d=.bool b:=by cases d<;>simp [asB] at h;subst h;rfl
def qdi {d:PyData} {b:Int} (h:asI d=some b):d=.int b:=by cases d<;>simp [asI] at h;subst h;rfl
def bTb {t:TE3} (a:PuE t):PuC (tb3 t):=⟨λρ=>(a.f ρ).bind asB,a.fv,λhv hd hf k=>by
 obtain ⟨x,e1,hf⟩:=obb hf;have:=KN hf;subst this;exact a.ok hv hd e1 λx' G1 E1 D1 _=>by cases D1;exact k G1 E1⟩
def qo3 {t u:TT3} (a:PuC t) (b:PuC u):PuC (CC t u):=⟨λρ=>(a.f ρ).bind λk=>if k then b.f ρ else some false,a.fv++b.fv,λhv hd hf k=>by
 obtain ⟨x,e1,hf⟩:=obb hf;refine a.ok hv.l hd e1 λG1 E1=>?_;cases x with
 |true=>exact b.ok (hv.r.up E1) (hd.up E1) hf λG2 E2=>k G2 (E1.trans E2)
 |false=>cases hf;exact k G1 E1⟩
def bOr {t u:TT3} (a:PuC t) (b:PuC u):PuC (or3 t u):=⟨λρ=>(a.f ρ).bind λk=>if k then some true else b.f ρ,a.fv++b.fv,λhv hd hf k=>by
 obtain ⟨x,e1,hf⟩:=obb hf;refine a.ok hv.l hd e1 λG1 E1=>?_;cases x with
 |false=>exact b.ok (hv.r.up E1) (hd.up E1) hf λG2 E2=>k G2 (E1.trans E2)
 |true=>cases hf;exact k G1 E1⟩
def qgM {t:TT3} (a:PuC t):PuC (UT t):=⟨λρ=>(a.f ρ).map (! ·),a.fv,λhv hd hf k=>by
 obtain ⟨x,e1,hf⟩:=Option.map_eq_some_iff.mp hf;subst hf;exact a.ok hv hd e1 λG1 E1=>k G1 E1⟩
def bTt:PuC tt3:=⟨λ_=>some true,[],λhv hd hf k=>by cases hf;exact k _ Ex.refl⟩
def DC {ta tb:TE3} (a:PuE ta) (b:PuE tb):PuE (zT ta tb):=⟨λρ=>((a.f ρ).bind asB).bind λk=>if k then b.f ρ else some (.bool false),a.fv++b.fv,false,λhv hd hf k=>by
 obtain ⟨x,e1,hf⟩:=obb hf;obtain ⟨y,e1,e2⟩:=obb e1;have:=KN e2;subst this;refine a.ok hv.l hd e1 λx' G1 E1 D1 _=>?_;cases D1;cases x with
 |true=>exact b.ok (hv.r.up E1) (hd.up E1) hf λz G2 E2 D2 _=>k z G2 (E1.trans E2) D2 (λz=>by cases z)
 |false=>cases hf;exact k _ G1 E1 (.bl false) (λz=>by cases z)⟩
def qlC {ta:TE3} (a:PuE ta):PuE (Z2 ta):=⟨λρ=>((a.f ρ).bind asB).map λk=>.bool (!k),a.fv,false,λhv hd hf k=>by
 obtain ⟨x,e1,hf⟩:=Option.map_eq_some_iff.mp hf;obtain ⟨y,e1,e2⟩:=obb e1;have:=KN e2;subst this;subst hf;refine a.ok hv hd e1 λx' G1 E1 D1 _=>?_;cases D1;exact k _ G1 E1 (.bl _) (λz=>by cases z)⟩
def qa0 {ta:TE3} (a:PuE ta):PuE (u3 JP ta):=⟨λρ=>((a.f ρ).bind asI).map λi=>.int (-i),a.fv,false,λhv hd hf k=>by
 obtain ⟨x,e1,hf⟩:=Option.map_eq_some_iff.mp hf;obtain ⟨y,e1,e2⟩:=obb e1;have:=qdi e2;subst this;subst hf;refine a.ok hv hd e1 λx' G1 E1 D1 _=>?_;cases D1;exact k _ G1 E1 (.int _) (λz=>by cases z)⟩
def bCh {r r':R3} {ta tb tc:TE3} (R:OpD r) (R':OpD r') (a:PuE ta) (b:PuE tb) (c:PuE tc):PuE (ch3 r r' ta tb tc):=
 ⟨λρ=>(a.f ρ).bind λx=>(b.f ρ).bind λy=>((R.f x y).bind asB).bind λk=>if k then (c.f ρ).bind λz=>R'.f y z else some (.bool false),a.fv++(b.fv++c.fv),false,λ{D τ ρ G q d} hv hd hf k=>by
  obtain ⟨x,e1,hf⟩:=obb hf;obtain ⟨y,e2,hf⟩:=obb hf;obtain ⟨j,e3,hf⟩:=obb hf;obtain ⟨v,e3,e4⟩:=obb e3;have:=KN e4;subst this;refine a.ok hv.l hd e1 λx' G1 E1 D1 _=>b.ok (hv.r.l.up E1) (hd.up E1) e2 λy' G2 E2 D2 _=>R.ok (D1.up (jL E2)) D2 ((hd.up E1).up E2) e3 λz G3 E3 D3 _=>?_;cases D3;have E:=(E1.trans E2).trans E3;cases j with
  |true=>
   obtain ⟨w,e5,hf⟩:=obb hf;exact c.ok (hv.r.r.up E) (hd.up E) e5 λw' G4 E4 D4 _=>R'.ok ((D2.up (jL E3)).up (jL E4)) D4 ((hd.up E).up E4) hf λu G5 E5 D5 _=>k u G5 ((E.trans E4).trans E5) D5 (λz=>by cases z)
  |false=>cases hf;exact k _ G3 E (.bl false) (λz=>by cases z)⟩
def tyD:PyData->Option String
 |.none=>some "NoneType" |.bool _=>some "bool" |.int _=>some "int" |.str _=>some "str" |.tuple _=>some "tuple" |.list _=>some "list" |.dict _=>none
def MT {ta:TE3} (g:String->Bool) (a:PuE ta):PuE (YL g ta):=⟨λρ=>(a.f ρ).bind λd=>(tyD d).map λt=>.bool (g t),a.fv,false,λhv hd hf k=>by
 obtain ⟨x,e1,hf⟩:=obb hf;obtain ⟨y,e2,hf⟩:=Option.map_eq_some_iff.mp hf;subst hf;refine a.ok hv hd e1 λx' G1 E1 D1 _=>?_;have:tyT G1 x'=some y:=by
  cases D1 with
  |lst h _=>have g:=zI (qG h).2;simp [tyT,g];simpa [tyD] using e2
  |_=>simpa [tyT,tyD] using e2
 simp only [this];exact k _ G1 E1 (.bl _) (λz=>by cases z)⟩
def bSp {t:TE3} (a:PuE t):PuO (sp3 t):=⟨λρ=>((a.f ρ).bind asI).map some,a.fv,λhv hd hf k=>by
 obtain ⟨x,e1,hf⟩:=Option.map_eq_some_iff.mp hf;obtain ⟨y,e1,e2⟩:=obb e1;have:=qdi e2;subst this;subst hf;refine a.ok hv hd e1 λx' G1 E1 D1 _=>?_;cases D1;exact k G1 E1⟩
def Dqs.cut {G:Gp} {xs:List T} {ds:List PyData} (h:Dqs G xs ds) (lo hi:Option Int):Dqs G (U0 xs lo hi) (U0 ds lo hi):=by
 unfold U0;rw [h.length];exact (h.drop _).take _
def slD (d:PyData) (lo hi:Option Int):Option PyData:=match d with
 |.tuple xs=>cif (HT.sIx xs.length 0 lo=0/\HT.sIx xs.length xs.length hi=xs.length) none (some (.tuple (U0 xs lo hi)))
 |.list xs=>some (.list (U0 xs lo hi))
 |_=>none
def bSl {te:TE3} {tl th:TO3} (a:PuE te) (l:PuO tl) (h:PuO th):PuE (D6 te tl th):=⟨λρ=>(a.f ρ).bind λd=>(l.f ρ).bind λlo=>(h.f ρ).bind λhi=>slD d lo hi,a.fv++(l.fv++h.fv),false,λhv hd hf k=>by
 obtain ⟨d,e1,hf⟩:=obb hf;obtain ⟨lo,e2,hf⟩:=obb hf;obtain ⟨hi,e3,hf⟩:=obb hf;refine a.ok hv.l hd e1 λx' G1 E1 D1 _=>l.ok (hv.r.l.up E1) (hd.up E1) e2 λG2 E2=>h.ok (hv.r.r.up (E1.trans E2)) (hd.up (E1.trans E2)) e3 λG3 E3=>?_;have E:=(E1.trans E2).trans E3;have D3:=(D1.up (jL E2)).up (jL E3);unfold slD at hf;cases D3 with
 |tup hs=>
  simp only [cif] at hf;split at hf
  ·cases hf
  ·rename_i n;cases hf;exact ⟨by rw [hs.length];exact n,k _ _ E (.tup (hs.cut _ _)) (λz=>by cases z)⟩
 |lst g hs=>
  simp only at hf;cases hf;simp only [sl3,zI (qG g).2];intro p hp;exact k _ _ (E.trans (QB hp)) (UX (hd.up E) hp (hs.cut _ _)) (λz=>by cases z)
 |_=>simp at hf⟩
def VN:List PyData->Option (List Int)
 |[]=>some []
 |.int i::r=>(VN r).map (i::·)
 |_=>none
def SD (ns:List Int):VN (ns.map PyData.int)=some ns:=by
 induction ns with
 |nil=>rfl
 |cons n r ih=>simp [VN,ih]
def CI:∀ {xs:List PyData} {ns:List Int},VN xs=some ns->xs=ns.map PyData.int
 |[],_,h=>by simp [VN] at h;subst h;rfl
 |.int i::r,ns,h=>by
  simp only [VN] at h;obtain ⟨ms,e,rfl⟩:=Option.map_eq_some_iff.mp h;rw [CI e];rfl
 |.none::r,ns,h=>by simp [VN] at h
 |.bool _::r,ns,h=>by simp [VN] at h
 |.str _::r,ns,h=>by simp [VN] at h
 |.list _::r,ns,h=>by simp [VN] at h
 |.tuple _::r,ns,h=>by simp [VN] at h
 |.dict _::r,ns,h=>by simp [VN] at h
def opI (g:Int->Int->Int):OpD (iI g):=⟨λd e=>match d,e with|.int i,.int j=>some (.int (g i j))|_,_=>none,false,λ{D G x y d e v q} hx hy hd hf k=>by
 cases hx<;>try (simp at hf;done)
 cases hy<;>try (simp at hf;done)
 cases hf;exact k _ _ Ex.refl (.int _) (λz=>by cases z)⟩
def cI (C:Int->Int->Prop) (g:Int->Int->Int) (d e:PyData):Option PyData:=match d,e with|.int i,.int j=>cif (C i j) (some (.int (g i j))) none|_,_=>none
def opC (C:Int->Int->Prop) (g:Int->Int->Int):OpD (iC C g):=⟨cI C g,false,λ{D G x y d e v q} hx hy hd hf k=>by
 unfold cI at hf;cases hx<;>try (simp at hf;done)
 cases hy<;>try (simp at hf;done)
 simp only [cif] at hf;split at hf
 ·rename_i c;cases hf;exact ⟨c,k _ _ Ex.refl (.int _) (λz=>by cases z)⟩
 ·cases hf⟩
def opB (g:Int->Int->Bool):OpD (iB g):=⟨λd e=>match d,e with|.int i,.int j=>some (.bool (g i j))|_,_=>none,false,λ{D G x y d e v q} hx hy hd hf k=>by
 cases hx<;>try (simp at hf;done)
 cases hy<;>try (simp at hf;done)
 cases hf;exact k _ _ Ex.refl (.bl _) (λz=>by cases z)⟩
def qaX:PyData->PyData->Option Bool
 |.none,.none=>some true|.none,.int _=>some false|.int _,.none=>some false|.none,.bool _=>some false|.bool _,.none=>some false|.none,.str _=>some false|.str _,.none=>some false
 |.int i,.int j=>some (decide (i=j))|.bool i,.bool j=>some (decide (i=j))|.str i,.str j=>some (decide (i=j))
 |.int _,.str _=>some false|.str _,.int _=>some false|.bool _,.str _=>some false|.str _,.bool _=>some false
 |_,_=>none
def qaL {G:Gp} {x y:T} {d e:PyData} (hx:Dq G x d) (hy:Dq G y e):zt x y=qaX d e:=by
 cases hx<;>cases hy<;>rfl
def eqD (neg:Bool) (d e:PyData):Option PyData:=match qaX d e with
 |some k=>some (.bool (if neg then !k else k))
 |none=>cif (dpt d<=40/\dpt d≠0) ((zH d e).map λb=>.bool (if neg then !b else b)) none
def qah (neg:Bool):OpD (zL neg):=⟨eqD neg,false,λ{D G x y d e v q} hx hy hd hf k=>by
 unfold zL;rw [qaL hx hy];unfold eqD at hf;cases h:qaX d e with
 |some b=>rw [h] at hf;cases hf;exact k _ _ Ex.refl (.bl _) (λz=>by cases z)
 |none=>
  rw [h] at hf;simp only [cif] at hf ⊢;split at hf
  ·rename_i c;obtain ⟨b,e1,rfl⟩:=Option.map_eq_some_iff.mp hf;exact ⟨d,e,b,(hx.up J5).dp,(hy.up J5).dp,e1,c.1,c.2,k _ _ Ex.refl (.bl _) (λz=>by cases z)⟩
  ·cases hf⟩
def ixD (d e:PyData):Option PyData:=match d,e with
 |.tuple xs,.int i=>atI xs i
 |.list xs,.int i=>atI xs i
 |_,_=>none
def Dqs.atI {G:Gp} {xs:List T} {ds:List PyData} {i:Int} {d:PyData} (h:Dqs G xs ds) (e:L2.atI ds i=some d):∃ x,L2.atI xs i=some x/\Dq G x d:=by
 unfold L2.atI at e ⊢;rw [h.length];obtain ⟨j,e1,e2⟩:=obb e;obtain ⟨x,hx,r⟩:=h.get e2;exact ⟨x,by rw [e1];exact hx,r⟩
def Z1:OpD ix3:=⟨ixD,false,λ{D G x y d e v q} hx hy hd hf k=>by
 unfold ixD at hf;cases hx with
 |tup hs=>
  cases hy<;>try (simp at hf;done)
  obtain ⟨x,e1,r⟩:=hs.atI hf;simp only [ix3,e1];exact k _ _ Ex.refl r (λz=>by cases z)
 |lst g hs=>
  cases hy<;>try (simp at hf;done)
  obtain ⟨x,e1,r⟩:=hs.atI hf;simp only [ix3,zI (qG g).2,e1];exact k _ _ Ex.refl r (λz=>by cases z)
 |_=>simp at hf⟩
def qmd (d e:PyData):Option PyData:=match d,e with
 |.tuple xs,.tuple ys=>cif (xs≠[]/\xs.length+ys.length<=sizeLine) (some (.tuple (xs++ys))) none
 |.list xs,.list ys=>cif (xs.length+ys.length<=sizeLine) (some (.list (xs++ys))) none
 |.int i,.int j=>some (.int (i+j))
 |_,_=>none
def RJ:OpD za:=⟨qmd,false,λ{D G x y d e v q} hx hy hd hf k=>by
  unfold qmd at hf;cases hx with
  | int i => cases hy <;> try (simp at hf;done)
             cases hf;exact k _ _ Ex.refl (.int _) (λz=>by cases z)
  |tup hs=>
    cases hy<;>try (simp at hf;done)
    rename_i hs2;simp only [cif] at hf;split at hf
    · rename_i c;cases hf;refine ⟨?_,by rw [hs.length,hs2.length];exact c.2,k _ _ Ex.refl (.tup (hs.append hs2)) (λz=>by cases z)⟩;rintro rfl;cases hs;exact c.1 rfl
    · cases hf
  |lst g hs=>
    cases hy<;>try (simp at hf;done)
    rename_i g2 hs2;simp only [cif] at hf;split at hf
    · rename_i c;cases hf;simp only [za,(qG g).2,(qG g2).2];exact ⟨by rw [hs.length,hs2.length];exact c,λp hp=>k _ _ (QB hp) (UX hd hp (hs.append hs2)) (λz=>by cases z)⟩
    · cases hf
  |_=>simp at hf⟩
def qfn (d e:PyData):Option PyData:=match d,e with
 |.list xs,.list ys=>cif (xs.length+ys.length<=sizeLine) (some (.list (xs++ys))) none
 |_,_=>none
def RD:OpD za:=⟨qfn,true,λ{D G x y d e v q} hx hy hd hf k=>by
 unfold qfn at hf;cases hx with
 |lst g hs=>
  cases hy<;>try (simp at hf;done)
  rename_i g2 hs2;simp only [cif] at hf;split at hf
  ·rename_i c;cases hf;simp only [za,(qG g).2,(qG g2).2];exact ⟨by rw [hs.length,hs2.length];exact c,λp hp=>k _ _ (QB hp) (UX hd hp (hs.append hs2)) λ_=>WV hp (hs.append hs2)⟩
  ·cases hf
 |_=>simp at hf⟩
def SZ:PyData->Bool
 |.none=>true|.bool _=>true|.int _=>true|.str _=>true|_=>false
def qgg:PyData->PyData->Bool
 |.none,.none=>true
 |.bool a,.bool b=>a==b
 |.bool a,.int b=>(if a then 1 else 0)==b
 |.int a,.bool b=>a==(if b then 1 else 0)
 |.int a,.int b=>a==b
 |.str a,.str b=>a==b
 |_,_=>false
def DZ {G:Gp} {x:T} {d:PyData} (h:Dq G x d):jh x=SZ d:=by cases h<;>rfl
def UO {G:Gp}:∀ {x:List T} {d:List PyData},Dqs G x d->x.all jh=d.all SZ
 |_,_,.nil=>rfl
 |_,_,.cons a b=>by rw [List.all_cons,List.all_cons,DZ a,UO b]
def qbF {G:Gp} {x y:T} {d e:PyData} (h:Dq G x d) (h':Dq G y e):eqF x y=qgg d e:=by cases h<;>cases h'<;>rfl
def ER {G:Gp} {x:T} {d:PyData} (h:Dq G x d):∀ {ys:List T} {es:List PyData},Dqs G ys es->(ys.any λy=>eqF y x)=es.any λy=>qgg y d
 |_,_,.nil=>rfl
 |_,_,.cons a b=>by rw [List.any_cons,List.any_cons,qbF a h,ER h b]
def inD (neg:Bool) (d e:PyData):Option PyData:=match e with
 |.tuple ys=>cif (SZ d=true/\ys.all SZ=true) (some (.bool (if neg then !(ys.any λy=>qgg y d) else (ys.any λy=>qgg y d)))) none
 |.list ys=>cif (SZ d=true/\ys.all SZ=true) (some (.bool (if neg then !(ys.any λy=>qgg y d) else (ys.any λy=>qgg y d)))) none
 |_=>none
def qo2 (neg:Bool):OpD (in3 neg):=⟨inD neg,false,λ{D G x y d e v q} hx hy hd hf k=>by
 unfold inD at hf;cases hy with
 |tup hs=>
  simp only [cif] at hf;split at hf
  ·rename_i c;cases hf;refine ⟨by rw [DZ hx];exact c.1,by rw [UO hs];exact c.2,?_⟩;rw [ER hx hs];exact k _ _ Ex.refl (.bl _) (λz=>by cases z)
  ·cases hf
 |lst g hs=>
  simp only [cif] at hf;split at hf
  ·rename_i c;cases hf;refine ⟨by rw [DZ hx];exact c.1,?_⟩;simp only [zI (qG g).2];refine ⟨by rw [UO hs];exact c.2,?_⟩;rw [ER hx hs];exact k _ _ Ex.refl (.bl _) (λz=>by cases z)
  ·cases hf
 |_=>simp at hf⟩
def qf3 (neg:Bool) (d e:PyData):Option PyData:=match e with
 |.tuple ys=>cif (∀ y∈ys,dpt y<=40) ((CU d ys).map λb=>.bool (if neg then !b else b)) none
 |.list ys=>cif (∀ y∈ys,dpt y<=40) ((CU d ys).map λb=>.bool (if neg then !b else b)) none
 |_=>none
def qfH (neg:Bool):OpD (qfU neg):=⟨qf3 neg,false,λ{D G x y d e v q} hx hy hd hf k=>by
 unfold qf3 at hf;cases hy with
 |tup hs=>
  simp only [cif] at hf;split at hf
  ·rename_i c;obtain ⟨b,e1,rfl⟩:=Option.map_eq_some_iff.mp hf;exact ⟨_,d,_,b,rfl,(hx.up J5).dp,(hs.up J5).dp,e1,c,k _ _ Ex.refl (.bl _) (λz=>by cases z)⟩
  ·cases hf
 |lst g hs=>
  simp only [cif] at hf;split at hf
  ·rename_i c;obtain ⟨b,e1,rfl⟩:=Option.map_eq_some_iff.mp hf;exact ⟨_,d,_,b,zI (qG g).2,(hx.up J5).dp,(hs.up J5).dp,e1,c,k _ _ Ex.refl (.bl _) (λz=>by cases z)⟩
  ·cases hf
 |_=>simp at hf⟩
def qhZ:List PyData->Option PyData
 |[.tuple xs]=>some (.int xs.length)
 |[.list xs]=>some (.int xs.length)
 |_=>none
def qoq:FnD YA:=⟨qhZ,false,λ{D G xs ds v q} hx hd hf k=>by
 unfold qhZ at hf;split at hf
 ·cases hx with
  |cons a b=>cases b;cases a;rename_i hs;cases hf;simp only [YA];rw [hs.length];exact k _ _ Ex.refl (.int _) (λz=>by cases z)
 ·cases hx with
  |cons a b=>cases b;cases a;rename_i g hs;cases hf;simp only [YA,zI (qG g).2];rw [hs.length];exact k _ _ Ex.refl (.int _) (λz=>by cases z)
 ·cases hf⟩
def qma:List PyData->Option PyData
 |[.int i]=>some (.int i)
 |[.bool k]=>some (.int (if k then 1 else 0))
 |_=>none
def qo5:FnD UV:=⟨qma,false,λ{D G xs ds v q} hx hd hf k=>by
 unfold qma at hf;split at hf
 ·cases hx with
  |cons a b=>cases b;cases a;cases hf;exact k _ _ Ex.refl (.int _) (λz=>by cases z)
 ·cases hx with
  |cons a b=>cases b;cases a;cases hf;exact k _ _ Ex.refl (.int _) (λz=>by cases z)
 ·cases hf⟩
def qmk:List PyData->Option PyData
 |[.tuple xs]=>some (.list xs)
 |[.list xs]=>some (.list xs)
 |_=>none
def qih:FnD QM:=⟨qmk,true,λ{D G xs ds v q} hx hd hf k=>by
 unfold qmk at hf;split at hf
 ·cases hx with
  |cons a b=>cases b;cases a;rename_i hs;cases hf;exact λp hp=>k _ _ (QB hp) (UX hd hp hs) λ_=>WV hp hs
 ·cases hx with
  |cons a b=>cases b;cases a;rename_i g hs;cases hf;simp only [QM,zI (qG g).2];exact λp hp=>k _ _ (QB hp) (UX hd hp hs) λ_=>WV hp hs
 ·cases hf⟩
def MM:List PyData->Option (List Bool)
 |[]=>some []
 |.bool i::r=>(MM r).map (i::·)
 |_=>none
def qbo (ns:List Bool):MM (ns.map PyData.bool)=some ns:=by
 induction ns with
 |nil=>rfl
 |cons n r ih=>simp [MM,ih]
def qbe {G:Gp}:∀ {xs:List T} {ds:List PyData} {ns:List Bool},Dqs G xs ds->MM ds=some ns->qgO xs=some (ns.all id)/\qme xs=some (ns.any id)
 |_,_,_,.nil,h=>by simp [MM] at h;subst h;exact ⟨rfl,rfl⟩
 |_,.bool i::r,ns,.cons a b,h=>by
  simp only [MM] at h;obtain ⟨ms,e,rfl⟩:=Option.map_eq_some_iff.mp h;obtain ⟨h1,h2⟩:=qbe b e;cases a;simp [qgO,qme,h1,h2]
 |_,.int _::r,ns,_,h=>by simp [MM] at h
 |_,.none::r,ns,_,h=>by simp [MM] at h
 |_,.str _::r,ns,_,h=>by simp [MM] at h
 |_,.list _::r,ns,_,h=>by simp [MM] at h
 |_,.tuple _::r,ns,_,h=>by simp [MM] at h
 |_,.dict _::r,ns,_,h=>by simp [MM] at h
def qjo:List PyData->Option PyData
 |[.list xs]=>(MM xs).map λns=>.bool (ns.all id)
 |_=>none
def qnF:FnD WM:=⟨qjo,false,λ{D G xs ds v q} hx hd hf k=>by
 unfold qjo at hf;split at hf
 ·obtain ⟨ns,e,rfl⟩:=Option.map_eq_some_iff.mp hf;cases hx with
  |cons a b=>cases b;cases a;rename_i g hs;simp only [WM,zI (qG g).2,(qbe hs e).1];exact k _ _ Ex.refl (.bl _) (λz=>by cases z)
 ·cases hf⟩
def mn:List Int->Int
 |[]=>0|[a]=>a|a::b::r=>min a (mn (b::r))
def mx:List Int->Int
 |[]=>0|[a]=>a|a::b::r=>max a (mx (b::r))
def LV:∀ {ns:List Int} {m:Int},m∈ns->mn ns<=m
 |[a],m,h=>by simp at h;subst h;exact Int.le_refl _
 |a::b::r,m,h=>by
  unfold mn;rcases mem_cons.mp h with rfl|h
  ·omega
  ·have:=LV h;omega
def WK:∀ {ns:List Int},ns≠[]->mn ns∈ns
 |[a],_=>by simp [mn]
 |a::b::r,_=>by
  unfold mn;have:=WK (ns:=b::r) (by simp);rcases Int.le_total a (mn (b::r)) with h|h
  ·rw [Int.min_eq_left h];simp
  ·rw [Int.min_eq_right h];exact List.mem_cons_of_mem _ this
def qbH:∀ {ns:List Int} {m:Int},m∈ns->m<=mx ns
 |[a],m,h=>by simp at h;subst h;exact Int.le_refl _
 |a::b::r,m,h=>by
  unfold mx;rcases mem_cons.mp h with rfl|h
  ·omega
  ·have:=qbH h;omega
def W2:∀ {ns:List Int},ns≠[]->mx ns∈ns
 |[a],_=>by simp [mx]
 |a::b::r,_=>by
  unfold mx;have:=W2 (ns:=b::r) (by simp);rcases Int.le_total a (mx (b::r)) with h|h
  ·rw [Int.max_eq_right h];exact List.mem_cons_of_mem _ this
  ·rw [Int.max_eq_left h];simp
def mnD:List PyData->Option PyData
 |[.list xs]=>(VN xs).bind λns=>cif (ns≠[]) (some (.int (mn ns))) none
 |_=>none
def qgb:FnD MF:=⟨mnD,false,λ{D G xs ds v q} hx hd hf k=>by
 unfold mnD at hf;split at hf
 ·obtain ⟨ns,e,hf⟩:=obb hf;unfold cif at hf;split at hf
  ·rename_i c;cases hf;cases hx with
   |cons a b=>
    cases b;cases a;rename_i g hs;have:=CI e;subst this;have:=hs.ints;subst this;simp only [MF,zI (qG g).2,RV];refine ⟨c,λm hm hl=>?_⟩;have:m=mn ns:=Int.le_antisymm (hl _ (WK c)) (LV hm);subst this;exact k _ _ Ex.refl (.int _) (λz=>by cases z)
  ·cases hf
 ·cases hf⟩
def mxD:List PyData->Option PyData
 |[.list xs]=>(VN xs).bind λns=>cif (ns≠[]) (some (.int (mx ns))) none
 |_=>none
def qf4:FnD MH:=⟨mxD,false,λ{D G xs ds v q} hx hd hf k=>by
 unfold mxD at hf;split at hf
 ·obtain ⟨ns,e,hf⟩:=obb hf;unfold cif at hf;split at hf
  ·rename_i c;cases hf;cases hx with
   |cons a b=>
    cases b;cases a;rename_i g hs;have:=CI e;subst this;have:=hs.ints;subst this;simp only [MH,zI (qG g).2,RV];refine ⟨c,λm hm hl=>?_⟩;have:m=mx ns:=Int.le_antisymm (qbH hm) (hl _ (W2 c));subst this;exact k _ _ Ex.refl (.int _) (λz=>by cases z)
  ·cases hf
 ·cases hf⟩
def PSp (F:List PyData->Option PyData) (fr:Bool):Sp3:=λts G q=>∃ (D:Addr->Prop) (ds:List PyData) (d:PyData),Dqs (rs D G) ts ds/\Dom D G/\F ds=some d/\∀ x G',Ex G G'->Dq (rs D G') x d->(fr=true->Nw D G G' x d)->q x G'
def Q7 (F:List PyData->Option PyData) (fr:Bool):FnD (PSp F fr):=⟨F,fr,λ{D G xs ds v q} hx hd hf k=>⟨D,ds,v,hx,hd,hf,k⟩⟩
def qbY:PyData->Option (List PyData)
 |.tuple xs=>some xs
 |.list xs=>some xs
 |_=>none
def N2 {t:TE3} (a:PuE t):PuI (QP t):=⟨λρ=>(a.f ρ).bind qbY,a.fv,false,λ{D τ ρ G r ds} hv hd hf k=>by
 obtain ⟨d,e1,hf⟩:=obb hf;refine a.ok hv hd e1 λx G1 E1 D1 _=>?_;unfold qbY at hf;cases D1 with
 |tup hs=>cases hf;exact k _ _ _ E1 hs (λ_ _=>trivial) (λz=>by cases z)
 |lst g hs=>
  cases hf;simp only [zI (qG g).2];refine k _ _ _ E1 hs (λG2 h=>?_) (λz=>by cases z);rcases h with h|h
  ·cases h
  ·exact zI (h _ _ g)
 |_=>simp at hf⟩
def QU (lo:Int) (n:Nat):List Int:=(List.range n).map λ(i:Nat)=>lo+(i:Int)
def qd1 (lo:Int) (n:Nat):KO lo n=(QU lo n).map T.int:=by simp [KO,QU,map_map,Function.comp_def]
def qfT:List PyData->Option (List PyData)
 |[.int j]=>cif (-(2 ^ 62)<=j/\j<2 ^ 62) (some ((QU 0 j.toNat).map PyData.int)) none
 |[.int i,.int j]=>cif (-(2 ^ 62)<=i/\i<2 ^ 62/\-(2 ^ 62)<=j/\j<2 ^ 62) (some ((QU i (j-i).toNat).map PyData.int)) none
 |_=>none
def MW {t:TA3} (a:PuA t):PuI (zz t):=⟨λρ=>(a.f ρ).bind qfT,a.fv,true,λ{D τ ρ G r ds} hv hd hf k=>by
 obtain ⟨d,e1,hf⟩:=obb hf;refine a.ok hv hd e1 λx G1 E1 D1=>?_;unfold qfT at hf;split at hf
 ·unfold cif at hf;split at hf
  ·rename_i c;cases hf;cases D1 with
   |cons a b=>cases b;cases a;simp only;rw [qd1];exact ⟨c,k _ _ _ E1 (Dqs.ofInts _) (λ_ _=>trivial) λ_=>⟨_,rfl⟩⟩
  ·cases hf
 ·unfold cif at hf;split at hf
  ·rename_i c;cases hf;cases D1 with
   |cons a b=>cases b with
    |cons b c'=>cases c';cases a;cases b;simp only;rw [qd1];exact ⟨c,k _ _ _ E1 (Dqs.ofInts _) (λ_ _=>trivial) λ_=>⟨_,rfl⟩⟩
  ·cases hf
 ·cases hf⟩
def qnD (us vs:List PyData):List PyData:=(us.zip vs).map λp=>.tuple [p.1,p.2]
def Dqs.zip {G:Gp}:∀ {xs:List T} {ds:List PyData} {ys:List T} {es:List PyData},Dqs G xs ds->Dqs G ys es->Dqs G (qbj xs ys) (qnD ds es)
 |_,_,_,_,.nil,_=>by simp [qbj,qnD];exact .nil
 |_,_,_,_,.cons _ _,.nil=>by simp [qbj,qnD];exact .nil
 |_,_,_,_,.cons a b,.cons c d=>.cons (.tup (.cons a (.cons c .nil))) (Dqs.zip b d)
inductive Bd (H:Gp):List (Nat×T)->List (Nat×PyData)->Prop
 |nil:Bd H [] []
 |cons {i:Nat} {x:T} {d:PyData} {ts:List (Nat×T)} {bs:List (Nat×PyData)}:Dq H x d->Bd H ts bs->Bd H ((i,x)::ts) ((i,d)::bs)
def Bd.append {H:Gp}:∀ {ts:List (Nat×T)} {bs:List (Nat×PyData)} {us:List (Nat×T)} {cs:List (Nat×PyData)},Bd H ts bs->Bd H us cs->Bd H (ts++us) (bs++cs)
 |_,_,_,_,.nil,h=>h
 |_,_,_,_,.cons a b,h=>.cons a (Bd.append b h)
def Bd.up {H H':Gp} (e:Ex H H'):∀ {ts:List (Nat×T)} {bs:List (Nat×PyData)},Bd H ts bs->Bd H' ts bs
 |_,_,.nil=>.nil
 |_,_,.cons a b=>.cons (a.up e) (Bd.up e b)
def sets:St3->List (Nat×T)->St3
 |τ,[]=>τ
 |τ,p::r=>sets (τ.set p.1 (some p.2)) r
def Z4:Rho->List (Nat×PyData)->Rho
 |ρ,[]=>ρ
 |ρ,p::r=>Z4 (ρ.set p.1 (.sh p.2)) r
def K9:∀ (τ:St3) (a b:List (Nat×T)),sets τ (a++b)=sets (sets τ a) b
 |τ,[],b=>rfl
 |τ,p::a,b=>by simp only [cons_append,sets];exact K9 _ a b
structure PuG (g:TG3) where
 f:PyData->Option (List (Nat×PyData))
 tg:List Nat
 at':∀ {d bs},f d=some bs->∀ p∈bs,p.1∈tg
 ok:∀ {H x d bs},Dq H x d->f d=some bs->∃ ts,Bd H ts bs/\∀ τ G (q:St3->Gp->Prop),q (sets τ ts) G->g x τ G q
structure PuGs (g:SN) where
 f:List PyData->Option (List (Nat×PyData))
 tg:List Nat
 at':∀ {d bs},f d=some bs->∀ p∈bs,p.1∈tg
 ok:∀ {H x d bs},Dqs H x d->f d=some bs->∃ ts,Bd H ts bs/\∀ τ G (q:St3->Gp->Prop),q (sets τ ts) G->g x τ G q
def gN (i:Nat):PuG (gn3 i):=⟨λd=>some [(i,d)],[i],λh p hp=>by cases h;simp at hp;subst hp;simp,λhx h=>by cases h;exact ⟨_,.cons hx .nil,λτ G q hq=>hq⟩⟩
def MZ:PuGs zn:=⟨λds=>match ds with|[]=>some []|_=>none,[],(λh p hp=>by split at h;cases h;cases hp;cases h),λhx h=>by
 split at h
 ·cases h;cases hx;exact ⟨[],.nil,λτ G q hq=>hq⟩
 ·cases h⟩
def jS {t:TG3} {u:SN} (a:PuG t) (b:PuGs u):PuGs (qp t u):=⟨λds=>match ds with|d::r=>(a.f d).bind λx=>(b.f r).map λy=>x++y|[]=>none,a.tg++b.tg,(λh p hp=>by
 split at h
 ·obtain ⟨x,e1,h⟩:=obb h;obtain ⟨y,e2,rfl⟩:=Option.map_eq_some_iff.mp h;rcases List.mem_append.mp hp with z|z
  ·exact List.mem_append.mpr (.inl (a.at' e1 p z))
  ·exact List.mem_append.mpr (.inr (b.at' e2 p z))
 ·cases h),λhx h=>by
 split at h
 ·obtain ⟨x,e1,h⟩:=obb h;obtain ⟨y,e2,rfl⟩:=Option.map_eq_some_iff.mp h;cases hx with
  |cons hx hr=>
   obtain ⟨ts,b1,k1⟩:=a.ok hx e1;obtain ⟨us,b2,k2⟩:=b.ok hr e2;refine ⟨ts++us,b1.append b2,λτ G q hq=>k1 τ G _ (k2 _ G q ?_)⟩;rw [← K9];exact hq
 ·cases h⟩
def M0 {u:SN} (n:Nat) (b:PuGs u):PuG (zl n u):=⟨λd=>match d with|.tuple ds=>if ds.length=n then b.f ds else none|_=>none,b.tg,(λh p hp=>by
 split at h
 ·split at h
  ·exact b.at' h p hp
  ·cases h
 ·cases h),λhx h=>by
 split at h
 ·split at h
  ·rename_i c;cases hx with
   |tup hs=>
    obtain ⟨ts,b1,k1⟩:=b.ok hs h;exact ⟨ts,b1,λτ G q hq=>⟨by rw [hs.length];exact c,k1 τ G q hq⟩⟩
  ·cases h
 ·cases h⟩
structure VA (D:Addr->Prop) (G:Gp) (τ:St3) (ρ:Rho):Prop where
 len:ρ.length=τ.length
 vw:∀ i d,vw ρ i=some d->∃ t,τ[i]?=some (some t)/\Dq (rs D G) t d
def VA.view {D:Addr->Prop} {G:Gp} {τ:St3} {ρ:Rho} (h:VA D G τ ρ) (fv:List Nat):WT fv D G τ ρ:=λi _ d e=>h.vw i d e
def VA.upx {D:Addr->Prop} {G G':Gp} {τ:St3} {ρ:Rho} (h:VA D G τ ρ) (e:Ex (rs D G) (rs D G')):VA D G' τ ρ:=⟨h.len,λi d hd=>let ⟨t,a,b⟩:=h.vw i d hd;⟨t,a,b.up e⟩⟩
def VA.up {D:Addr->Prop} {G G':Gp} {τ:St3} {ρ:Rho} (h:VA D G τ ρ) (e:Ex G G'):VA D G' τ ρ:=h.upx (jL e)
def qeW {ρ:Rho} {i j:Nat} {s:Sl}:vw (ρ.set i s) j=if i=j then (if i<ρ.length then s.d else none) else vw ρ j:=by
 unfold vw;rw [getElem?_set];split
 ·subst j;split
  ·rfl
  ·rfl
 ·rfl
def VA.set {D:Addr->Prop} {G:Gp} {τ:St3} {ρ:Rho} (h:VA D G τ ρ) {i:Nat} {x:T} {d:PyData} (hx:Dq (rs D G) x d):VA D G (τ.set i (some x)) (ρ.set i (.sh d)):=by
 refine ⟨by simp [h.len],λj e he=>?_⟩;rw [qeW] at he;split at he
 ·subst j;split at he
  ·rename_i l;cases he;refine ⟨x,?_,hx⟩;rw [getElem?_set,if_pos rfl,if_pos (by rw [← h.len];exact l)]
  ·cases he
 ·rename_i n;obtain ⟨t,a,b⟩:=h.vw j e he;exact ⟨t,by rw [getElem?_set,if_neg n];exact a,b⟩
def VA.sets {D:Addr->Prop} {G:Gp}:∀ {ts:List (Nat×T)} {bs:List (Nat×PyData)} {τ:St3} {ρ:Rho},VA D G τ ρ->Bd (rs D G) ts bs->VA D G (Pu.sets τ ts) (Z4 ρ bs)
 |_,_,_,_,h,.nil=>h
 |_,_,_,_,h,.cons a b=>by unfold Pu.sets Z4;exact VA.sets (h.set a) b
def VA.keep {D:Addr->Prop} {G:Gp} {ρ:Rho}:∀ {ts:List (Nat×T)} {τ:St3},VA D G τ ρ->(∀ p∈ts,Pu.vw ρ p.1=none)->VA D G (Pu.sets τ ts) ρ
 |[],_,h,_=>h
 |p::r,τ,h,hn=>VA.keep (ts:=r) ⟨by rw [List.length_set];exact h.len,λj d hd=>by
   have:p.1≠j:=by rintro rfl;rw [hn p (by simp)] at hd;cases hd
   obtain ⟨t,a,b⟩:=h.vw j d hd;exact ⟨t,by rw [getElem?_set,if_neg this];exact a,b⟩⟩ λq hq=>hn q (by simp [hq])
def SL (m:List (Option Nat)) (ρ:Rho):Rho:=m.map λo=>match o with|some j=>(match vw ρ j with|some d=>.sh d|none=>.un)|none=>.un
def VA.cap {m:List (Option Nat)} {D:Addr->Prop} {G:Gp} {τ:St3} {ρ:Rho} (h:WT (m.filterMap id) D G τ ρ):VA D G (L3.cap m τ) (SL m ρ):=by
 refine ⟨by simp [SL,L3.cap],λi d hd=>?_⟩;unfold Pu.vw SL at hd;rw [getElem?_map] at hd;cases e:m[i]? with
 |none=>rw [e] at hd;cases hd
 |some o=>
  rw [e] at hd;cases o with
  |none=>cases hd
  |some j=>
   simp only [Option.map_some,Option.bind_some] at hd;cases e2:Pu.vw ρ j with
   |none=>rw [e2] at hd;cases hd
   |some d'=>
    rw [e2] at hd;have hd':d'=d:=by simpa [Sl.d] using hd
    subst hd';obtain ⟨t,a,b⟩:=h j (List.mem_filterMap.mpr ⟨some j,mem_of_getElem? e,rfl⟩) d' e2;refine ⟨t,?_,b⟩;unfold L3.cap;rw [getElem?_map,e];simp [a]
def TC {m:List (Option Nat)} {ρ:Rho} {i:Nat} (h:m[i]?=some none):vw (SL m ρ) i=none:=by
 unfold vw SL;rw [getElem?_map,h];rfl
def lcP (h:PyData->Option (Option PyData)):List PyData->Option (List PyData)
 |[]=>some []
 |d::r=>(h d).bind λo=>(lcP h r).bind λys=>some (match o with|some y=>y::ys|none=>ys)
def lcH (gf:PyData->Option (List (Nat×PyData))) (cf:Rho->Option Bool) (ef:Rho->Option PyData) (ρ:Rho) (d:PyData):Option (Option PyData):=
 (gf d).bind λbs=>(cf (Z4 ρ bs)).bind λk=>if k then (ef (Z4 ρ bs)).map some else some none
def jd {h:PyData->Option (Option PyData)} {α:Type} {g:α->PyData} {k:α->PyData} {xs:List α} (hh:∀ a∈xs,h (g a)=some (some (k a))):lcP h (xs.map g)=some (xs.map k):=by
 induction xs with
 |nil=>rfl
 |cons a r ih=>simp only [map_cons,lcP,hh a (by simp),Option.bind_some,ih λb hb=>hh b (by simp [hb])]
def qbG {H:Gp}:∀ {ts:List (Nat×T)} {bs:List (Nat×PyData)},Bd H ts bs->∀ p∈ts,∃ q∈bs,q.1=p.1
 |_,_,.nil,p,hp=>by cases hp
 |_,_,.cons a b,p,hp=>by
  rcases mem_cons.mp hp with rfl|hp
  ·exact ⟨_,List.mem_cons_self,rfl⟩
  ·obtain ⟨q,hq,e⟩:=qbG b p hp;exact ⟨q,by simp [hq],e⟩
def qe6 {stay:Gp->Prop} {g:TG3} {tif:TT3} {te:TE3} {q:Q3} (pg:PuG g) (pc:PuC tif) (pe:PuE te) {D:Addr->Prop} {ρ0:Rho} {G0:Gp} (hs:∀ G,Ex G0 G->stay G) (hm:∀ i∈pg.tg,vw ρ0 i=none) (fin:List PyData) (hfin:fin.length<=sizeLine)
  (k:∀ G ys,Ex G0 G->Dqs (rs D G) ys fin->∀ p,G p=none->q (.ref p) (gu G p (.lst ys))) :
  ∀ (ds:List PyData) (items ys:List T) (es fs:List PyData) (τ:St3) (G:Gp),Dqs (rs D G0) items ds->VA D G τ ρ0->Ex G0 G->Dom D G->Dqs (rs D G) ys es->lcP (lcH pg.f pc.f pe.f ρ0) ds=some fs->es++fs=fin->WR stay g tif te q items ys τ G
 |_,_,ys,es,fs,τ,G,.nil,va,E,hd,hy,hf,hl=>by
  cases hf;rw [List.append_nil] at hl;subst hl;exact ⟨hs G E,k G ys E hy⟩
 |d::ds,x::items,ys,es,fs,τ,G,.cons hx hr,va,E,hd,hy,hf,hl=>by
  unfold lcP at hf;obtain ⟨o,e1,hf⟩:=obb hf;obtain ⟨j8,e2,hf⟩:=obb hf;unfold lcH at e1;obtain ⟨bs,e3,e1⟩:=obb e1;obtain ⟨c,e4,e1⟩:=obb e1;obtain ⟨ts,bd,kg⟩:=pg.ok (hx.up (jL E)) e3;refine ⟨hs G E,kg τ G _ ?_⟩;have va1:=va.sets bd;have va2:=va.keep (ts:=ts) λp hp=>by
   obtain ⟨q,hq,e⟩:=qbG bd p hp;rw [← e];exact hm _ (pg.at' e3 q hq)
  refine pc.ok (va1.view _) hd e4 λG1 E1=>?_;cases c with
  |true=>
   rw [if_pos rfl];rw [if_pos rfl] at e1;obtain ⟨y,e5,rfl⟩:=Option.map_eq_some_iff.mp e1;simp only [Option.some.injEq] at hf;subst hf;refine pe.ok ((va1.up E1).view _) (hd.up E1) e5 λz G2 E2 D2 _=>⟨?_,?_⟩
   ·rw [hy.length];rw [← hl] at hfin;simp at hfin;omega
   ·refine qe6 pg pc pe hs hm fin hfin k ds items (ys++[z]) (es++[y]) j8 _ G2 hr ((va2.up E1).up E2) (E.trans (E1.trans E2)) ((hd.up E1).up E2) (((hy.up (jL E1)).up (jL E2)).append (.cons D2 .nil)) e2 ?_;rw [← hl];simp
  |false=>
   rw [if_neg Bool.false_ne_true];simp at e1;subst e1;simp only [Option.some.injEq] at hf;subst hf;exact qe6 pg pc pe hs hm fin hfin k ds items ys es j8 _ G1 hr (va2.up E1) (E.trans E1) (hd.up E1) (hy.up (jL E1)) e2 hl
def lcF (pi:Rho->Option (List PyData)) (h:Rho->PyData->Option (Option PyData)) (m:List (Option Nat)) (ρ:Rho):Option PyData:=
 (pi ρ).bind λds=>(lcP (h (SL m ρ)) ds).bind λfs=>cif (fs.length<=sizeLine) (some (.list fs)) none
def bLc {wi:TI3} {g:TG3} {tif:TT3} {te:TE3} (pi:PuI wi) (pg:PuG g) (pc:PuC tif) (pe:PuE te) (m:List (Option Nat)) (hm:Tru (pg.tg.all λi=>m[i]?==some none)):PuE (lc3 wi g tif te m):=
 ⟨lcF pi.f (lcH pg.f pc.f pe.f) m,pi.fv++m.filterMap id,true,λ{D τ ρ G q d} hv hd hf k=>by
  unfold lcF at hf;obtain ⟨ds,e1,hf⟩:=obb hf;obtain ⟨fs,e2,hf⟩:=obb hf;unfold cif at hf;split at hf
  ·rename_i hl;cases hf;refine pi.ok hv.l hd e1 λitems stay G1 E1 D1 hs _=>?_;have va:=(VA.cap (m:=m) hv.r).up E1;refine qe6 pg pc pe (D:=D) (ρ0:=SL m ρ) (G0:=G1) (λG2 E2=>hs G2 (.inr (J5.trans E2))) (λi hi=>TC ?_) fs hl (λG2 ys E2 D2 p hp=>?_) ds items [] [] fs _ G1 D1 va Ex.refl (hd.up E1) .nil e2 (by simp)
   ·have:=List.all_eq_true.mp hm.h i hi;simpa using this
   ·exact k _ _ ((E1.trans E2).trans (QB hp)) (UX ((hd.up E1).up E2) hp D2) λ_=>(WV hp D2).back (E1.trans E2)
  ·cases hf⟩
def E0 (p:Addr) (G G':Gp):Prop:=∀ b o,b≠p->G b=some o->G' b=some o
def E0.refl {p:Addr} {G:Gp}:E0 p G G:=λ_ _ _ e=>e
def E0.trans {p:Addr} {G G1 G2:Gp} (a:E0 p G G1) (b:E0 p G1 G2):E0 p G G2:=λx o n e=>b x o n (a x o n e)
def E0.of {p:Addr} {G G1:Gp} (a:Ex G G1):E0 p G G1:=λx o _ e=>a x o e
def E0.wr {p:Addr} {G:Gp} {o:O}:E0 p G (gu G p o):=λb ob n e=>by rw [zS n];exact e
def E0.rs {p:Addr} {D:Addr->Prop} {G G1:Gp} (a:E0 p G G1):Ex (rs (λb=>D b\/b=p) G) (rs (λb=>D b\/b=p) G1):=λb o h=>by
 obtain ⟨n,h⟩:=qG h;rw [jJ n];exact a b o (λz=>n (.inr z)) h
def qlw {D:Addr->Prop} {G:Gp} {p:Addr} {o:O} (h:Dom D G):Dom D (gu G p o):=λb d z=>by
 by_cases e:b=p
 ·subst e;rw [qq] at z;cases z
 ·rw [zS e] at z;exact h b d z
def qfo {p:Addr} {stay:Gp->Prop} {g:TG3} {tif:TT3} {te:TE3} {N:St3->Gp->Prop} (pg:PuG g) (pc:PuC tif) (pe:PuE te) {D:Addr->Prop} {ρ0:Rho} {G0:Gp} (hs:∀ G,Ex (rs (λb=>D b\/b=p) G0) G->stay G) (hm:∀ i∈pg.tg,vw ρ0 i=none) (fin:List PyData) (hfin:fin.length<=sizeLine)
  (k:∀ τ G ys,VA (λb=>D b\/b=p) G τ ρ0->E0 p G0 G->Dom (λb=>D b\/b=p) G->G p=some (.lst ys)->Dqs (rs (λb=>D b\/b=p) G) ys fin->N τ G) :
  ∀ (ds:List PyData) (items ys:List T) (es fs:List PyData) (τ:St3) (G:Gp),Dqs (rs (λb=>D b\/b=p) G0) items ds->VA (λb=>D b\/b=p) G τ ρ0->E0 p G0 G->Dom (λb=>D b\/b=p) G->G p=some (.lst ys)->Dqs (rs (λb=>D b\/b=p) G) ys es->lcP (lcH pg.f pc.f pe.f ρ0) ds=some fs->es++fs=fin->qgN p stay g tif te N items τ G
 |_,_,ys,es,fs,τ,G,.nil,va,E,hd,gp,hy,hf,hl=>by
  cases hf;rw [List.append_nil] at hl;subst hl;exact ⟨hs G (E.rs.trans J5),k τ G ys va E hd gp hy⟩
 |d::ds,x::items,ys,es,fs,τ,G,.cons hx hr,va,E,hd,gp,hy,hf,hl=>by
  unfold lcP at hf;obtain ⟨o,e1,hf⟩:=obb hf;obtain ⟨j8,e2,hf⟩:=obb hf;unfold lcH at e1;obtain ⟨bs,e3,e1⟩:=obb e1;obtain ⟨c,e4,e1⟩:=obb e1;obtain ⟨ts,bd,kg⟩:=pg.ok (hx.up E.rs) e3;refine ⟨hs G (E.rs.trans J5),kg τ G _ ?_⟩;have va1:=va.sets bd;have va2:=va.keep (ts:=ts) λp hp=>by
   obtain ⟨q,hq,e⟩:=qbG bd p hp;rw [← e];exact hm _ (pg.at' e3 q hq)
  refine pc.ok (va1.view _) hd e4 λG1 E1=>?_;cases c with
  |true=>
   rw [if_pos rfl];rw [if_pos rfl] at e1;obtain ⟨y,e5,rfl⟩:=Option.map_eq_some_iff.mp e1;simp only [Option.some.injEq] at hf;subst hf;refine pe.ok ((va1.up E1).view _) (hd.up E1) e5 λz G2 E2 D2 _=>?_;simp only [E2 _ _ (E1 _ _ gp)];have W:E0 p G2 (gu G2 p (.lst (ys++[z]))):=E0.wr;refine ⟨?_,?_⟩
   ·rw [hy.length];rw [← hl] at hfin;simp at hfin;omega
   ·refine qfo pg pc pe hs hm fin hfin k ds items (ys++[z]) (es++[y]) j8 _ _ hr (((va2.up E1).up E2).upx W.rs) ((E.trans (E0.of (E1.trans E2))).trans W) (qlw ((hd.up E1).up E2)) qq ((((hy.up (jL E1)).up (jL E2)).append (.cons D2 .nil)).up W.rs) e2 ?_;rw [← hl];simp
  |false=>
   rw [if_neg Bool.false_ne_true];simp at e1;subst e1;simp only [Option.some.injEq] at hf;subst hf;exact qfo pg pc pe hs hm fin hfin k ds items ys es j8 _ G1 hr (va2.up E1) (E.trans (E0.of E1)) (hd.up E1) (E1 _ _ gp) (hy.up (jL E1)) e2 hl
def qgq (h:PyData->Option (Option (List PyData))):List PyData->Option (List PyData)
 |[]=>some []
 |d::r=>(h d).bind λo=>(qgq h r).bind λys=>some (match o with|some y=>y++ys|none=>ys)
def qg7 (gf:PyData->Option (List (Nat×PyData))) (cf:Rho->Option Bool) (it:Rho->Option (List PyData)) (h:Rho->PyData->Option (Option PyData)) (ρ:Rho) (d:PyData):Option (Option (List PyData)):=
 (gf d).bind λbs=>(cf (Z4 ρ bs)).bind λk=>if k then ((it (Z4 ρ bs)).bind λds=>lcP (h (Z4 ρ bs)) ds).map some else some none
def TR:∀ {bs:List (Nat×PyData)} {ρ:Rho} {i:Nat},(∀ p∈bs,p.1≠i)->vw (Z4 ρ bs) i=vw ρ i
 |[],_,_,_=>rfl
 |p::r,ρ,i,h=>by
  unfold Z4;rw [TR (λq hq=>h q (by simp [hq])),qeW,if_neg (h p (by simp))]
def KW:∀ (bs:List (Nat×PyData)) (ρ:Rho),(Z4 ρ bs).length=ρ.length
 |[],τ=>rfl
 |p::r,τ=>by unfold Z4;rw [KW r];simp
def qap {p:Addr} {stay:Gp->Prop} {g g2:TG3} {tif tif2:TT3} {wi2:TI3} {te:TE3} {q:Q3} (pg:PuG g) (pc:PuC tif) (pi2:PuI wi2) (pg2:PuG g2) (pc2:PuC tif2) (pe:PuE te) {D:Addr->Prop} {ρ0:Rho} {G0:Gp} (hs:∀ G,Ex (rs (λb=>D b\/b=p) G0) G->stay G) (hm:∀ i∈pg.tg,vw ρ0 i=none) (hm2:∀ i∈pg2.tg,vw ρ0 i=none) (hdj:∀ i∈pg2.tg,i∉pg.tg) (fin:List PyData) (hfin:fin.length<=sizeLine)
  (k:∀ G ys,E0 p G0 G->G p=some (.lst ys)->Dqs (rs (λb=>D b\/b=p) G) ys fin->q (.ref p) G) :
  ∀ (ds:List PyData) (items ys:List T) (es fs:List PyData) (τ:St3) (G:Gp),Dqs (rs (λb=>D b\/b=p) G0) items ds->VA (λb=>D b\/b=p) G τ ρ0->E0 p G0 G->Dom (λb=>D b\/b=p) G->G p=some (.lst ys)->Dqs (rs (λb=>D b\/b=p) G) ys es->qgq (qg7 pg.f pc.f pi2.f (lcH pg2.f pc2.f pe.f) ρ0) ds=some fs->es++fs=fin->qaJ p stay g tif wi2 g2 tif2 te q items τ G
 |_,_,ys,es,fs,τ,G,.nil,va,E,hd,gp,hy,hf,hl=>by
  cases hf;rw [List.append_nil] at hl;subst hl;exact ⟨hs G (E.rs.trans J5),k G ys E gp hy⟩
 |d::ds,x::items,ys,es,fs,τ,G,.cons hx hr,va,E,hd,gp,hy,hf,hl=>by
  unfold qgq at hf;obtain ⟨o,e1,hf⟩:=obb hf;obtain ⟨j8,e2,hf⟩:=obb hf;unfold qg7 at e1;obtain ⟨bs,e3,e1⟩:=obb e1;obtain ⟨c,e4,e1⟩:=obb e1;obtain ⟨ts,bd,kg⟩:=pg.ok (hx.up E.rs) e3;refine ⟨hs G (E.rs.trans J5),kg τ G _ ?_⟩;have va1:=va.sets bd;have va2:=va.keep (ts:=ts) λp hp=>by
   obtain ⟨q,hq,e⟩:=qbG bd p hp;rw [← e];exact hm _ (pg.at' e3 q hq)
  refine pc.ok (va1.view _) hd e4 λG1 E1=>?_;cases c with
  |true=>
   rw [if_pos rfl];rw [if_pos rfl] at e1;obtain ⟨y,e5,rfl⟩:=Option.map_eq_some_iff.mp e1;obtain ⟨ds2,e6,e5⟩:=obb e5;simp only [Option.some.injEq] at hf;subst hf;refine pi2.ok ((va1.up E1).view _) (hd.up E1) e6 λitems2 stay2 G2 E2 D2 hs2 _=>?_;have l2:(es++y).length<=sizeLine:=by
    rw [← hl] at hfin;simp at hfin ⊢;omega
   refine qfo pg2 pc2 pe (ρ0:=Z4 ρ0 bs) (G0:=G2) (λG3 E3=>hs2 G3 (.inr E3)) (λi hi=>?_) (es++y) l2 (λτ3 G3 zs va3 E3 hd3 gp3 hz=>?_) ds2 items2 ys es y _ G2 D2 ((va1.up E1).up E2) E0.refl ((hd.up E1).up E2) (E2 _ _ (E1 _ _ gp)) ((hy.up (jL E1)).up (jL E2)) e5 rfl
   ·rw [TR λq hq e=>hdj i hi (by rw [← e];exact pg.at' e3 q hq)];exact hm2 i hi
   ·have E4:E0 p G G3:=(E0.of (E1.trans E2)).trans E3;have va4:VA (λb=>D b\/b=p) G3 τ3 ρ0:=⟨by rw [← va3.len,KW],λi d' hd'=>va3.vw i d' (by
     rw [TR λq hq e=>?_];exact hd';rw [← e,hm _ (pg.at' e3 q hq)] at hd';cases hd')⟩
    exact qap pg pc pi2 pg2 pc2 pe hs hm hm2 hdj fin hfin k ds items zs (es++y) j8 τ3 G3 hr va4 (E.trans E4) hd3 gp3 hz e2 (by rw [← hl];simp)
  |false=>
   rw [if_neg Bool.false_ne_true];simp at e1;subst e1;simp only [Option.some.injEq] at hf;subst hf;exact qap pg pc pi2 pg2 pc2 pe hs hm hm2 hdj fin hfin k ds items ys es j8 _ G1 hr (va2.up E1) (E.trans (E0.of E1)) (hd.up E1) (E1 _ _ gp) (hy.up (jL E1)) e2 hl
def qkT (pi:Rho->Option (List PyData)) (h:Rho->PyData->Option (Option (List PyData))) (m:List (Option Nat)) (ρ:Rho):Option PyData:=
 (pi ρ).bind λds=>(qgq (h (SL m ρ)) ds).bind λfs=>cif (fs.length<=sizeLine) (some (.list fs)) none
def qbI {h:PyData->Option (Option (List PyData))} {α:Type} {g:α->PyData} {k:α->List PyData} {xs:List α} (hh:∀ a∈xs,h (g a)=some (some (k a))):qgq h (xs.map g)=some (xs.flatMap k):=by
 induction xs with
 |nil=>rfl
 |cons a r ih=>simp only [map_cons,qgq,hh a (by simp),Option.bind_some,ih λb hb=>hh b (by simp [hb]),List.flatMap_cons]
def qnH {wi wi2:TI3} {g g2:TG3} {tif tif2:TT3} {te:TE3} (pi:PuI wi) (pg:PuG g) (pc:PuC tif) (pi2:PuI wi2) (pg2:PuG g2) (pc2:PuC tif2) (pe:PuE te) (m:List (Option Nat)) (hm:Tru (pg.tg.all λi=>m[i]?==some none)) (hm2:Tru (pg2.tg.all λi=>m[i]?==some none)) (hdj:Tru (pg2.tg.all λi=>!pg.tg.contains i)):PuE (ql7 wi g tif wi2 g2 tif2 te m):=
 ⟨qkT pi.f (qg7 pg.f pc.f pi2.f (lcH pg2.f pc2.f pe.f)) m,pi.fv++m.filterMap id,true,λ{D τ ρ G q d} hv hd hf k=>by
  unfold qkT at hf;obtain ⟨ds,e1,hf⟩:=obb hf;obtain ⟨fs,e2,hf⟩:=obb hf;unfold cif at hf;split at hf
  ·rename_i hl;cases hf;refine pi.ok hv.l hd e1 λitems stay G1 E1 D1 hs _ p hp=>?_;have va:=(VA.cap (m:=m) hv.r).up E1;have np:∀ {b o},G1 b=some o->b≠p:=λe=>by rintro rfl;rw [hp] at e;cases e
   have X1:Ex (rs D G1) (rs (λb=>D b\/b=p) (gu G1 p (.lst []))):=λb o e=>by
    obtain ⟨n,e⟩:=qG e;rw [jJ (by rintro (z|z);exact n z;exact np e z),zS (np e)];exact e
   refine qap pg pc pi2 pg2 pc2 pe (D:=D) (ρ0:=SL m ρ) (G0:=gu G1 p (.lst [])) (p:=p) (λG2 E2=>hs G2 (.inr (X1.trans E2))) (λi hi=>TC ?_) (λi hi=>TC ?_) (λi hi hj=>?_) fs hl (λG2 ys E2 gp D2=>?_) ds items [] [] fs _ _ (D1.up X1) ⟨va.len,λi d hd=>let ⟨t,a,b⟩:=va.vw i d hd;⟨t,a,b.up X1⟩⟩ E0.refl ?_ qq .nil e2 (by simp)
   ·simpa using List.all_eq_true.mp hm.h i hi
   ·simpa using List.all_eq_true.mp hm2.h i hi
   ·have:=List.all_eq_true.mp hdj.h i hi;simp at this;exact this hj
   ·have EE:Ex G1 G2:=λb o e=>E2 b o (np e) (by rw [zS (np e)];exact e);have hdp:¬ D p:=λz=>(hd.up E1) p z hp;refine k _ _ (E1.trans EE) (.lst (by rw [jJ hdp];exact gp) (D2.up (zB λb z=>.inl z))) λ_=>Nw.back (.inr ⟨p,ys,fs,rfl,rfl,hp,gp,D2⟩) E1
   ·intro b hb z;by_cases e:b=p
    ·subst e;rw [qq] at z;cases z
    ·rw [zS e] at z;rcases hb with hb|hb
     ·exact (hd.up E1) b hb z
     ·exact e hb
  ·cases hf⟩
def AD (D:Addr->Prop) (A:Nat->Option Addr) (b:Addr):Prop:=D b\/∃ i,A i=some b
structure RS (D:Addr->Prop) (G0:Gp) (A:Nat->Option Addr) (τ:St3) (ρ:Rho) (G:Gp):Prop where
 ex:Ex G0 G
 dm:Dom D G0
 fr:∀ i p,A i=some p->G0 p=none
 da:∀ i p,A i=some p->G p≠none
 inj:∀ i j p,A i=some p->A j=some p->i=j
 len:ρ.length=τ.length
 sh:∀ (i:Nat) (d:PyData),ρ[i]?=some (Sl.sh d)->∃ t,τ[i]?=some (some t)/\Dq (rs (AD D A) G) t d
 ow:∀ (i:Nat) (ds:List PyData),ρ[i]?=some (Sl.ow ds)->∃ p xs,A i=some p/\τ[i]?=some (some (.ref p))/\G p=some (.lst xs)/\Dqs (rs (AD D A) G) xs ds
 dc:∀ (i:Nat) (kvs:List (Int×PyData)),ρ[i]?=some (Sl.dc kvs)->∃ p ks,A i=some p/\τ[i]?=some (some (.ref p))/\G p=some (.dct ks)/\ks.map (λq=>q.1)=kvs.map (λq=>q.1)/\Dqs (rs (AD D A) G) (ks.map λq=>q.2) (kvs.map λq=>q.2)
section
variable {D:Addr->Prop} {G0 G G':Gp} {A A':Nat->Option Addr} {τ:St3} {ρ:Rho}
def RS.nd (h:RS D G0 A τ ρ G) {i:Nat} {p:Addr} (e:A i=some p):¬ D p:=λz=>h.dm p z (h.fr i p e)
def RS.dom (h:RS D G0 A τ ρ G):Dom (AD D A) G:=λb hb=>by
 rcases hb with hb|⟨i,hi⟩
 ·exact (h.dm.up h.ex) b hb
 ·exact h.da i b hi
def RS.domD (h:RS D G0 A τ ρ G):Dom D G:=h.dm.up h.ex
def RS.up (h:RS D G0 A τ ρ G) (e:Ex G G'):RS D G0 A τ ρ G':=
 ⟨h.ex.trans e,h.dm,h.fr,λi p a z=>(h.da i p a) (by
  cases g:G p with
  |none=>rfl
  |some o=>rw [e _ _ g] at z;cases z),h.inj,h.len,λi d a=>let ⟨t,b,c⟩:=h.sh i d a;⟨t,b,c.up (jL e)⟩,λi ds a=>let ⟨p,xs,b,c,d,f⟩:=h.ow i ds a;⟨p,xs,b,c,e _ _ d,f.up (jL e)⟩,λi ds a=>let ⟨p,xs,b,c,d,k,f⟩:=h.dc i ds a;⟨p,xs,b,c,e _ _ d,k,f.up (jL e)⟩⟩
def RS.viewAll (h:RS D G0 A τ ρ G) (fv:List Nat):WT fv D G τ ρ:=λi _ d hd=>by
 unfold vw at hd;obtain ⟨s,e,hd⟩:=obb hd;have less:Ex (rs (AD D A) G) (rs D G):=zB λb z=>.inl z;cases s with
 |un=>cases hd
 |sh d'=>
  cases hd;obtain ⟨t,b,c⟩:=h.sh i _ e;exact ⟨t,b,c.up less⟩
 |ow ds=>
  cases hd;obtain ⟨p,xs,b,c,g,f⟩:=h.ow i _ e;exact ⟨_,c,.lst (by rw [jJ (h.nd b)];exact g) (f.up less)⟩
 |dc kvs=>cases hd
def RS.view (h:RS D G0 A τ ρ G) {fv:List Nat} (hn:∀ i∈fv,A i=none):WT fv (AD D A) G τ ρ:=λi hi d hd=>by
 unfold vw at hd;obtain ⟨s,e,hd⟩:=obb hd;cases s with
 |un=>cases hd
 |sh d'=>
  cases hd;exact h.sh i _ e
 |ow ds=>
  obtain ⟨p,xs,b,_⟩:=h.ow i _ e;rw [hn i hi] at b;cases b
 |dc kvs=>cases hd
def Sl.dem:Sl->Sl
 |.ow ds=>.sh (.list ds)
 |.dc _=>.un
 |s=>s
def dm:List Bool->Rho->Rho
 |b::m,s::r=>(match b with|true=>s.dem|false=>s)::dm m r
 |_,r=>r
def mkb (m:List Bool) (i:Nat):Bool:=(m[i]?).getD false
def MI:∀ (m:List Bool) (ρ:Rho) (i:Nat),(dm m ρ)[i]?=(ρ[i]?).map λs=>if mkb m i=true then s.dem else s
 |[],ρ,i=>by simp [dm,mkb]
 |b::m,[],i=>by simp [dm]
 |b::m,s::r,0=>by cases b<;>simp [dm,mkb]
 |b::m,s::r,i+1=>by
  have:=MI m r i;simp only [dm,getElem?_cons_succ,mkb] at this ⊢;exact this
def qoA (s:Sl):s.dem.d=s.d:=by cases s<;>rfl
def qnd (m:List Bool) (ρ:Rho) (i:Nat):vw (dm m ρ) i=vw ρ i:=by
 unfold vw;rw [MI];cases ρ[i]? with
 |none=>rfl
 |some s=>
  simp only [Option.map_some,Option.bind_some];split
  ·exact qoA s
  ·rfl
def qdS:∀ (m:List Bool) (ρ:Rho),(dm m ρ).length=ρ.length
 |[],ρ=>rfl
 |b::m,[]=>rfl
 |b::m,s::r=>by simp [dm,qdS m r]
def Ad (m:List Bool) (A:Nat->Option Addr):Nat->Option Addr:=λi=>if mkb m i=true then none else A i
def EO {m:List Bool} {i:Nat} {p:Addr} (h:Ad m A i=some p):A i=some p/\mkb m i=false:=by
 unfold Ad at h;split at h
 ·cases h
 ·rename_i n;exact ⟨h,by simpa using n⟩
def RS.dem (h:RS D G0 A τ ρ G) (m:List Bool):RS D G0 (Ad m A) τ (Pu.dm m ρ) G:=by
 have less:Ex (rs (AD D A) G) (rs (AD D (Ad m A)) G):=zB λb z=>by
  rcases z with z|⟨i,z⟩
  ·exact .inl z
  ·exact .inr ⟨i,(EO z).1⟩
 refine ⟨h.ex,h.dm,λi p e=>h.fr i p (EO e).1,λi p e=>h.da i p (EO e).1,λi j p a b=>h.inj i j p (EO a).1 (EO b).1,by rw [qdS];exact h.len,λi d e=>?_,λi ds e=>?_,λi kvs e=>?_⟩
 ·rw [MI] at e;obtain ⟨s,e1,e2⟩:=Option.map_eq_some_iff.mp e;cases s with
  |un=>split at e2<;>cases e2
  |sh d'=>
   have:d'=d:=by split at e2<;>(cases e2;rfl)
   subst this;obtain ⟨t,b,c⟩:=h.sh i _ e1;exact ⟨t,b,c.up less⟩
  |ow ds=>
   split at e2
   ·rename_i hm;cases e2;obtain ⟨p,xs,b,c,g,f⟩:=h.ow i _ e1;refine ⟨_,c,.lst ?_ (f.up less)⟩;rw [jJ]
    ·exact g
    ·rintro (z|⟨j,z⟩)
     ·exact h.nd b z
     ·have:=h.inj i j p b (EO z).1;subst this;rw [(EO z).2] at hm;cases hm
   ·cases e2
  |dc kvs=>split at e2<;>cases e2
 ·rw [MI] at e;obtain ⟨s,e1,e2⟩:=Option.map_eq_some_iff.mp e;cases s with
  |un=>split at e2<;>cases e2
  |sh d'=>split at e2<;>cases e2
  |ow ds'=>
   split at e2
   ·cases e2
   ·rename_i hm;cases e2;obtain ⟨p,xs,b,c,g,f⟩:=h.ow i _ e1;exact ⟨p,xs,by unfold Ad;rw [if_neg hm];exact b,c,g,f.up less⟩
  |dc kvs=>split at e2<;>cases e2
 ·rw [MI] at e;obtain ⟨s,e1,e2⟩:=Option.map_eq_some_iff.mp e;cases s with
  |un=>split at e2<;>cases e2
  |sh d'=>split at e2<;>cases e2
  |ow ds'=>split at e2<;>cases e2
  |dc ds'=>
   split at e2
   ·cases e2
   ·rename_i hm;cases e2;obtain ⟨p,xs,b,c,g,k,f⟩:=h.dc i _ e1;exact ⟨p,xs,by unfold Ad;rw [if_neg hm];exact b,c,g,k,f.up less⟩
def RS.viewD (h:RS D G0 A τ ρ G) {m:List Bool} {fv:List Nat} (hm:Tru (fv.all (mkb m))):WT fv (AD D (Ad m A)) G τ ρ:=by
 have:=(h.dem m).view (fv:=fv) λi hi=>by unfold Ad;rw [if_pos (List.all_eq_true.mp hm.h i hi)]
 intro i hi d hd;exact this i hi d (by rw [qnd];exact hd)
def Er (A:Nat->Option Addr) (i:Nat):Nat->Option Addr:=λj=>if j=i then none else A j
def DS {i j:Nat} {p:Addr} (h:Er A i j=some p):A j=some p/\j≠i:=by
 unfold Er at h;split at h
 ·cases h
 ·rename_i n;exact ⟨h,n⟩
def RS.put (h:RS D G0 A τ ρ G) (i:Nat) {x:T} {d:PyData} (hx:Dq (rs (AD D A) G) x d):RS D G0 (Er A i) (τ.set i (some x)) (ρ.set i (.sh d)) G:=by
 have less:Ex (rs (AD D A) G) (rs (AD D (Er A i)) G):=zB λb z=>by
  rcases z with z|⟨j,z⟩
  ·exact .inl z
  ·exact .inr ⟨j,(DS z).1⟩
 refine ⟨h.ex,h.dm,λj p e=>h.fr j p (DS e).1,λj p e=>h.da j p (DS e).1,λj k p a b=>h.inj j k p (DS a).1 (DS b).1,by simp [h.len],λj e he=>?_,λj ds e=>?_,λj ds e=>?_⟩
 ·rw [getElem?_set] at he ⊢;split at he
  ·rename_i hj;rw [if_pos hj];split at he
   ·rename_i hl;cases he;exact ⟨x,by rw [if_pos (by rw [← h.len];exact hl)],hx.up less⟩
   ·cases he
  ·rename_i hj;rw [if_neg hj];obtain ⟨t,b,c⟩:=h.sh j _ he;exact ⟨t,b,c.up less⟩
 ·rw [getElem?_set] at e ⊢;split at e
  ·split at e<;>cases e
  ·rename_i hj;rw [if_neg hj];obtain ⟨p,xs,b,c,g,f⟩:=h.ow j _ e;exact ⟨p,xs,by unfold Er;rw [if_neg (λz=>hj z.symm)];exact b,c,g,f.up less⟩
 ·rw [getElem?_set] at e ⊢;split at e
  ·split at e<;>cases e
  ·rename_i hj;rw [if_neg hj];obtain ⟨p,xs,b,c,g,k,f⟩:=h.dc j _ e;exact ⟨p,xs,by unfold Er;rw [if_neg (λz=>hj z.symm)];exact b,c,g,k,f.up less⟩
def RS.puts:∀ {ts:List (Nat×T)} {bs:List (Nat×PyData)} {A:Nat->Option Addr} {τ:St3} {ρ:Rho},RS D G0 A τ ρ G->Bd (rs (AD D A) G) ts bs->∃ A',RS D G0 A' (sets τ ts) (Z4 ρ bs) G
 |_,_,A,_,_,h,.nil=>⟨A,h⟩
 |_,_,A,_,_,h,.cons (i:=i) a b=>by
  unfold sets Z4;exact RS.puts (h.put i a) (b.up (zB λb z=>by
   rcases z with z|⟨j,z⟩
   ·exact .inl z
   ·exact .inr ⟨j,(DS z).1⟩))
def RS.putN (h:RS D G0 A τ ρ G) (i:Nat) {x:T} {d:PyData} {ds:List PyData} (hd:d=.list ds) (E:Ex G G') (hx:Nw (AD D A) G G' x d):RS D G0 (λj=>if j=i then (match x with|.ref p=>some p|_=>none) else A j) (τ.set i (some x)) (ρ.set i (.ow ds)) G':=by
 rcases hx with hx|⟨p,xs,ds',rfl,e',gp,gp',hs⟩
 ·rw [hd] at hx;cases hx
 rw [hd] at e';cases e';have np:∀ {j q},A j=some q->q≠p:=λe=>by rintro rfl;exact h.da _ _ e gp
 have X1:Ex (rs (AD D A) G) (rs (AD D (λj=>if j=i then some p else A j)) G'):=λb o e=>by
  obtain ⟨n,e⟩:=qG e;rw [jJ]
  ·exact E _ _ e
  ·rintro (z|⟨j,z⟩)
   ·exact n (.inl z)
   ·simp only at z;split at z
    ·cases z;rw [gp] at e;cases e
    ·exact n (.inr ⟨j,z⟩)
 refine ⟨h.ex.trans E,h.dm,λj q e=>?_,λj q e=>?_,λj k q a b=>?_,by simp [h.len],λj e he=>?_,λj es e=>?_,λj es e=>?_⟩
 ·simp only at e;split at e
  ·cases e;cases z:G0 p with
   |none=>rfl
   |some o=>rw [h.ex _ _ z] at gp;cases gp
  ·exact h.fr j q e
 ·simp only at e;split at e
  ·cases e;rw [gp'];simp
  ·exact (h.up E).da j q e
 ·simp only at a b;split at a
  ·cases a;split at b
   ·rename_i h1 h2;rw [h1,h2]
   ·exact absurd rfl (np b)
  ·split at b
   ·cases b;exact absurd rfl (np a)
   ·exact h.inj j k q a b
 ·rw [getElem?_set] at he ⊢;split at he
  ·split at he<;>cases he
  ·rename_i hj;rw [if_neg hj];obtain ⟨t,b,c⟩:=h.sh j _ he;exact ⟨t,b,c.up X1⟩
 ·rw [getElem?_set] at e ⊢;split at e
  ·rename_i hj;subst hj;split at e
   ·rename_i hl;cases e;refine ⟨p,xs,by simp,by rw [if_pos rfl,if_pos (by rw [← h.len];exact hl)],gp',hs.up (zB λb z=>?_)⟩;rcases z with z|⟨j,z⟩
    ·exact .inl (.inl z)
    ·simp only at z;split at z
     ·cases z;exact .inr rfl
     ·exact .inl (.inr ⟨j,z⟩)
   ·cases e
  ·rename_i hj;rw [if_neg hj];obtain ⟨q,ys,b,c,g,f⟩:=h.ow j _ e;exact ⟨q,ys,by rw [if_neg (λz=>hj z.symm)];exact b,c,E _ _ g,f.up X1⟩
 ·rw [getElem?_set] at e ⊢;split at e
  ·split at e<;>cases e
  ·rename_i hj;rw [if_neg hj];obtain ⟨q,ys,b,c,g,k,f⟩:=h.dc j _ e;exact ⟨q,ys,by rw [if_neg (λz=>hj z.symm)];exact b,c,E _ _ g,k,f.up X1⟩
def RS.wr (h:RS D G0 A τ ρ G) {i:Nat} {p:Addr} {xs:List T} {ds:List PyData} (hi:A i=some p) (ht:τ[i]?=some (some (.ref p))) (hs:Dqs (rs (AD D A) G) xs ds):RS D G0 A τ (ρ.set i (.ow ds)) (gu G p (.lst xs)):=by
 have X1:Ex (rs (AD D A) G) (rs (AD D A) (gu G p (.lst xs))):=λb o e=>by
  obtain ⟨n,e⟩:=qG e;rw [jJ n,zS (by rintro rfl;exact n (.inr ⟨i,hi⟩))];exact e
 refine ⟨λb o e=>?_,h.dm,h.fr,λj q e=>?_,h.inj,by simp [h.len],λj e he=>?_,λj es e=>?_,λj es e=>?_⟩
 ·rw [zS (by rintro rfl;rw [h.fr i _ hi] at e;cases e)];exact h.ex _ _ e
 ·by_cases z:q=p
  ·subst z;rw [qq];simp
  ·rw [zS z];exact h.da j q e
 ·rw [getElem?_set] at he;split at he
  ·split at he<;>cases he
  ·obtain ⟨t,b,c⟩:=h.sh j _ he;exact ⟨t,b,c.up X1⟩
 ·rw [getElem?_set] at e;split at e
  ·rename_i hj;subst hj;split at e
   ·cases e;exact ⟨p,xs,hi,ht,qq,hs.up X1⟩
   ·cases e
  ·rename_i hj;obtain ⟨q,ys,b,c,g,f⟩:=h.ow j _ e;exact ⟨q,ys,b,c,by rw [zS (by rintro rfl;exact hj (h.inj i j _ hi b))];exact g,f.up X1⟩
 ·rw [getElem?_set] at e;split at e
  ·split at e<;>cases e
  ·rename_i hj;obtain ⟨q,ys,b,c,g,k,f⟩:=h.dc j _ e;exact ⟨q,ys,b,c,by rw [zS (by rintro rfl;exact hj (h.inj i j _ hi b))];exact g,k,f.up X1⟩
def RS.base {Gb:Gp} (h:RS D Gb A τ ρ G) (e:Ex G0 Gb) (hd:Dom D G0):RS D G0 A τ ρ G:=
 ⟨e.trans h.ex,hd,(λi p a=>by
  cases z:G0 p with
  |none=>rfl
  |some o=>have:=h.fr i p a;rw [e _ _ z] at this;cases this),h.da,h.inj,h.len,h.sh,h.ow,h.dc⟩
end
inductive Ot where
 |nx (ρ:Rho)|bk (ρ:Rho)|ct (ρ:Rho)|rt (d:PyData) (fr:Bool)
def qgP (D:Addr->Prop) (G0:Gp) (e:Ends3):Ot->Prop
 |.nx ρ=>∀ A τ G,RS D G0 A τ ρ G->e.nx τ G
 |.bk ρ=>∀ A τ G,RS D G0 A τ ρ G->e.bk τ G
 |.ct ρ=>∀ A τ G,RS D G0 A τ ρ G->e.ct τ G
 |.rt d fr=>∀ x G,Ex G0 G->Dq (rs D G) x d->(fr=true->Nw D G0 G x d)->e.rt x G
def qgP.base {D:Addr->Prop} {G0 Gb:Gp} {e:Ends3} {o:Ot} (h:qgP D G0 e o) (x:Ex G0 Gb) (hd:Dom D G0):qgP D Gb e o:=by
 cases o with
 |nx ρ=>exact λA τ G r=>h A τ G (r.base x hd)
 |bk ρ=>exact λA τ G r=>h A τ G (r.base x hd)
 |ct ρ=>exact λA τ G r=>h A τ G (r.base x hd)
 |rt d fr=>exact λy G a b c=>h y G (x.trans a) b λz=>(c z).back x
structure PuS (t:TS3) where
 f:Nat->Rho->Option Ot
 ok:∀ {D G0 A τ ρ G n o} {e:Ends3},RS D G0 A τ ρ G->f n ρ=some o->qgP D G0 e o->t e τ G
def DX:PuS qt:=⟨λ_ ρ=>some (.nx ρ),λh hf k=>by cases hf;exact k _ _ _ h⟩
def qpK:PuS WL:=⟨λ_ ρ=>none,λh hf k=>by cases hf⟩
def qmc (a b:Nat->Rho->Option Ot) (n:Nat) (ρ:Rho):Option Ot:=(a n ρ).bind λo=>match o with|.nx ρ'=>b n ρ'|o=>some o
def DQ {t u:TS3} (a:PuS t) (b:PuS u):PuS (qv t u):=⟨qmc a.f b.f,λ{D G0 A τ ρ G n o e} h hf k=>by
 unfold qmc at hf;obtain ⟨o1,e1,hf⟩:=obb hf;refine a.ok h e1 ?_;cases o1 with
 |nx ρ'=>exact λA' τ' G' h'=>b.ok h' hf k
 |bk ρ'=>cases hf;exact k
 |ct ρ'=>cases hf;exact k
 |rt d fr=>cases hf;exact k⟩
def sIf {c:TT3} {t u:TS3} (pc:PuC c) (a:PuS t) (b:PuS u):PuS (qY c t u):=⟨λn ρ=>(pc.f ρ).bind λk=>if k then a.f n ρ else b.f n ρ,λh hf k=>by
 obtain ⟨o1,e1,hf⟩:=obb hf;refine pc.ok (h.viewAll _) h.domD e1 λG1 E1=>?_;cases o1 with
 |true=>exact a.ok (h.up E1) hf k
 |false=>exact b.ok (h.up E1) hf k⟩
def CS {t:TE3} (a:PuE t):PuS (qH t):=⟨λ_ ρ=>(a.f ρ).map λd=>.rt d a.nw,λh hf k=>by
 obtain ⟨d,e1,rfl⟩:=Option.map_eq_some_iff.mp hf;exact a.ok (h.viewAll _) h.domD e1 λx G1 E1 D1 N1=>k x G1 (h.ex.trans E1) D1 λz=>(N1 z).back h.ex⟩
def qbM (ρ:Rho) (i:Nat):Option Ot:=match ρ[i]? with|some (.ow ds)=>some (.rt (.list ds) true)|some (.sh d)=>some (.rt d false)|_=>none
def qgt (i:Nat):PuS (qH (v3 i)):=⟨λ_ ρ=>qbM ρ i,λh hf k=>by
 unfold qbM at hf;split at hf
 ·rename_i ds e;cases hf;obtain ⟨p,xs,b,c,g,f⟩:=h.ow i _ e;simp only [qH,v3,c];refine k _ _ h.ex (.lst (by rw [jJ (h.nd b)];exact g) (f.up (zB λb z=>.inl z))) λ_=>.inr ⟨p,xs,ds,rfl,rfl,h.fr i p b,g,f.up (zB λq z=>?_)⟩;rcases z with z|z
  ·exact .inl z
  ·subst z;exact .inr ⟨i,b⟩
 ·rename_i d e;cases hf;obtain ⟨t,b,c⟩:=h.sh i _ e;simp only [qH,v3,b];exact k _ _ h.ex (c.up (zB λb z=>.inl z)) (λz=>by cases z)
 ·cases hf⟩
def US {H H':Gp} {x:T} {d:PyData} (h:Dq H x d) (s:qbm d=true):Dq H' x d:=by
 cases h<;>first|(constructor;done)|(simp [qbm] at s;done)
def qpp:PyData->Sl
 |.list ds=>.ow ds
 |d=>.sh d
def qbh (m:List Bool) (nw:Bool) (i:Nat) (d:PyData) (ρ:Rho):Rho:=if qbm d then ρ.set i (.sh d) else (dm m ρ).set i (if nw then qpp d else .sh d)
def qgI {t:TE3} (a:PuE t) (i:Nat) (m:List Bool) (hm:Tru (a.fv.all (mkb m))):PuS (qJ t (gn3 i)):=⟨λ_ ρ=>(a.f ρ).map λd=>.nx (qbh m a.nw i d ρ),λ{D G0 A τ ρ G n o e} h hf k=>by
 obtain ⟨d,e1,rfl⟩:=Option.map_eq_some_iff.mp hf;refine a.ok (h.viewD hm) (h.dem m).dom e1 λx G1 E1 D1 N1=>?_;unfold qbh at k;show e.nx (τ.set i (some x)) G1;split at k
 ·rename_i hs;exact k _ _ _ ((h.up E1).put i (US D1 hs))
 ·split at k
  ·rename_i hn;have N:=N1 hn;rcases id N with h2|⟨p,xs,ds,h1,h2,_⟩
   ·exact absurd h2 (by assumption)
   subst h2;exact k _ _ _ ((h.dem m).putN i rfl E1 N)
  ·exact k _ _ _ (((h.dem m).up E1).put i D1)⟩
def qaw {t:TE3} {g:TG3} (a:PuE t) (pg:PuG g) (m:List Bool) (hm:Tru (a.fv.all (mkb m))):PuS (qJ t g):=⟨λ_ ρ=>(a.f ρ).bind λd=>(pg.f d).map λbs=>.nx (Z4 (dm m ρ) bs),λ{D G0 A τ ρ G n o e} h hf k=>by
 obtain ⟨d,e1,hf⟩:=obb hf;obtain ⟨bs,e2,rfl⟩:=Option.map_eq_some_iff.mp hf;refine a.ok (h.viewD hm) (h.dem m).dom e1 λx G1 E1 D1 N1=>?_;obtain ⟨ts,bd,kg⟩:=pg.ok D1 e2;refine kg _ _ _ ?_;obtain ⟨A',h'⟩:=((h.dem m).up E1).puts bd;exact k _ _ _ h'⟩
def qd5 (i j:Nat) (m:List Bool) (ds:List PyData) (ρ:Rho):Option Ot:=match ds with
 |[d,e]=>if qbm d&&qbm e then some (.nx ((ρ.set i (.sh d)).set j (.sh e))) else some (.nx (((dm m ρ).set i (.sh d)).set j (.sh e)))
 |_=>none
def qe5 {D:Addr->Prop} {A:Nat->Option Addr} {G:Gp} {i:Nat}:Ex (rs (AD D A) G) (rs (AD D (Er A i)) G):=zB λb z=>by
 rcases z with z|⟨j,z⟩
 ·exact .inl z
 ·exact .inr ⟨j,(DS z).1⟩
def qpc {t:TA3} (a:PuA t) (i j:Nat) (m:List Bool) (hm:Tru (a.fv.all (mkb m))):PuS (QS i j t):=⟨λ_ ρ=>(a.f ρ).bind λds=>qd5 i j m ds ρ,λ{D G0 A τ ρ G n o e} h hf k=>by
 obtain ⟨ds,e1,hf⟩:=obb hf;refine a.ok (h.viewD hm) (h.dem m).dom e1 λx G1 E1 D1=>?_;unfold qd5 at hf;split at hf
 ·cases D1 with
  |cons a b=>cases b with
   |cons b c=>
    cases c;split at hf
    ·rename_i hs;cases hf;rw [Bool.and_eq_true] at hs;exact k _ _ _ (((h.up E1).put i (US a hs.1)).put j (US b hs.2))
    ·cases hf;exact k _ _ _ ((((h.dem m).up E1).put i a).put j (b.up qe5))
 ·cases hf⟩
def slot (ρ:Rho) (i:Nat):Option (List PyData):=match ρ[i]? with|some (.ow ds)=>some ds|_=>none
def XR {ρ:Rho} {i:Nat} {ds:List PyData} (h:slot ρ i=some ds):ρ[i]?=some (.ow ds):=by
 unfold slot at h;split at h
 ·rename_i e;cases h;exact e
 ·cases h
def dmS (m:List Bool) (d:PyData) (ρ:Rho):Rho:=if qbm d then ρ else dm m ρ
def RS.evalS {D:Addr->Prop} {G0 G:Gp} {A:Nat->Option Addr} {τ:St3} {ρ:Rho} (h:RS D G0 A τ ρ G) {t:TE3} (a:PuE t) (m:List Bool) (hm:Tru (a.fv.all (mkb m))) {d:PyData} (hf:a.f ρ=some d):∃ A1,RS D G0 A1 τ (dmS m d ρ) G/\∀ q:Q3,(∀ x G',Ex G G'->Dq (rs (AD D A1) G') x d->q x G')->t τ G q:=by
 unfold dmS;by_cases hs:qbm d=true
 ·rw [if_pos hs];exact ⟨A,h,λq k=>a.ok (h.viewAll _) h.domD hf λx G1 E1 D1 _=>k x G1 E1 (US D1 hs)⟩
 ·rw [if_neg hs];exact ⟨Ad m A,h.dem m,λq k=>a.ok (h.viewD hm) (h.dem m).dom hf λx G1 E1 D1 _=>k x G1 E1 D1⟩
def qit (i:Nat) (d:PyData) (ρ:Rho):Option Ot:=match d with|.list es=>(slot ρ i).bind λds=>cif (ds.length+es.length<=sizeLine) (some (.nx (ρ.set i (.ow (ds++es))))) none|_=>none
def qmn {t:TE3} (a:PuE t) (i:Nat) (m:List Bool) (hm:Tru (a.fv.all (mkb m))):PuS (zZ (bm3 DM (v3 i) (qb t qg))):=⟨λ_ ρ=>(a.f ρ).bind λd=>qit i d (dmS m d ρ),λ{D G0 A τ ρ G n o e} h hf k=>by
 obtain ⟨d,e1,hf⟩:=obb hf;obtain ⟨A1,h1,ev⟩:=h.evalS a m hm e1;unfold qit at hf;split at hf
 ·obtain ⟨ds,e2,hf⟩:=obb hf;unfold cif at hf;split at hf
  ·rename_i hl;cases hf;obtain ⟨p,xs,b,c,g,f⟩:=h1.ow i _ (XR e2);simp only [zZ,bm3,v3,c,zI g];refine ⟨rfl,ev _ λx G1 E1 D1=>?_⟩;cases D1 with
   |lst g2 hs2=>
    simp only [qg,DM,E1 _ _ g,(qG g2).2];exact ⟨by rw [f.length,hs2.length];exact hl,k _ _ _ ((h1.up E1).wr b c ((f.up (jL E1)).append hs2))⟩
  ·cases hf
 ·cases hf⟩
def MS (gf:PyData->Option (List (Nat×PyData))) (bf:Rho->Option Ot):List PyData->Rho->Option Ot
 |[],ρ=>some (.nx ρ)
 |d::r,ρ=>(gf d).bind λbs=>(bf (Z4 ρ bs)).bind λo=>match o with
  |.nx ρ'=>MS gf bf r ρ'
  |.ct ρ'=>MS gf bf r ρ'
  |.bk ρ'=>some (.nx ρ')
  |.rt d b=>some (.rt d b)
def KL {stay:Gp->Prop} {g:TG3} {tb:TS3} {e:Ends3} (pg:PuG g) (pb:PuS tb) {D:Addr->Prop} {G0:Gp} {n:Nat} {o:Ot} {items0:List T} (hs:∀ A τ ρ G,RS D G0 A τ ρ G->stay G) (k:qgP D G0 e o) :
  ∀ (ds:List PyData) (items:List T),(∀ A τ ρ G,RS D G0 A τ ρ G->Dqs (rs (AD D A) G) items ds)->∀ A τ ρ G,RS D G0 A τ ρ G->MS pg.f (pb.f n) ds ρ=some o->CF stay g tb e items τ G
 |[],items,hi,A,τ,ρ,G,h,hf=>by
  cases hf;have:=hi _ _ _ _ h;cases this;exact ⟨hs _ _ _ _ h,k _ _ _ h⟩
 |d::ds,items,hi,A,τ,ρ,G,h,hf=>by
  have hh:=hi _ _ _ _ h;cases hh with
  |cons hx hr=>
   rename_i x items;unfold MS at hf;obtain ⟨bs,e1,hf⟩:=obb hf;obtain ⟨o1,e2,hf⟩:=obb hf;obtain ⟨ts,bd,kg⟩:=pg.ok hx e1;refine ⟨hs _ _ _ _ h,kg _ _ _ ?_⟩;obtain ⟨A',h'⟩:=h.puts bd;refine pb.ok h' e2 ?_;have hi':∀ A τ ρ G,RS D G0 A τ ρ G->Dqs (rs (AD D A) G) items ds:=λA τ ρ G h=>by
    have:=hi _ _ _ _ h;cases this with
    |cons a b=>exact b
   cases o1 with
   |nx ρ'=>exact λA2 τ2 G2 h2=>KL (items0:=items0) pg pb hs k ds items hi' _ _ _ _ h2 hf
   |ct ρ'=>exact λA2 τ2 G2 h2=>KL (items0:=items0) pg pb hs k ds items hi' _ _ _ _ h2 hf
   |bk ρ'=>cases hf;exact k
   |rt d fr=>cases hf;exact k
def qig (pi:Rho->Option (List PyData)) (nm:Bool) (m:List Bool) (gf:PyData->Option (List (Nat×PyData))) (bf:Nat->Rho->Option Ot) (n:Nat) (ρ:Rho):Option Ot:=(pi ρ).bind λds=>MS gf (bf n) ds (if nm then ρ else dm m ρ)
def qmi {wi:TI3} {g:TG3} {tb:TS3} (pi:PuI wi) (pg:PuG g) (pb:PuS tb) (m:List Bool) (hm:Tru (pi.fv.all (mkb m))):PuS (WF wi g tb):=⟨qig pi.f pi.nm m pg.f pb.f,λ{D G0 A τ ρ G n o e} h hf k=>by
 unfold qig at hf;obtain ⟨ds,e1,hf⟩:=obb hf;refine pi.ok (h.viewD hm) (h.dem m).dom e1 λitems stay G1 E1 D1 hs hnm=>?_;cases hb:pi.nm with
 |true=>
  rw [hb,if_pos rfl] at hf;obtain ⟨ns,rfl⟩:=hnm hb;have:=D1.ints;subst this;exact KL (items0:=[]) pg pb (λ_ _ _ _ _=>hs _ (.inl hb)) k _ _ (λA τ ρ G _=>Dqs.ofInts _) _ _ _ _ (h.up E1) hf
 |false=>
  rw [hb,if_neg Bool.false_ne_true] at hf;have h1:=(h.dem m).up E1;have b1:Ex G0 (rs (λb=>∃ i,Ad m A i=some b) G1):=λb o e=>by
   rw [jJ]
   ·exact h1.ex _ _ e
   ·rintro ⟨i,z⟩;rw [h1.fr i _ z] at e;cases e
  have h2:RS D (rs (λb=>∃ i,Ad m A i=some b) G1) (Ad m A) τ (dm m ρ) G1:=⟨J5,h.dm.up b1,λi p z=>by unfold rs;exact zA ⟨i,z⟩,h1.da,h1.inj,h1.len,h1.sh,h1.ow,h1.dc⟩
  have X:∀ A2 τ2 ρ2 G2,RS D (rs (λb=>∃ i,Ad m A i=some b) G1) A2 τ2 ρ2 G2->Ex (rs (AD D (Ad m A)) G1) (rs (AD D A2) G2):=λA2 τ2 ρ2 G2 r b o e=>by
   obtain ⟨n1,e⟩:=qG e;have eb:rs (λb=>∃ i,Ad m A i=some b) G1 b=some o:=by rw [jJ (λz=>n1 (.inr z))];exact e
   rw [jJ]
   ·exact r.ex _ _ eb
   ·rintro (z|⟨i,z⟩)
    ·exact n1 (.inl z)
    ·rw [r.fr i _ z] at eb;cases eb
  exact KL (items0:=[]) pg pb (λA2 τ2 ρ2 G2 r=>hs _ (.inr ((X _ _ _ _ r).trans J5))) (k.base b1 h.dm) _ _ (λA2 τ2 ρ2 G2 r=>D1.up (X _ _ _ _ r)) _ _ _ _ h2 hf⟩
def WZ (fr:Bool):Option Ot->Option PyData
 |some (.rt d b)=>if fr=true/\b=false then (match d with|.none=>some .none|_=>none) else some d
 |some (.nx _)=>if fr then none else some .none
 |_=>none
def st (ds:List PyData) (N:Nat):Rho:=ds.map Sl.sh++List.replicate (N-ds.length) .un
def run (f:Nat->Rho->Option Ot) (k N n:Nat) (fr:Bool) (ds:List PyData):Option PyData:=if ds.length=k then WZ fr (f n (st ds N)) else none
def jZ {t:TS3} (b:PuS t) (N:List Str) (k n:Nat) (fr:Bool):∀ ts G q,PSp (run b.f k N.length n fr) fr ts G q->ts.length=k/\t { nx:=λ_ G'=>q .non G',rt:=q } (qk N ts) G:=by
 rintro ts G q ⟨D,ds,d,hs,hd,hf,h⟩;unfold run at hf;split at hf
 ·rename_i hk;refine ⟨by rw [hs.length];exact hk,?_⟩;have r:RS D G (λ_=>none) (qk N ts) (st ds N.length) G:=by
   refine ⟨Ex.refl,hd,(λi p e=>by cases e),(λi p e=>by cases e),(λi j p e=>by cases e),(by simp [st,qk,hs.length]),λi d' e=>?_,λi es e=>?_,λi es e=>?_⟩
   ·unfold st at e;unfold qk;by_cases hi:i<ds.length
    ·rw [List.getElem?_append_left (by simpa using hi),getElem?_map] at e;obtain ⟨d2,e3,e4⟩:=Option.map_eq_some_iff.mp e;cases e4;obtain ⟨x,e5,hx⟩:=hs.get e3;refine ⟨x,?_,hx.up (zB λb z=>?_)⟩
     ·rw [List.getElem?_append_left (by simp [hs.length];exact hi),getElem?_map,e5];rfl
     ·rcases z with z|⟨i,z⟩
      ·exact z
      ·cases z
    ·rw [List.getElem?_append_right (by simpa using hi),List.getElem?_replicate] at e;split at e<;>cases e
   ·unfold st at e;by_cases hi:i<ds.length
    ·rw [List.getElem?_append_left (by simpa using hi),getElem?_map] at e;obtain ⟨d2,e3,e4⟩:=Option.map_eq_some_iff.mp e;cases e4
    ·rw [List.getElem?_append_right (by simpa using hi),List.getElem?_replicate] at e;split at e<;>cases e
   ·unfold st at e;by_cases hi:i<ds.length
    ·rw [List.getElem?_append_left (by simpa using hi),getElem?_map] at e;obtain ⟨d2,e3,e4⟩:=Option.map_eq_some_iff.mp e;cases e4
    ·rw [List.getElem?_append_right (by simpa using hi),List.getElem?_replicate] at e;split at e<;>cases e
  unfold WZ at hf;split at hf
  ·rename_i d' b' e;split at hf
   ·split at hf
    ·cases hf;exact b.ok r e λx G' a c z=>h x G' a c λ_=>.inl rfl
    ·cases hf
   ·rename_i hb;cases hf;exact b.ok r e λx G' a c z=>h x G' a c λw=>z (by
     cases b' with
     |true=>rfl
     |false=>exact absurd ⟨w,rfl⟩ hb)
  ·rename_i ρ' e;split at hf
   ·cases hf
   ·rename_i hb;cases hf;exact b.ok r e λA τ G' r'=>h .non G' r'.ex .non λw=>absurd w hb
  ·cases hf
 ·cases hf
mutual
def tD:T->Option PyData
 |.non=>some .none|.bl b=>some (.bool b)|.int i=>some (.int i)|.str x=>some (.str x)|.tup xs=>(tDs xs).map .tuple|.ref _=>none
def tDs:List T->Option (List PyData)
 |[]=>some []
 |x::r=>(tD x).bind λd=>(tDs r).map (d::·)
end
mutual
def qky {G:Gp}:∀ (t:T) {d:PyData},tD t=some d->Dq G t d
 |.non,_,h=>by cases h;exact .non
 |.bl b,_,h=>by cases h;exact .bl b
 |.int b,_,h=>by cases h;exact .int b
 |.str b,_,h=>by cases h;exact .str b
 |.tup xs,_,h=>by
  unfold tD at h;obtain ⟨ds,e,rfl⟩:=Option.map_eq_some_iff.mp h;exact .tup (qdM xs e)
 |.ref _,_,h=>by cases h
def qdM {G:Gp}:∀ (t:List T) {d:List PyData},tDs t=some d->Dqs G t d
 |[],_,h=>by cases h;exact .nil
 |x::r,_,h=>by
  unfold tDs at h;obtain ⟨d,e,h⟩:=obb h;obtain ⟨ds,e2,rfl⟩:=Option.map_eq_some_iff.mp h;exact .cons (qky x e) (qdM r e2)
end
def asS:PyData->Option Str
 |.str s=>some s
 |_=>none
def qdj {d:PyData} {b:Str} (h:asS d=some b):d=.str b:=by cases d<;>simp [asS] at h;subst h;rfl
def qkc (tab:List (Str×T)) {te:TE3} (a:PuE te):PuE (qci tab te):=⟨λρ=>((a.f ρ).bind asS).bind λs=>(jj tab s).bind tD,a.fv,false,λhv hd hf k=>by
 obtain ⟨s,e1,hf⟩:=obb hf;obtain ⟨d,e1,e2⟩:=obb e1;have:=qdj e2;subst this;obtain ⟨t,e3,hf⟩:=obb hf;refine a.ok hv hd e1 λx' G1 E1 D1 _=>?_;cases D1;simp only [e3];exact k _ _ E1 (qky t hf) (λz=>by cases z)⟩
def qbL:List Str->List PyData->Str->Option PyData
 |k::ks,x::xs,s=>if k=s then some x else qbL ks xs s
 |_,_,_=>none
def NP {G:Gp}:∀ (ks:List Str) {xs:List T} {ds:List PyData} {s:Str} {d:PyData},Dqs G xs ds->qbL ks ds s=some d->∃ x,jj (ks.zip xs) s=some x/\Dq G x d
 |[],_,_,_,_,_,h=>by simp [qbL] at h
 |k::ks,_,_,_,_,.nil,h=>by simp [qbL] at h
 |k::ks,_,_,s,d,.cons a b,h=>by
  unfold qbL at h;simp only [List.zip_cons_cons,jj];split at h
  ·rename_i e;cases h;exact ⟨_,by rw [if_pos e],a⟩
  ·rename_i e;obtain ⟨x,h1,h2⟩:=NP ks b h;exact ⟨x,by rw [if_neg e];exact h1,h2⟩
def qkm (ks:List Str) {t:TA3} {te:TE3} (a:PuA t) (b:PuE te):PuE (qfK ks t te):=⟨λρ=>(a.f ρ).bind λds=>((b.f ρ).bind asS).bind λs=>qbL ks ds s,a.fv++b.fv,false,λhv hd hf k=>by
 obtain ⟨ds,e1,hf⟩:=obb hf;obtain ⟨s,e2,hf⟩:=obb hf;obtain ⟨d,e2,e3⟩:=obb e2;have:=qdj e3;subst this;refine a.ok hv.l hd e1 λxs G1 E1 D1=>b.ok (hv.r.up E1) (hd.up E1) e2 λy G2 E2 D2 _=>?_;cases D2;obtain ⟨x,h1,h2⟩:=NP ks (D1.up (jL E2)) hf;simp only [h1];exact k _ _ (E1.trans E2) h2 (λz=>by cases z)⟩
def qoG {i:Nat}:(bV i).f=λρ=>vw ρ i:=id rfl
def qcI {i:Int}:(zC i).f=λ_=>some (.int i):=id rfl
def qiD {i:Bool}:(bBl i).f=λ_=>some (.bool i):=id rfl
def qer {i:Str}:(qbk i).f=λ_=>some (.str i):=id rfl
def qeu:qoj.f=λ_=>some .none:=id rfl
def qoP {r:R3} {ta tb:TE3} {R:OpD r} {a:PuE ta} {b:PuE tb}:(bO R a b).f=λρ=>(a.f ρ).bind λx=>(b.f ρ).bind λy=>R.f x y:=id rfl
def qeh:zc.f=λ_=>some []:=id rfl
def NY {ta:TE3} {tr:TA3} {a:PuE ta} {r:PuA tr}:(qj a r).f=λρ=>(a.f ρ).bind λx=>(r.f ρ).bind λxs=>some (x::xs):=id rfl
def qcH {t:TA3} {a:PuA t} {hn:Tru (Nat.ble a.n 1000)}:(YZ a hn).f=λρ=>(a.f ρ).map .tuple:=id rfl
def qdz {t:TA3} {a:PuA t} {hn:Tru (Nat.ble a.n 1000)}:(MU a hn).f=λρ=>(a.f ρ).map .list:=id rfl
def NU {r:List T->Gp->Q3->Prop} {t:TA3} {R:FnD r} {a:PuA t}:(zR R a).f=λρ=>(a.f ρ).bind R.f:=id rfl
def qk4 {t:TE3} {a:PuE t}:(bTb a).f=λρ=>(a.f ρ).bind asB:=id rfl
def qc1 {t u:TT3} {a:PuC t} {b:PuC u}:(qo3 a b).f=λρ=>(a.f ρ).bind λk=>if k then b.f ρ else some false:=id rfl
def qiC {t u:TT3} {a:PuC t} {b:PuC u}:(bOr a b).f=λρ=>(a.f ρ).bind λk=>if k then some true else b.f ρ:=id rfl
def qdO {t:TT3} {a:PuC t}:(qgM a).f=λρ=>(a.f ρ).map (! ·):=id rfl
def qh5:bTt.f=λ_=>some true:=id rfl
def NF {ta tb:TE3} {a:PuE ta} {b:PuE tb}:(DC a b).f=λρ=>((a.f ρ).bind asB).bind λk=>if k then b.f ρ else some (.bool false):=id rfl
def qaR {ta:TE3} {a:PuE ta}:(qlC a).f=λρ=>((a.f ρ).bind asB).map λk=>.bool (!k):=id rfl
def qdQ {ta:TE3} {a:PuE ta}:(qa0 a).f=λρ=>((a.f ρ).bind asI).map λi=>.int (-i):=id rfl
def ql0 {r r':R3} {ta tb tc:TE3} {R:OpD r} {R':OpD r'} {a:PuE ta} {b:PuE tb} {c:PuE tc}:(bCh R R' a b c).f=λρ=>(a.f ρ).bind λx=>(b.f ρ).bind λy=>((R.f x y).bind asB).bind λk=>if k then (c.f ρ).bind λz=>R'.f y z else some (.bool false):=id rfl
def qdG {ta:TE3} {g:String->Bool} {a:PuE ta}:(MT g a).f=λρ=>(a.f ρ).bind λd=>(tyD d).map λt=>.bool (g t):=id rfl
def qhQ {t:TE3} {a:PuE t}:(bSp a).f=λρ=>((a.f ρ).bind asI).map some:=id rfl
def qiK {te:TE3} {tl th:TO3} {a:PuE te} {l:PuO tl} {h:PuO th}:(bSl a l h).f=λρ=>(a.f ρ).bind λd=>(l.f ρ).bind λlo=>(h.f ρ).bind λhi=>slD d lo hi:=id rfl
def M6 {tab:List (Str×T)} {te:TE3} {a:PuE te}:(qkc tab a).f=λρ=>((a.f ρ).bind asS).bind λs=>(jj tab s).bind tD:=id rfl
def M1 {ks:List Str} {t:TA3} {te:TE3} {a:PuA t} {b:PuE te}:(qkm ks a b).f=λρ=>(a.f ρ).bind λds=>((b.f ρ).bind asS).bind λs=>qbL ks ds s:=id rfl
def qk0 {wi:TI3} {g:TG3} {tif:TT3} {te:TE3} {pi:PuI wi} {pg:PuG g} {pc:PuC tif} {pe:PuE te} {m:List (Option Nat)} {hm:Tru (pg.tg.all λi=>m[i]?==some none)}:(bLc pi pg pc pe m hm).f=lcF pi.f (lcH pg.f pc.f pe.f) m:=id rfl
def qdN {wi wi2:TI3} {g g2:TG3} {tif tif2:TT3} {te:TE3} {pi:PuI wi} {pg:PuG g} {pc:PuC tif} {pi2:PuI wi2} {pg2:PuG g2} {pc2:PuC tif2} {pe:PuE te} {m:List (Option Nat)} {hm:Tru (pg.tg.all λi=>m[i]?==some none)} {hm2:Tru (pg2.tg.all λi=>m[i]?==some none)} {hdj:Tru (pg2.tg.all λi=>!pg.tg.contains i)}:(qnH pi pg pc pi2 pg2 pc2 pe m hm hm2 hdj).f=qkT pi.f (qg7 pg.f pc.f pi2.f (lcH pg2.f pc2.f pe.f)) m:=id rfl
def qcY:qoq.f=qhZ:=id rfl
def qeY:qo5.f=qma:=id rfl
def qcW:qih.f=qmk:=id rfl
def qdg:qnF.f=qjo:=id rfl
def NJ:qgb.f=mnD:=id rfl
def qaI:qf4.f=mxD:=id rfl
def qaM {F:List PyData->Option PyData} {fr:Bool}:(Q7 F fr).f=F:=id rfl
def qiB {g:Int->Int->Int} {i j:Int}:(opI g).f (.int i) (.int j)=some (.int (g i j)):=id rfl
def qjO {g:Int->Int->Bool} {i j:Int}:(opB g).f (.int i) (.int j)=some (.bool (g i j)):=id rfl
def qj2 {C:Int->Int->Prop} {g:Int->Int->Int}:(opC C g).f=cI C g:=id rfl
def qdH {n:Bool}:(qah n).f=eqD n:=id rfl
def qdV {n:Bool}:(qo2 n).f=inD n:=id rfl
def qaD {n:Bool}:(qfH n).f=qf3 n:=id rfl
def qeP:Z1.f=ixD:=id rfl
def qaU:RJ.f=qmd:=id rfl
def KK:RD.f=qfn:=id rfl
def qcO {t:TE3} {a:PuE t}:(N2 a).f=λρ=>(a.f ρ).bind qbY:=id rfl
def qdI {t:TA3} {a:PuA t}:(MW a).f=λρ=>(a.f ρ).bind qfT:=id rfl
def qay {t:TE3} {a:PuE t}:(N2 a).nm=false:=id rfl
def qbg {t:TA3} {a:PuA t}:(MW a).nm=true:=id rfl
def qpf {i:Nat}:(gN i).f=λd=>some [(i,d)]:=id rfl
def qcM:MZ.f []=some []:=id rfl
def qa5 {t:TG3} {u:SN} {a:PuG t} {b:PuGs u} {d:PyData} {r:List PyData}:(jS a b).f (d::r)=(a.f d).bind λx=>(b.f r).map λy=>x++y:=id rfl
def qeo {u:SN} {n:Nat} {b:PuGs u} {ds:List PyData}:(M0 n b).f (.tuple ds)=if ds.length=n then b.f ds else none:=id rfl
def N7:DX.f=λ_ ρ=>some (.nx ρ):=id rfl
def qes {t u:TS3} {a:PuS t} {b:PuS u}:(DQ a b).f=qmc a.f b.f:=id rfl
def qiX {c:TT3} {t u:TS3} {pc:PuC c} {a:PuS t} {b:PuS u}:(sIf pc a b).f=λn ρ=>(pc.f ρ).bind λk=>if k then a.f n ρ else b.f n ρ:=id rfl
def qcK {t:TE3} {a:PuE t}:(CS a).f=λ_ ρ=>(a.f ρ).map λd=>.rt d a.nw:=id rfl
def N0 {i:Nat}:(qgt i).f=λ_ ρ=>qbM ρ i:=id rfl
def qcN {t:TE3} {a:PuE t} {i:Nat} {m:List Bool} {hm:Tru (a.fv.all (mkb m))}:(qgI a i m hm).f=λ_ ρ=>(a.f ρ).map λd=>.nx (qbh m a.nw i d ρ):=id rfl
def N4 {t:TE3} {g:TG3} {a:PuE t} {pg:PuG g} {m:List Bool} {hm:Tru (a.fv.all (mkb m))}:(qaw a pg m hm).f=λ_ ρ=>(a.f ρ).bind λd=>(pg.f d).map λbs=>.nx (Z4 (dm m ρ) bs):=id rfl
def qcV {t:TA3} {a:PuA t} {i j:Nat} {m:List Bool} {hm:Tru (a.fv.all (mkb m))}:(qpc a i j m hm).f=λ_ ρ=>(a.f ρ).bind λds=>qd5 i j m ds ρ:=id rfl
def qdK {t:TE3} {a:PuE t} {i:Nat} {m:List Bool} {hm:Tru (a.fv.all (mkb m))}:(qmn a i m hm).f=λ_ ρ=>(a.f ρ).bind λd=>qit i d (dmS m d ρ):=id rfl
def qdd {wi:TI3} {g:TG3} {tb:TS3} {pi:PuI wi} {pg:PuG g} {pb:PuS tb} {m:List Bool} {hm:Tru (pi.fv.all (mkb m))}:(qmi pi pg pb m hm).f=qig pi.f pi.nm m pg.f pb.f:=id rfl
def qdc {i:Bool}:(bBl i).nw=false:=id rfl
def M4 {i:Str}:(qbk i).nw=false:=id rfl
def qjH {r:R3} {ta tb:TE3} {R:OpD r} {a:PuE ta} {b:PuE tb}:(bO R a b).nw=R.nw:=id rfl
def qaf {t:TA3} {a:PuA t} {hn:Tru (Nat.ble a.n 1000)}:(MU a hn).nw=true:=id rfl
def K4 {r:List T->Gp->Q3->Prop} {t:TA3} {R:FnD r} {a:PuA t}:(zR R a).nw=R.nw:=id rfl
def KP {F:List PyData->Option PyData} {fr:Bool}:(Q7 F fr).nw=fr:=id rfl
def K0 {ta tb:TE3} {a:PuE ta} {b:PuE tb}:(DC a b).nw=false:=id rfl
def qeK {wi:TI3} {g:TG3} {tif:TT3} {te:TE3} {pi:PuI wi} {pg:PuG g} {pc:PuC tif} {pe:PuE te} {m:List (Option Nat)} {hm:Tru (pg.tg.all λi=>m[i]?==some none)}:(bLc pi pg pc pe m hm).nw=true:=id rfl
def NE {wi wi2:TI3} {g g2:TG3} {tif tif2:TT3} {te:TE3} {pi:PuI wi} {pg:PuG g} {pc:PuC tif} {pi2:PuI wi2} {pg2:PuG g2} {pc2:PuC tif2} {pe:PuE te} {m:List (Option Nat)} {hm:Tru (pg.tg.all λi=>m[i]?==some none)} {hm2:Tru (pg2.tg.all λi=>m[i]?==some none)} {hdj:Tru (pg2.tg.all λi=>!pg.tg.contains i)}:(qnH pi pg pc pi2 pg2 pc2 pe m hm hm2 hdj).nw=true:=id rfl
def qai:qih.nw=true:=id rfl
def qas:Z1.nw=false:=id rfl
def RT:RD.nw=true:=id rfl
def qo9 {s:Sl} {r:Rho}:vw (s::r) 0=s.d:=id rfl
def qoZ {s:Sl} {r:Rho} {i:Nat}:vw (s::r) (i+1)=vw r i:=id rfl
def qkj {d:PyData}:(Sl.sh d).d=some d:=id rfl
def qjp {ds:List PyData}:(Sl.ow ds).d=some (.list ds):=id rfl
def NZ {r:Rho} {ds:List PyData}:slot (.ow ds::r) 0=some ds:=id rfl
def qef {s:Sl} {r:Rho} {i:Nat}:slot (s::r) (i+1)=slot r i:=id rfl
def qa6 {r:Rho} {ds:List PyData}:qbM (.ow ds::r) 0=some (.rt (.list ds) true):=id rfl
def qdL {s:Sl} {r:Rho} {i:Nat}:qbM (s::r) (i+1)=qbM r i:=id rfl
def qlm {xs:List PyData} {i:Int}:ixD (.tuple xs) (.int i)=L2.atI xs i:=id rfl
def qi1 {xs:List PyData} {i:Int}:ixD (.list xs) (.int i)=L2.atI xs i:=id rfl
def at0 {α:Type} {a:α} {r:List α}:L2.atI (a::r) 0=some a:=by simp [L2.atI,ixN]
def at1 {α:Type} {a b:α} {r:List α}:L2.atI (a::b::r) 1=some b:=by
 have h:ixN (a::b::r).length 1=some 1:=by unfold ixN;rw [if_pos (by omega),if_pos (by simp;omega)];rfl
 unfold L2.atI;rw [h];rfl
def at2 {α:Type} {a b c:α} {r:List α}:L2.atI (a::b::c::r) 2=some c:=by
 have h:ixN (a::b::c::r).length 2=some 2:=by unfold ixN;rw [if_pos (by omega),if_pos (by simp;omega)];rfl
 unfold L2.atI;rw [h];rfl
def at3 {α:Type} {a b c d:α} {r:List α}:L2.atI (a::b::c::d::r) 3=some d:=by
 have h:ixN (a::b::c::d::r).length 3=some 3:=by unfold ixN;rw [if_pos (by omega),if_pos (by simp;omega)];rfl
 unfold L2.atI;rw [h];rfl
def atN {α:Type} {xs:List α} {k:Nat} (h:k<xs.length):L2.atI xs (k:Int)=xs[k]?:=by
 have e:ixN xs.length (k:Int)=some k:=by unfold ixN;rw [if_pos (by omega),if_pos (by omega)];rfl
 unfold L2.atI;rw [e];rfl
def eqS {n:Bool} {a b:Str}:eqD n (.str a) (.str b)=some (.bool (if n then !decide (a=b) else decide (a=b))):=id rfl
def eqI {n:Bool} {a b:Int}:eqD n (.int a) (.int b)=some (.bool (if n then !decide (a=b) else decide (a=b))):=id rfl
def qhl {C:Int->Int->Prop} {g:Int->Int->Int} {i j:Int} (h:C i j):cI C g (.int i) (.int j)=some (.int (g i j)):=by simp only [cI];exact zA h
def qiE {i j:Int} (h:-1000000<j/\j<1000000):cI JD (·*·) (.int i) (.int j)=some (.int (i*j)):=qhl (.inr ⟨by omega,by omega⟩)
def XT {i j:Int} (h:-1000000<i/\i<1000000):cI JD (·*·) (.int i) (.int j)=some (.int (i*j)):=qhl (.inl ⟨by omega,by omega⟩)
def qoU {i j:Int}:qmd (.int i) (.int j)=some (.int (i+j)):=id rfl
def qbl {j:Int} (h:-1000000000<=j/\j<1000000000):qfT [.int j]=some ((QU 0 j.toNat).map PyData.int):=by simp only [qfT];exact zA ⟨by omega,by omega⟩
def qoF {i j:Int} (h:-1000000000<=i/\i<1000000000/\-1000000000<=j/\j<1000000000):qfT [.int i,.int j]=some ((QU i (j-i).toNat).map PyData.int):=by simp only [qfT];exact zA ⟨by omega,by omega,by omega,by omega⟩
def QV {pi:Rho->Option (List PyData)} {h:Rho->PyData->Option (Option PyData)} {m:List (Option Nat)} {ρ:Rho} {ds fs:List PyData} (h1:pi ρ=some ds) (h2:lcP (h (SL m ρ)) ds=some fs) (h3:fs.length<=16777216):lcF pi h m ρ=some (.list fs):=by unfold lcF;rw [h1];simp only [Option.bind_some,h2];exact zA h3
def qfp {pi:Rho->Option (List PyData)} {h:Rho->PyData->Option (Option (List PyData))} {m:List (Option Nat)} {ρ:Rho} {ds fs:List PyData} (h1:pi ρ=some ds) (h2:qgq (h (SL m ρ)) ds=some fs) (h3:fs.length<=16777216):qkT pi h m ρ=some (.list fs):=by unfold qkT;rw [h1];simp only [Option.bind_some,h2];exact zA h3
def qck {gf:PyData->Option (List (Nat×PyData))} {bf:Rho->Option Ot} {α:Type} {g:α->PyData} (xs:List α) (I:Nat->Rho->Prop) {ρ:Rho} (h0:I 0 ρ)
  (hs:∀ i x ρ,xs[i]?=some x->I i ρ->∃ bs ρ',gf (g x)=some bs/\(bf (Z4 ρ bs)=some (.nx ρ')\/bf (Z4 ρ bs)=some (.ct ρ'))/\I (i+1) ρ'):∃ ρ',MS gf bf (xs.map g) ρ=some (.nx ρ')/\I xs.length ρ':=by
 have key:∀ (r:List α) (i:Nat) (ρ:Rho),xs.drop i=r->i<=xs.length->I i ρ->∃ ρ',MS gf bf (r.map g) ρ=some (.nx ρ')/\I xs.length ρ':=by
  intro r;induction r with
  |nil=>
   intro i ρ e hi h;have:i=xs.length:=by
    have:=congrArg List.length e;simp at this;omega
   subst this;exact ⟨ρ,rfl,h⟩
  |cons x r ih=>
   intro i ρ e hi h;have hl:i<xs.length:=by
    have:=congrArg List.length e;simp at this;omega
   have e':=List.drop_eq_getElem_cons hl;rw [e] at e';injection e' with e1 e2;obtain ⟨bs,ρ',h1,h2,h3⟩:=hs i x ρ (by rw [getElem?_eq_getElem hl,e1]) h;obtain ⟨ρ2,h4,h5⟩:=ih (i+1) ρ' e2.symm hl h3;refine ⟨ρ2,?_,h5⟩;simp only [map_cons,MS,h1,Option.bind_some];rcases h2 with h2|h2<;>(rw [h2];exact h4)
 exact key xs 0 ρ (by simp) (Nat.zero_le _) h0
def sqk (b:Nat->Rho->Option Ot) (n:Nat) (o:Ot):Option Ot:=match o with|.nx ρ'=>b n ρ'|o=>some o
def qeU {a b:Nat->Rho->Option Ot} {n:Nat} {ρ:Rho}:qmc a b n ρ=(a n ρ).bind (sqk b n):=id rfl
def qey {b:Nat->Rho->Option Ot} {n:Nat} {ρ:Rho}:sqk b n (.nx ρ)=b n ρ:=id rfl
def qed {b:Nat->Rho->Option Ot} {n:Nat} {d:PyData} {f:Bool}:sqk b n (.rt d f)=some (.rt d f):=id rfl
def NT {d:PyData}:WZ true (some (.rt d true))=some d:=id rfl
def qeH {d:PyData} {b:Bool}:WZ false (some (.rt d b))=some d:=by simp [WZ]
def qhp {b:Bool}:asB (.bool b)=some b:=id rfl
def qi4 {b:Int}:asI (.int b)=some b:=id rfl
def qj7 {b:Str}:asS (.str b)=some b:=id rfl
def qds {xs:List PyData}:qhZ [.tuple xs]=some (.int xs.length):=id rfl
def qdY {xs:List PyData}:qhZ [.list xs]=some (.int xs.length):=id rfl
def qep {i:Bool}:qma [.bool i]=some (.int (if i then 1 else 0)):=id rfl
def qcx {xs:List PyData}:qmk [.tuple xs]=some (.list xs):=id rfl
def LN {xs:List Bool}:qjo [.list (xs.map PyData.bool)]=some (.bool (xs.all id)):=by simp only [qjo,qbo,Option.map_some]
def qhc {xs:List Int} (h:xs≠[]):mnD [.list (xs.map PyData.int)]=some (.int (mn xs)):=by simp only [mnD,SD,Option.bind_some];exact zA h
def qhS {xs:List Int} (h:xs≠[]):mxD [.list (xs.map PyData.int)]=some (.int (mx xs)):=by simp only [mxD,SD,Option.bind_some];exact zA h
def qeR {xs:List PyData}:qbY (.tuple xs)=some xs:=id rfl
def qcr {xs:List PyData}:qbY (.list xs)=some xs:=id rfl
def qg4 {i:Int}:tyD (.int i)=some "int" := id rfl
def qkX {i:Bool}:tyD (.bool i)=some "bool" := id rfl
def qlj:tyD .none=some "NoneType" := id rfl
def qid {i:Str}:tyD (.str i)=some "str" := id rfl
def qlM {i:List PyData}:tyD (.tuple i)=some "tuple" := id rfl
def qlL {i:List PyData}:tyD (.list i)=some "list" := id rfl
def qlp {m:List Bool} {nw:Bool} {i:Nat} {v:Bool} {ρ:Rho}:qbh m nw i (.bool v) ρ=ρ.set i (.sh (.bool v)):=id rfl
def qiA {m:List Bool} {nw:Bool} {i:Nat} {v:Str} {ρ:Rho}:qbh m nw i (.str v) ρ=ρ.set i (.sh (.str v)):=id rfl
def qcR {m:List Bool} {i:Nat} {v:List PyData} {ρ:Rho}:qbh m true i (.list v) ρ=(dm m ρ).set i (.ow v):=id rfl
def qgZ {m:List Bool} {v:List PyData} {ρ:Rho}:dmS m (.list v) ρ=dm m ρ:=id rfl
def qoE {ρ:Rho}:dm [] ρ=ρ:=id rfl
def qpg {m:List Bool} {s:Sl} {ρ:Rho}:dm (true::m) (s::ρ)=s.dem::dm m ρ:=id rfl
def qo0 {m:List Bool} {s:Sl} {ρ:Rho}:dm (false::m) (s::ρ)=s::dm m ρ:=id rfl
def qjs {ds:List PyData}:(Sl.ow ds).dem=.sh (.list ds):=id rfl
def qlJ {d:PyData}:(Sl.sh d).dem=.sh d:=id rfl
def qh1 {ρ:Rho}:SL [] ρ=[]:=id rfl
def qlY {m:List (Option Nat)} {ρ:Rho}:SL (none::m) ρ=.un::SL m ρ:=id rfl
def cp (o:Option PyData):Sl:=match o with|some d=>.sh d|none=>.un
def qhB {m:List (Option Nat)} {j:Nat} {ρ:Rho}:SL (some j::m) ρ=cp (vw ρ j)::SL m ρ:=id rfl
def qoB {d:PyData}:cp (some d)=.sh d:=id rfl
def qd4 {pi:Rho->Option (List PyData)} {m:List Bool} {gf:PyData->Option (List (Nat×PyData))} {bf:Nat->Rho->Option Ot} {n:Nat} {ρ:Rho}:qig pi true m gf bf n ρ=(pi ρ).bind λds=>MS gf (bf n) ds ρ:=id rfl
def qcB {pi:Rho->Option (List PyData)} {m:List Bool} {gf:PyData->Option (List (Nat×PyData))} {bf:Nat->Rho->Option Ot} {n:Nat} {ρ:Rho}:qig pi false m gf bf n ρ=(pi ρ).bind λds=>MS gf (bf n) ds (dm m ρ):=id rfl
def qcU {ρ:Rho}:Z4 ρ []=ρ:=id rfl
def qel {ρ:Rho} {i:Nat} {d:PyData} {r:List (Nat×PyData)}:Z4 ρ ((i,d)::r)=Z4 (ρ.set i (.sh d)) r:=id rfl
def Y6 {gf:PyData->Option (List (Nat×PyData))} {cf:Rho->Option Bool} {ef:Rho->Option PyData} {ρ:Rho} {d:PyData}:lcH gf cf ef ρ d=(gf d).bind λbs=>(cf (Z4 ρ bs)).bind λk=>if k then (ef (Z4 ρ bs)).map some else some none:=id rfl
def qlz {gf:PyData->Option (List (Nat×PyData))} {cf:Rho->Option Bool} {it:Rho->Option (List PyData)} {h:Rho->PyData->Option (Option PyData)} {ρ:Rho} {d:PyData}:qg7 gf cf it h ρ d=(gf d).bind λbs=>(cf (Z4 ρ bs)).bind λk=>if k then ((it (Z4 ρ bs)).bind λds=>lcP (h (Z4 ρ bs)) ds).map some else some none:=id rfl
def Nx (o:Option Ot) (P:Rho->Prop):Prop:=match o with|some (.nx ρ)=>P ρ|some (.ct ρ)=>P ρ|_=>False
def qgY {ρ:Rho} {P:Rho->Prop}:Nx (some (.nx ρ)) P=P ρ:=id rfl
def qnA {o:Option Ot} {P:Rho->Prop} (h:Nx o P):∃ ρ,(o=some (.nx ρ)\/o=some (.ct ρ))/\P ρ:=by
 unfold Nx at h;split at h
 ·exact ⟨_,.inl rfl,h⟩
 ·exact ⟨_,.inr rfl,h⟩
 ·exact h.elim
section
variable {gf:PyData->Option (List (Nat×PyData))} {bf:Rho->Option Ot} {α:Type} {g:α->PyData} {ρ:Rho} {Q:Option Ot->Prop} {F:Ot->Option Ot}
def qco (xs:List α) (I:Nat->Rho->Prop) (h0:I 0 ρ) (hs:∀ i x ρ,xs[i]?=some x->I i ρ->Nx ((gf (g x)).bind λbs=>bf (Z4 ρ bs)) (I (i+1))) (k:∀ ρ',I xs.length ρ'->Q (some (.nx ρ'))):Q (MS gf bf (xs.map g) ρ):=by
 obtain ⟨ρ',e,h⟩:=qck (gf:=gf) (bf:=bf) (g:=g) xs I h0 λi x ρ hx hi=>by
  obtain ⟨ρ2,e,h⟩:=qnA (hs i x ρ hx hi);cases e1:gf (g x) with
  |none=>rw [e1] at e;rcases e with e|e<;>cases e
  |some bs=>rw [e1] at e;exact ⟨bs,ρ2,rfl,e,h⟩
 rw [e];exact k ρ' h
def TU (xs:List α) (I:Nat->Rho->Prop) (h0:I 0 ρ) (hs:∀ i x ρ,xs[i]?=some x->I i ρ->Nx ((gf (g x)).bind λbs=>bf (Z4 ρ bs)) (I (i+1))) (k:∀ ρ',I xs.length ρ'->Q (F (.nx ρ'))):Q ((MS gf bf (xs.map g) ρ).bind F):=
 qco (Q:=λo=>Q (o.bind F)) xs I h0 hs k
end
def S0 {α:Type} {us:List α} (h:us.length=1):∃ a0,us=[a0]:=List.length_eq_one_iff.mp h
def qaz {α:Type} {us:List α} (h:us.length=2):∃ a0 a1,us=[a0,a1]:=by
 obtain ⟨a0,r,rfl⟩:=List.exists_cons_of_length_pos (show 0<us.length by omega);obtain ⟨a1,rfl⟩:=S0 (show r.length=1 by simpa using h);exact ⟨a0,a1,rfl⟩
def qmo {α:Type} {us:List α} (h:us.length=3):∃ a0 a1 a2,us=[a0,a1,a2]:=by
 obtain ⟨a0,r,rfl⟩:=List.exists_cons_of_length_pos (show 0<us.length by omega);obtain ⟨a1,a2,rfl⟩:=qaz (show r.length=2 by simpa using h);exact ⟨a0,a1,a2,rfl⟩
end Pu
namespace Pv
open PySem L2 L3 Pu
def EB:PuS (Bk.U7):=(CS (bLc (MW (qj (bV 2) zc)) (gN 0) bTt (YZ (qj (bO (opC JD (·*·)) (bV 0) (bV 1)) (qj (bO (opC JD (·*·)) (bV 0) (bV 2)) zc)) ⟨rfl⟩) [none,some 0,some 1] ⟨rfl⟩))
def zD:List PyData->Option PyData:=run (EB).f 3 3 1000000000 true
def qaG:∀ ts G q,PSp (zD) true ts G q->ts.length=3/\Bk.U7 { nx:=λ_ G'=>q .non G',rt:=q } (qk ["down","along","many"] ts) G:=jZ (EB) ["down","along","many"] 3 1000000000 true
def qaP {x0 x1 x2:PyData}:zD [x0,x1,x2]=WZ true ((EB).f 1000000000 [.sh x0,.sh x1,.sh x2]):=id rfl
def jl (zD:List PyData->Option PyData):PuS (Bk.JS (PSp zD true)):=(DQ (qgI (bO Z1 (bV 0) (zC 0)) 1 [true] ⟨rfl⟩) (DQ (sIf (bTb (bO (qah false) (bV 1) (qbk "cells"))) (CS (zR qih (qj (bO Z1 (bV 0) (zC 1)) zc))) DX) (DQ (sIf (bTb (bO (qah false) (bV 1) (qbk "block"))) (CS (qnH (MW (qj (bO Z1 (bV 0) (zC 1)) zc)) (gN 0) bTt (MW (qj (bO Z1 (bV 2) (zC 2)) zc)) (gN 1) bTt (YZ (qj (bV 0) (qj (bV 1) zc)) ⟨rfl⟩) [none,none,some 0] ⟨rfl⟩ ⟨rfl⟩ ⟨rfl⟩)) DX) (DQ (sIf (bTb (bO (qah false) (bV 1) (qbk "step"))) (CS (zR (Q7 zD true) (qj (bO Z1 (bV 0) (zC 1)) (qj (bO Z1 (bV 0) (zC 2)) (qj (bO Z1 (bV 0) (zC 3)) zc))))) DX) (DQ (qaw (qkc VB (bV 1)) (M0 2 (jS (gN 2) (jS (gN 3) MZ))) [false,true] ⟨rfl⟩) (CS (zR (Q7 zD true) (qj (bV 2) (qj (bV 3) (qj (bO Z1 (bV 0) (zC 1)) zc))))))))))
def zO:List PyData->Option PyData:=run (jl zD).f 1 4 1000000000 true
def T1:∀ ts G q,PSp (zO) true ts G q->ts.length=1/\Bk.JS (PSp zD true) { nx:=λ_ G'=>q .non G',rt:=q } (qk ["walk","kind","down","along"] ts) G:=jZ (jl zD) ["walk","kind","down","along"] 1 1000000000 true
def ZS {x0:PyData}:zO [x0]=WZ true ((jl zD).f 1000000000 [.sh x0,.un,.un,.un]):=id rfl
open Bk (Wk Dl jF ji VW lnD lnA)
def pD (p:Int×Int):PyData:=.tuple [.int p.1,.int p.2]
def Wk.d:Wk->PyData
 |.line k m=>.tuple [.str (VW k),.int m]
 |.block h w=>.tuple [.str "block",.int h,.int w]
 |.step d a m=>.tuple [.str "step",.int d,.int a,.int m]
 |.cells ps=>.tuple [.str "cells",.tuple (ps.map pD)]
def qgK (r:List Int):PyData:=.tuple (r.map PyData.int)
def dlD:Dl->PyData
 |.skew r c b x y=>.tuple [.str "skew",.int r,.int c,.int b,.int x,.int y]
 |.rests r c b p=>.tuple [.str "rests",.int r,.int c,.int b,.int p]
 |.bits h l ms=>.tuple [.str "bits",.int h,.int l,.tuple (ms.map PyData.int)]
 |.table b cells=>.tuple [.str "table",.int b,.tuple (cells.map qgK)]
 |.joined d e=>.tuple [.str "joined",dlD d,dlD e]
def N5 (G:Gp):∀ (cs:List (List Int)),Dqs G (cs.map Bk.qbi) (cs.map qgK)
 |[]=>.nil
 |r::cs=>.cons (.tup (Dqs.ofInts r)) (N5 G cs)
def qf7 (G:Gp):∀ (d:Dl),Dq G d.t (dlD d)
 |.skew r c b x y=>.tup (.cons (.str _) (.cons (.int _) (.cons (.int _) (.cons (.int _) (.cons (.int _) (.cons (.int _) .nil))))))
 |.rests r c b p=>.tup (.cons (.str _) (.cons (.int _) (.cons (.int _) (.cons (.int _) (.cons (.int _) .nil)))))
 |.bits h l ms=>.tup (.cons (.str _) (.cons (.int _) (.cons (.int _) (.cons (.tup (Dqs.ofInts ms)) .nil))))
 |.table b cells=>.tup (.cons (.str _) (.cons (.int _) (.cons (.tup (N5 G cells)) .nil)))
 |.joined d e=>.tup (.cons (.str _) (.cons (qf7 G d) (.cons (qf7 G e) .nil)))
def K8 (G:Gp):∀ (cs:List (Int×Int)),Dqs G (cs.map Bk.pT) (cs.map pD)
 |[]=>.nil
 |p::cs=>.cons (.tup (.cons (.int _) (.cons (.int _) .nil))) (K8 G cs)
def qmv (G:Gp):∀ (w:Wk),Dq G w.t (Wk.d w)
 |.line k m=>.tup (.cons (.str _) (.cons (.int _) .nil))
 |.block h v=>.tup (.cons (.str _) (.cons (.int _) (.cons (.int _) .nil)))
 |.step d a m=>.tup (.cons (.str _) (.cons (.int _) (.cons (.int _) (.cons (.int _) .nil))))
 |.cells ps=>.tup (.cons (.str _) (.cons (.tup (K8 G ps)) .nil))
end Pv
namespace Pu
open PySem L2 L3
open Bk (Lf Ext)
section
variable {D:Addr->Prop} {a:Addr} {G G' G0:Gp} {n n':Nat} {fv gv:List Nat} {l:Nat} {τ:St3} {ρ:Rho}
def SK (e:Ext a G G') (h:D a):Ex (rs D G) (rs D G'):=λb o x=>by
 obtain ⟨n,x⟩:=qG x;rw [jJ n];exact e b o (by rintro rfl;exact n h) x
def EI {k:Int} (h:Lf G a k):G a≠none:=by
 obtain ⟨o,c,m,e,_⟩:=h;rw [e];simp
def EF {k:Int} (hd:Dom D G) (e:Ext a G G') (lf:Lf G' a k):Dom D G':=λb hb z=>by
 by_cases h:b=a
 ·subst h;exact EI lf z
 ·cases g:G b with
  |none=>exact hd b hb g
  |some o=>rw [e b o h g] at z;cases z
def Nw.backx {x:T} {d:PyData} {k:Int} (h:Nw D G G' x d) (e:Ext a G0 G) (lf:Lf G a k):Nw D G0 G' x d:=by
 rcases h with h|⟨p,xs,ds,h1,h2,c,r⟩
 ·exact .inl h
 refine .inr ⟨p,xs,ds,h1,h2,?_,r⟩;cases z:G0 p with
 |none=>rfl
 |some o=>
  by_cases hp:p=a
  ·subst hp;exact absurd c (EI lf)
  ·rw [e p o hp z] at c;cases c
structure Ln (fv:List Nat) (l:Nat) (D:Addr->Prop) (G:Gp) (τ:St3) (ρ:Rho) (a:Addr) (n:Nat):Prop where
 v:WT fv D G τ ρ
 d:Dom D G
 da:D a
 tl:τ[l]?=some (some (.ref a))
 ul:vw ρ l=none
 lf:Lf G a n
def Ln.up (h:Ln fv l D G τ ρ a n) (e:Ext a G G') (lf:Lf G' a n'):Ln fv l D G' τ ρ a n':=
 ⟨λi hi d hd=>let ⟨t,x,y⟩:=h.v i hi d hd;⟨t,x,y.up (SK e h.da)⟩,EF h.d e lf,h.da,h.tl,h.ul,lf⟩
def Ln.fst (h:Ln (fv++gv) l D G τ ρ a n):Ln fv l D G τ ρ a n:=⟨h.v.l,h.d,h.da,h.tl,h.ul,h.lf⟩
def Ln.snd (h:Ln (fv++gv) l D G τ ρ a n):Ln gv l D G τ ρ a n:=⟨h.v.r,h.d,h.da,h.tl,h.ul,h.lf⟩
end
abbrev QD:=PyData->Nat->Prop
structure PwE (l:Nat) (t:TE3) where
 w:Rho->Nat->QD->Prop
 fv:List Nat
 nw:Bool
 mono:∀ {ρ n} {Q Q':QD},w ρ n Q->(∀ d m,Q d m->Q' d m)->w ρ n Q'
 ok:∀ {D τ ρ G a n} {q:Q3} {Q:QD},Ln fv l D G τ ρ a n->w ρ n Q->(∀ x d G' n',Q d n'->Ext a G G'->Lf G' a n'->Dq (rs D G') x d->(nw=true->Nw D G G' x d)->q x G')->t τ G q
structure PwC (l:Nat) (t:TT3) where
 w:Rho->Nat->(Bool->Nat->Prop)->Prop
 fv:List Nat
 mono:∀ {ρ n} {Q Q':Bool->Nat->Prop},w ρ n Q->(∀ d m,Q d m->Q' d m)->w ρ n Q'
 ok:∀ {D τ ρ G a n} {q:Bool->Gp->Prop} {Q:Bool->Nat->Prop},Ln fv l D G τ ρ a n->w ρ n Q->(∀ k G' n',Q k n'->Ext a G G'->Lf G' a n'->q k G')->t τ G q
structure PwA (l:Nat) (t:TA3) where
 w:Rho->Nat->(List PyData->Nat->Prop)->Prop
 fv:List Nat
 k:Nat
 mono:∀ {ρ n} {Q Q':List PyData->Nat->Prop},w ρ n Q->(∀ d m,Q d m->Q' d m)->w ρ n Q'
 ok:∀ {D τ ρ G a n} {q:List T->Gp->Prop} {Q:List PyData->Nat->Prop},Ln fv l D G τ ρ a n->w ρ n Q->(∀ x d G' n',Q d n'->d.length=k->Ext a G G'->Lf G' a n'->Dqs (rs D G') x d->q x G')->t τ G q
structure PwI (l:Nat) (t:TI3) where
 w:Rho->Nat->(List PyData->Nat->Prop)->Prop
 fv:List Nat
 nm:Bool
 mono:∀ {ρ n} {Q Q':List PyData->Nat->Prop},w ρ n Q->(∀ d m,Q d m->Q' d m)->w ρ n Q'
 ok:∀ {D τ ρ G a n} {r:List T->(Gp->Prop)->Gp->Prop} {Q:List PyData->Nat->Prop},Ln fv l D G τ ρ a n->w ρ n Q ->
  (∀ items stay ds G' n',Q ds n'->Ext a G G'->Lf G' a n'->Dqs (rs D G') items ds->(∀ G'',(nm=true\/Ex (rs D G') G'')->stay G'')->(nm=true->∃ ns:List Int,ds=ns.map PyData.int)->r items stay G')->t τ G r
structure DrD (r:List T->Gp->Q3->Prop) where
 W:List PyData->Nat->QD->Prop
 nw:Bool
 mono:∀ {ds n} {Q Q':QD},W ds n Q->(∀ d m,Q d m->Q' d m)->W ds n Q'
 ok:∀ {D:Addr->Prop} {G:Gp} {a:Addr} {n:Nat} {ts:List T} {ds:List PyData} {q:Q3} {Q:QD},Lf G a n->D a->Dom D G->Dqs (rs D G) ts ds->W ds n Q->(∀ x d G' n',Q d n'->Ext a G G'->Lf G' a n'->Dq (rs D G') x d->(nw=true->Nw D G G' x d)->q x G')->r (.ref a::ts) G q
section
variable {l:Nat}
def eOf {t:TE3} (b:PuE t):PwE l t:=⟨λρ n Q=>∃ d,b.f ρ=some d/\Q d n,b.fv,b.nw,λ⟨d,h1,h2⟩ h=>⟨d,h1,h _ _ h2⟩,λh ⟨d,h1,h2⟩ k=>
 b.ok h.v h.d h1 λx G1 E1 D1 N1=>k x d G1 _ h2 (Bk.W1 E1) (h.lf.ex E1) D1 N1⟩
def cOf {t:TT3} (b:PuC t):PwC l t:=⟨λρ n Q=>∃ d,b.f ρ=some d/\Q d n,b.fv,λ⟨d,h1,h2⟩ h=>⟨d,h1,h _ _ h2⟩,λh ⟨d,h1,h2⟩ k=>
 b.ok h.v h.d h1 λG1 E1=>k d G1 _ h2 (Bk.W1 E1) (h.lf.ex E1)⟩
def aOf {t:TA3} (b:PuA t):PwA l t:=⟨λρ n Q=>∃ d,b.f ρ=some d/\Q d n,b.fv,b.n,λ⟨d,h1,h2⟩ h=>⟨d,h1,h _ _ h2⟩,λh ⟨d,h1,h2⟩ k=>
 b.ok h.v h.d h1 λx G1 E1 D1=>k x d G1 _ h2 (b.ln h1) (Bk.W1 E1) (h.lf.ex E1) D1⟩
def iOf {t:TI3} (b:PuI t):PwI l t:=⟨λρ n Q=>∃ d,b.f ρ=some d/\Q d n,b.fv,b.nm,λ⟨d,h1,h2⟩ h=>⟨d,h1,h _ _ h2⟩,λh ⟨d,h1,h2⟩ k=>
 b.ok h.v h.d h1 λitems stay G1 E1 D1 s nm=>k items stay d G1 _ h2 (Bk.W1 E1) (h.lf.ex E1) D1 s nm⟩
def eO {r:R3} {ta tb:TE3} (R:OpD r) (a:PwE l ta) (b:PwE l tb):PwE l (o3 r ta tb):=
 ⟨λρ n Q=>a.w ρ n λx n1=>b.w ρ n1 λy n2=>∃ v,R.f x y=some v/\Q v n2,a.fv++b.fv,R.nw,λh k=>a.mono h λx n1 h=>b.mono h λy n2 ⟨v,h1,h2⟩=>⟨v,h1,k _ _ h2⟩,λh hw k=>
  a.ok h.fst hw λx dx G1 n1 h1 E1 L1 D1 _=>b.ok (h.snd.up E1 L1) h1 λy dy G2 n2 ⟨v,e,hq⟩ E2 L2 D2 _=>R.ok (D1.up (SK E2 h.da)) D2 (EF (EF h.d E1 L1) E2 L2) e λz G3 E3 D3 N3=>k z v G3 n2 hq ((E1.trans E2).trans (Bk.W1 E3)) (L2.ex E3) D3 λz=>(N3 z).backx (E1.trans E2) L2⟩
def qar {ta:TE3} {tr:TA3} (a:PwE l ta) (r:PwA l tr):PwA l (qb ta tr):=
 ⟨λρ n Q=>a.w ρ n λx n1=>r.w ρ n1 λxs n2=>Q (x::xs) n2,a.fv++r.fv,r.k+1,λh k=>a.mono h λx n1 h=>r.mono h λxs n2 h=>k _ _ h,λh hw k=>
  a.ok h.fst hw λx dx G1 n1 h1 E1 L1 D1 _=>r.ok (h.snd.up E1 L1) h1 λy dy G2 n2 hq hl E2 L2 D2=>k _ _ G2 n2 hq (by simp [hl]) (E1.trans E2) L2 (.cons (D1.up (SK E2 h.da)) D2)⟩
def qo4 {t:TA3} (b:PwA l t) (hn:Tru (Nat.ble b.k 1000)):PwE l (ja t):=⟨λρ n Q=>b.w ρ n λxs n1=>Q (.list xs) n1,b.fv,true,λh k=>b.mono h λxs n1 h=>k _ _ h,λh hw k=>
 b.ok h hw λx dx G1 n1 h1 hl E1 L1 D1=>⟨by rw [D1.length,hl];exact few hn,λp hp=>k _ _ _ _ h1 (E1.trans (Bk.W1 (QB hp))) (L1.ex (QB hp)) (UX (EF h.d E1 L1) hp D1) λ_=>(WV hp D1).backx E1 L1⟩⟩
def eDr {r:List T->Gp->Q3->Prop} {t:TA3} (R:DrD r) (b:PwA l t):PwE l (cb3 r (qb (v3 l) t)):=⟨λρ n Q=>b.w ρ n λxs n1=>R.W xs n1 Q,b.fv,R.nw,λh k=>b.mono h λxs n1 h=>R.mono h k,λ{D τ ρ G a n q Q} h hw k=>by
 simp only [cb3,qb,v3,h.tl];exact b.ok h hw λx dx G1 n1 hW hl E1 L1 D1=>R.ok L1 h.da (EF h.d E1 L1) D1 hW λz d G3 n3 hq E3 L3 D3 N3=>k z d G3 n3 hq (E1.trans E3) L3 D3 λz=>(N3 z).backx E1 L1⟩
def iS {t:TE3} (b:PwE l t):PwI l (QP t):=⟨λρ n Q=>b.w ρ n λd n1=>∃ ds,qbY d=some ds/\Q ds n1,b.fv,false,λh k=>b.mono h λxs n1 ⟨v,h1,h2⟩=>⟨v,h1,k _ _ h2⟩,λh hw k=>b.ok h hw λx dx G1 n1 ⟨ds,e,hq⟩ E1 L1 D1 _=>by
 unfold qbY at e;cases D1 with
 |tup hs=>cases e;exact k _ _ _ _ _ hq E1 L1 hs (λ_ _=>trivial) (λz=>by cases z)
 |lst g hs=>
  cases e;simp only [zI (qG g).2];refine k _ _ _ _ _ hq E1 L1 hs (λG2 h=>?_) (λz=>by cases z);rcases h with h|h
  ·cases h
  ·exact zI (h _ _ g)
 |_=>simp at e⟩
end
def VA.ext {D:Addr->Prop} {a:Addr} {G G':Gp} {τ:St3} {ρ:Rho} (h:VA D G τ ρ) (e:Ext a G G') (da:D a):VA D G' τ ρ:=h.upx (SK e da)
structure RL (l:Nat) (a:Addr) (z0:Option (Option T)×Nat) (D:Addr->Prop) (G0:Gp) (A:Nat->Option Addr) (τ:St3) (ρ:Rho) (G:Gp) (n:Nat):Prop where
 r:RS D G0 A τ ρ G
 al:A l=some a
 tl:τ[l]?=some (some (.ref a))
 ul:ρ[l]?=some Sl.un
 lf:Lf G a n
 tz:τ[0]?=z0.1/\τ.length=z0.2
section
variable {l:Nat} {a:Addr} {z0:Option (Option T)×Nat} {D:Addr->Prop} {G0 G G':Gp} {A:Nat->Option Addr} {τ:St3} {ρ:Rho} {n n':Nat}
def RL.vl (h:RL l a z0 D G0 A τ ρ G n):vw ρ l=none:=by unfold vw;rw [h.ul];rfl
def RL.up (h:RL l a z0 D G0 A τ ρ G n) (e:Ext a G G') (lf:Lf G' a n'):RL l a z0 D G0 A τ ρ G' n':=by
 have X:Ex (rs (AD D A) G) (rs (AD D A) G'):=SK e (.inr ⟨l,h.al⟩);refine ⟨⟨λb o x=>e b o (by rintro rfl;rw [h.r.fr l _ h.al] at x;cases x) (h.r.ex b o x),h.r.dm,h.r.fr,λi p hp z=>?_,h.r.inj,h.r.len,λi d x=>let ⟨t,y,z⟩:=h.r.sh i d x;⟨t,y,z.up X⟩,λi ds x=>?_,λi ds x=>?_⟩,h.al,h.tl,h.ul,lf,h.tz⟩
 ·by_cases c:p=a
  ·subst c;exact EI lf z
  ·cases g:G p with
   |none=>exact h.r.da i p hp g
   |some o=>rw [e p o c g] at z;cases z
 ·obtain ⟨p,xs,y1,y2,y3,y4⟩:=h.r.ow i ds x;refine ⟨p,xs,y1,y2,e p _ ?_ y3,y4.up X⟩;rintro rfl;have:=h.r.inj i l _ y1 h.al;subst this;rw [h.ul] at x;cases x
 ·obtain ⟨p,xs,y1,y2,y3,yk,y4⟩:=h.r.dc i ds x;refine ⟨p,xs,y1,y2,e p _ ?_ y3,yk,y4.up X⟩;rintro rfl;have:=h.r.inj i l _ y1 h.al;subst this;rw [h.ul] at x;cases x
def RL.all (h:RL l a z0 D G0 A τ ρ G n) (fv:List Nat):Ln fv l (λb=>D b\/b=a) G τ ρ a n:=by
 refine ⟨λi _ d hd=>?_,λb hb=>?_,.inr rfl,h.tl,h.vl,h.lf⟩
 ·unfold vw at hd;obtain ⟨s,e,hd⟩:=obb hd;have less:Ex (rs (AD D A) G) (rs (λb=>D b\/b=a) G):=zB λb z=>by
   rcases z with z|z
   ·exact .inl z
   ·subst z;exact .inr ⟨l,h.al⟩
  cases s with
  |un=>cases hd
  |sh d'=>
   cases hd;obtain ⟨t,b,c⟩:=h.r.sh i _ e;exact ⟨t,b,c.up less⟩
  |ow ds=>
   cases hd;obtain ⟨p,xs,b,c,g,f⟩:=h.r.ow i _ e;refine ⟨_,c,.lst ?_ (f.up less)⟩;rw [jJ]
   ·exact g
   ·rintro (z|z)
    ·exact h.r.nd b z
    ·subst z;have:=h.r.inj i l _ b h.al;subst this;rw [h.ul] at e;cases e
  |dc kvs=>cases hd
 ·rcases hb with hb|hb
  ·exact h.r.domD b hb
  ·subst hb;exact EI h.lf
def qoY {m:List Bool} (hm:mkb m l=false) (al:A l=some a):Ad m A l=some a:=by unfold Ad;rw [if_neg (by rw [hm];simp)];exact al
def RL.dem (h:RL l a z0 D G0 A τ ρ G n) {m:List Bool} (hm:mkb m l=false):RL l a z0 D G0 (Ad m A) τ (Pu.dm m ρ) G n:=
 ⟨h.r.dem m,qoY hm h.al,h.tl,by rw [MI,h.ul];simp [hm],h.lf,h.tz⟩
def RL.ln (h:RL l a z0 D G0 A τ ρ G n) {m:List Bool} {fv:List Nat} (hm:mkb m l=false) (hf:Tru (fv.all (mkb m))):Ln fv l (AD D (Ad m A)) G τ ρ a n:=
 ⟨h.r.viewD hf,(h.r.dem m).dom,.inr ⟨l,qoY hm h.al⟩,h.tl,h.vl,h.lf⟩
def RL.put (h:RL l a z0 D G0 A τ ρ G n) {i:Nat} (hi:i≠l) (h0:i≠0) {x:T} {d:PyData} (hx:Dq (rs (AD D A) G) x d):RL l a z0 D G0 (Er A i) (τ.set i (some x)) (ρ.set i (.sh d)) G n:=
 ⟨h.r.put i hx,by unfold Er;rw [if_neg (λz=>hi z.symm)];exact h.al,by rw [getElem?_set,if_neg hi];exact h.tl,by rw [getElem?_set,if_neg hi];exact h.ul,h.lf,⟨by rw [getElem?_set,if_neg h0];exact h.tz.1,by rw [List.length_set];exact h.tz.2⟩⟩
def RL.puts:∀ {ts:List (Nat×T)} {bs:List (Nat×PyData)} {A:Nat->Option Addr} {τ:St3} {ρ:Rho},RL l a z0 D G0 A τ ρ G n->Bd (rs (AD D A) G) ts bs->(∀ p∈bs,p.1≠l/\p.1≠0)->∃ A',RL l a z0 D G0 A' (sets τ ts) (Z4 ρ bs) G n
 |_,_,A,_,_,h,.nil,_=>⟨A,h⟩
 |_,_,A,_,_,h,.cons x b,hn=>by
  unfold sets Z4;exact RL.puts (h.put (hn _ List.mem_cons_self).1 (hn _ List.mem_cons_self).2 x) (b.up qe5) (λp hp=>hn p (List.mem_cons_of_mem _ hp))
def RL.putN (h:RL l a z0 D G0 A τ ρ G n) {i:Nat} (hi:i≠l) (h0:i≠0) {x:T} {d:PyData} {ds:List PyData} (hd:d=.list ds) (E:Ext a G G') (lf:Lf G' a n') (hx:Nw (AD D A) G G' x d):∃ A',RL l a z0 D G0 A' (τ.set i (some x)) (ρ.set i (.ow ds)) G' n':=by
 have h1:=h.up E lf;rcases hx with hx|⟨p,xs,ds',rfl,e',gp,gp',hs⟩
 ·rw [hd] at hx;cases hx
 rw [hd] at e';cases e';have np:∀ {j q},A j=some q->q≠p:=λe=>by rintro rfl;exact h.r.da _ _ e gp
 have X1:Ex (rs (AD D A) G) (rs (AD D (λj=>if j=i then some p else A j)) G'):=λb o e=>by
  obtain ⟨n,e⟩:=qG e;rw [jJ]
  ·exact E b o (by rintro rfl;exact n (.inr ⟨l,h.al⟩)) e
  ·rintro (z|⟨j,z⟩)
   ·exact n (.inl z)
   ·simp only at z;split at z
    ·cases z;rw [gp] at e;cases e
    ·exact n (.inr ⟨j,z⟩)
 refine ⟨λj=>if j=i then some p else A j,⟨h1.r.ex,h.r.dm,λj q e=>?_,λj q e=>?_,λj k q x y=>?_,by simp [h.r.len],λj e he=>?_,λj es e=>?_,λj es e=>?_⟩,by rw [if_neg (λz=>hi z.symm)];exact h.al,by rw [getElem?_set,if_neg hi];exact h.tl,by rw [getElem?_set,if_neg hi];exact h.ul,lf,⟨by rw [getElem?_set,if_neg h0];exact h.tz.1,by rw [List.length_set];exact h.tz.2⟩⟩
 ·split at e
  ·cases e;cases z:G0 p with
   |none=>rfl
   |some o=>rw [h.r.ex _ _ z] at gp;cases gp
  ·exact h.r.fr j q e
 ·split at e
  ·cases e;rw [gp'];simp
  ·exact h1.r.da j q e
 ·split at x
  ·cases x;split at y
   ·rename_i h1 h2;rw [h1,h2]
   ·exact absurd rfl (np y)
  ·split at y
   ·cases y;exact absurd rfl (np x)
   ·exact h.r.inj j k q x y
 ·rw [getElem?_set] at he ⊢;split at he
  ·split at he<;>cases he
  ·rename_i hj;rw [if_neg hj];obtain ⟨t,b,c⟩:=h.r.sh j _ he;exact ⟨t,b,c.up X1⟩
 ·rw [getElem?_set] at e ⊢;split at e
  ·rename_i hj;subst hj;split at e
   ·rename_i hl;cases e;refine ⟨p,xs,by simp,by rw [if_pos rfl,if_pos (by rw [← h.r.len];exact hl)],gp',hs.up (zB λb z=>?_)⟩;rcases z with z|⟨j,z⟩
    ·exact .inl (.inl z)
    ·simp only at z;split at z
     ·cases z;exact .inr rfl
     ·exact .inl (.inr ⟨j,z⟩)
   ·cases e
  ·rename_i hj;rw [if_neg hj];obtain ⟨q,ys,b,c,g,f⟩:=h1.r.ow j _ e;obtain ⟨q',ys',b',c',g',f'⟩:=h.r.ow j _ e;rw [b] at b';cases b';have:G' q=some (.lst ys'):=E q _ (by rintro rfl;have:=h.r.inj j l _ b h.al;subst this;rw [h.ul] at e;cases e) g';exact ⟨q,ys',by rw [if_neg (λz=>hj z.symm)];exact b,c,this,f'.up X1⟩
 ·rw [getElem?_set] at e ⊢;split at e
  ·split at e<;>cases e
  ·rename_i hj;rw [if_neg hj];obtain ⟨q,ys,b,c,g,k,f⟩:=h.r.dc j _ e;have:G' q=some (.dct ys):=E q _ (by rintro rfl;have:=h.r.inj j l _ b h.al;subst this;rw [h.ul] at e;cases e) g;exact ⟨q,ys,by rw [if_neg (λz=>hj z.symm)];exact b,c,this,k,f.up X1⟩
def RL.wr (h:RL l a z0 D G0 A τ ρ G n) {i:Nat} {p:Addr} {xs:List T} {ds ds0:List PyData} (ho:ρ[i]?=some (Sl.ow ds0)) (hi:A i=some p) (ht:τ[i]?=some (some (.ref p))) (hs:Dqs (rs (AD D A) G) xs ds):RL l a z0 D G0 A τ (ρ.set i (.ow ds)) (gu G p (.lst xs)) n:=by
 have il:i≠l:=by rintro rfl;rw [h.ul] at ho;cases ho
 have pa:p≠a:=by rintro rfl;exact il (h.r.inj i l _ hi h.al)
 exact ⟨h.r.wr hi ht hs,h.al,h.tl,by rw [getElem?_set,if_neg il];exact h.ul,h.lf.new pa,h.tz⟩
end
abbrev QO:=Ot->Nat->Prop
def qab (l:Nat) (a:Addr) (z0:Option (Option T)×Nat) (D:Addr->Prop) (G0:Gp) (e:Ends3):Ot->Nat->Prop
 |.nx ρ,n=>∀ A τ G,RL l a z0 D G0 A τ ρ G n->e.nx τ G
 |.bk ρ,n=>∀ A τ G,RL l a z0 D G0 A τ ρ G n->e.bk τ G
 |.ct ρ,n=>∀ A τ G,RL l a z0 D G0 A τ ρ G n->e.ct τ G
 |.rt d fr,n=>∀ x G,Ex G0 G->Lf G a n->Dq (rs (λb=>D b\/b=a) G) x d->(fr=true->Nw (λb=>D b\/b=a) G0 G x d)->e.rt x G
structure PwS (l:Nat) (t:TS3) where
 w:Rho->Nat->QO->Prop
 mono:∀ {ρ n} {Q Q':QO},w ρ n Q->(∀ o m,Q o m->Q' o m)->w ρ n Q'
 ok:∀ {a z0 D G0 A τ ρ G n} {e:Ends3} {Q:QO},RL l a z0 D G0 A τ ρ G n->w ρ n Q->(∀ o m,Q o m->qab l a z0 D G0 e o m)->t e τ G
section
variable {l:Nat}
def NV:PwS l qt:=⟨λρ n Q=>Q (.nx ρ) n,λh k=>k _ _ h,λh hw k=>k _ _ hw _ _ _ h⟩
def sqw (b:Rho->Nat->QO->Prop) (Q:QO):QO:=λo n=>match o with|.nx ρ'=>b ρ' n Q|o=>Q o n
def SS {t u:TS3} (x:PwS l t) (y:PwS l u):PwS l (qv t u):=⟨λρ n Q=>x.w ρ n (sqw y.w Q),λh k=>x.mono h λo m h=>by
  cases o with
  |nx ρ=>exact y.mono h k
  |bk ρ=>exact k _ _ h
  |ct ρ=>exact k _ _ h
  |rt d f=>exact k _ _ h,λh hw k=>x.ok h hw λo m h=>by
  cases o with
  |nx ρ=>exact λA τ G r=>y.ok r h k
  |bk ρ=>exact k _ _ h
  |ct ρ=>exact k _ _ h
  |rt d f=>exact k _ _ h⟩
def wIf {c:TT3} {t u:TS3} (pc:PwC l c) (x:PwS l t) (y:PwS l u):PwS l (qY c t u):=⟨λρ n Q=>pc.w ρ n λk n1=>if k then x.w ρ n1 Q else y.w ρ n1 Q,λh k=>pc.mono h λj m h=>by
  cases j with
  |true=>rw [if_pos rfl] at h ⊢;exact x.mono h k
  |false=>exact y.mono h k,λh hw k=>pc.ok (h.all _) hw λj G1 n1 hj E1 L1=>by
  cases j with
  |true=>rw [if_pos rfl] at hj ⊢;exact x.ok (h.up E1 L1) hj k
  |false=>exact y.ok (h.up E1 L1) hj k⟩
def qfb {a:Addr} {z0:Option (Option T)×Nat} {D:Addr->Prop} {G0 G G':Gp} {A:Nat->Option Addr} {τ:St3} {ρ:Rho} {n:Nat} (h:RL l a z0 D G0 A τ ρ G n) (e:Ext a G G'):Ex G0 G':=λb o x=>e b o (by rintro rfl;rw [h.r.fr l _ h.al] at x;cases x) (h.r.ex b o x)
def qoD {t:TE3} (x:PwE l t):PwS l (qH t):=⟨λρ n Q=>x.w ρ n λd n1=>Q (.rt d x.nw) n1,λh k=>x.mono h λd m h=>k _ _ h,λh hw k=>x.ok (h.all _) hw λy d G1 n1 hq E1 L1 D1 N1=>k _ _ hq y G1 (qfb h E1) L1 D1 λz=>(N1 z).back h.r.ex⟩
def qlD (i:Nat):PwS l (qH (v3 i)):=⟨λρ n Q=>∃ d b,qbM ρ i=some (.rt d b)/\Q (.rt d b) n,λ⟨d,b,h1,h2⟩ k=>⟨d,b,h1,k _ _ h2⟩,λ{a z0 D G0 A τ ρ G n e Q} h ⟨d,b,h1,h2⟩ k=>by
 unfold qbM at h1;split at h1
 ·rename_i ds e;cases h1;obtain ⟨p,xs,b,c,g,f⟩:=h.r.ow i _ e;simp only [qH,v3,c];have pa:p≠a:=by
   rintro rfl;have:=h.r.inj i l _ b h.al;subst this;rw [h.ul] at e;cases e
  refine k _ _ h2 _ _ h.r.ex h.lf (.lst (by rw [jJ (by rintro (z|z);exact h.r.nd b z;exact pa z)];exact g) (f.up (zB λb z=>?_))) λ_=>.inr ⟨p,xs,ds,rfl,rfl,h.r.fr i p b,g,f.up (zB λq z=>?_)⟩
  ·rcases z with z|z
   ·exact .inl z
   ·subst z;exact .inr ⟨l,h.al⟩
  ·rcases z with (z|z)|z
   ·exact .inl z
   ·subst z;exact .inr ⟨l,h.al⟩
   ·subst z;exact .inr ⟨i,b⟩
 ·rename_i d e;cases h1;obtain ⟨t,b,c⟩:=h.r.sh i _ e;simp only [qH,v3,b];refine k _ _ h2 _ _ h.r.ex h.lf (c.up (zB λb z=>?_)) (λz=>by cases z);rcases z with z|z
  ·exact .inl z
  ·subst z;exact .inr ⟨l,h.al⟩
 ·cases h1⟩
def qbC {t:TE3} (x:PwE l t) (i:Nat) (m:List Bool) (hm:Tru (x.fv.all (mkb m))) (hl:Tru (!mkb m l&&(i != l&&i != 0))):PwS l (qJ t (gn3 i)):=⟨λρ n Q=>x.w ρ n λd n1=>Q (.nx (qbh m x.nw i d ρ)) n1,λh k=>x.mono h λd m h=>k _ _ h,λ{a z0 D G0 A τ ρ G n e Q} h hw k=>by
 have hl':mkb m l=false/\i≠l/\i≠0:=by simpa using hl.h
 refine x.ok (h.ln hl'.1 hm) hw λy d G1 n1 hq E1 L1 D1 N1=>?_;have k:=k _ _ hq;unfold qbh at k;show e.nx (τ.set i (some y)) G1;split at k
 ·rename_i hs;exact k _ _ _ ((h.up E1 L1).put hl'.2.1 hl'.2.2 (US D1 hs))
 ·split at k
  ·rename_i hn;have N:=N1 hn;rcases id N with h2|⟨p,xs,ds,h1,h2,_⟩
   ·exact absurd h2 (by assumption)
   subst h2;obtain ⟨A',r⟩:=(h.dem hl'.1).putN hl'.2.1 hl'.2.2 rfl E1 L1 N;exact k _ _ _ r
  ·exact k _ _ _ (((h.dem hl'.1).up E1 L1).put hl'.2.1 hl'.2.2 D1)⟩
def qk5 {t:TE3} {g:TG3} (x:PwE l t) (pg:PuG g) (m:List Bool) (hm:Tru (x.fv.all (mkb m))) (hl:Tru (!mkb m l&&pg.tg.all (λi=>i != l&&i != 0))):PwS l (qJ t g):=⟨λρ n Q=>x.w ρ n λd n1=>∃ bs,pg.f d=some bs/\Q (.nx (Z4 (dm m ρ) bs)) n1,λh k=>x.mono h λd m ⟨bs,h1,h2⟩=>⟨bs,h1,k _ _ h2⟩,λ{a z0 D G0 A τ ρ G n e Q} h hw k=>by
 have hl':mkb m l=false/\∀ i∈pg.tg,i≠l/\i≠0:=by simpa using hl.h
 refine x.ok (h.ln hl'.1 hm) hw λy d G1 n1 ⟨bs,e2,hq⟩ E1 L1 D1 N1=>?_;obtain ⟨ts,bd,kg⟩:=pg.ok D1 e2;refine kg _ _ _ ?_;obtain ⟨A',h'⟩:=((h.dem hl'.1).up E1 L1).puts bd (λp hp=>hl'.2 _ (pg.at' e2 p hp));exact k _ _ hq _ _ _ h'⟩
def qmJ {t:TA3} (x:PwA l t) (i j:Nat) (m:List Bool) (hm:Tru (x.fv.all (mkb m))) (hl:Tru (!mkb m l&&((i != l&&i != 0)&&(j != l&&j != 0)))):PwS l (QS i j t):=⟨λρ n Q=>x.w ρ n λds n1=>∃ o,qd5 i j m ds ρ=some o/\Q o n1,λh k=>x.mono h λd m ⟨bs,h1,h2⟩=>⟨bs,h1,k _ _ h2⟩,λ{a z0 D G0 A τ ρ G n e Q} h hw k=>by
 have hl':mkb m l=false/\(i≠l/\i≠0)/\j≠l/\j≠0:=by simpa using hl.h
 refine x.ok (h.ln hl'.1 hm) hw λy d G1 n1 ⟨o,e2,hq⟩ hlen E1 L1 D1=>?_;unfold qd5 at e2;split at e2
 ·cases D1 with
  |cons x1 b=>cases b with
   |cons x2 c=>
    cases c;split at e2
    ·rename_i hs;cases e2;rw [Bool.and_eq_true] at hs;exact k _ _ hq _ _ _ (((h.up E1 L1).put hl'.2.1.1 hl'.2.1.2 (US x1 hs.1)).put hl'.2.2.1 hl'.2.2.2 (US x2 hs.2))
    ·cases e2;exact k _ _ hq _ _ _ ((((h.dem hl'.1).up E1 L1).put hl'.2.1.1 hl'.2.1.2 x1).put hl'.2.2.1 hl'.2.2.2 (x2.up qe5))
 ·cases e2⟩
def RL.evalS {a:Addr} {z0:Option (Option T)×Nat} {D:Addr->Prop} {G0 G:Gp} {A:Nat->Option Addr} {τ:St3} {ρ:Rho} {n:Nat} (h:RL l a z0 D G0 A τ ρ G n) {t:TE3} (x:PwE l t) (m:List Bool) (hm:Tru (x.fv.all (mkb m))) (hl:mkb m l=false) {Q:QD} (hw:x.w ρ n Q) (q:Q3) (k:∀ y d G' n' A1,Q d n'->RL l a z0 D G0 A1 τ (dmS m d ρ) G' n'->Ext a G G'->Dq (rs (AD D A1) G') y d->q y G'):t τ G q:=by
 refine x.ok (h.ln hl hm) hw λy d G1 n1 hq E1 L1 D1 _=>?_;by_cases hs:qbm d=true
 ·exact k y d G1 n1 A hq (by unfold dmS;rw [if_pos hs];exact h.up E1 L1) E1 (US D1 hs)
 ·exact k y d G1 n1 _ hq (by unfold dmS;rw [if_neg hs];exact (h.dem hl).up E1 L1) E1 D1
def qb7 (gf:PyData->Option (List (Nat×PyData))) (bw:Rho->Nat->QO->Prop):List PyData->Rho->Nat->QO->Prop
 |[],ρ,n,Q=>Q (.nx ρ) n
 |d::r,ρ,n,Q=>∃ bs,gf d=some bs/\bw (Z4 ρ bs) n λo n1=>match o with
  |.nx ρ'=>qb7 gf bw r ρ' n1 Q
  |.ct ρ'=>qb7 gf bw r ρ' n1 Q
  |.bk ρ'=>Q (.nx ρ') n1
  |.rt d b=>Q (.rt d b) n1
def EN {g:TG3} {tb:TS3} (pg:PuG g) (pb:PwS l tb):∀ {ds:List PyData} {ρ:Rho} {n:Nat} {Q Q':QO},qb7 pg.f pb.w ds ρ n Q->(∀ o m,Q o m->Q' o m)->qb7 pg.f pb.w ds ρ n Q'
 |[],_,_,_,_,h,k=>k _ _ h
 |d::r,_,_,_,_,⟨bs,e,h⟩,k=>⟨bs,e,pb.mono h λo m h=>by
   cases o with
   |nx ρ=>exact EN pg pb h k
   |ct ρ=>exact EN pg pb h k
   |bk ρ=>exact k _ _ h
   |rt d b=>exact k _ _ h⟩
def XZ {stay:Gp->Prop} {g:TG3} {tb:TS3} {e:Ends3} (pg:PuG g) (pb:PwS l tb) {a:Addr} {z0:Option (Option T)×Nat} {D:Addr->Prop} {G0:Gp} {Q:QO} (hl:∀ i∈pg.tg,i≠l/\i≠0) (hs:∀ A τ ρ G n,RL l a z0 D G0 A τ ρ G n->stay G) (k:∀ o m,Q o m->qab l a z0 D G0 e o m) :
  ∀ (ds:List PyData) (items:List T),(∀ A τ ρ G n,RL l a z0 D G0 A τ ρ G n->Dqs (rs (AD D A) G) items ds)->∀ A τ ρ G n,RL l a z0 D G0 A τ ρ G n->qb7 pg.f pb.w ds ρ n Q->CF stay g tb e items τ G
 |[],items,hi,A,τ,ρ,G,n,h,hw=>by
  have:=hi _ _ _ _ _ h;cases this;exact ⟨hs _ _ _ _ _ h,k _ _ hw _ _ _ h⟩
 |d::ds,items,hi,A,τ,ρ,G,n,h,⟨bs,e1,hw⟩=>by
  have hh:=hi _ _ _ _ _ h;cases hh with
  |cons hx hr=>
   rename_i x items;obtain ⟨ts,bd,kg⟩:=pg.ok hx e1;refine ⟨hs _ _ _ _ _ h,kg _ _ _ ?_⟩;obtain ⟨A',h'⟩:=h.puts bd λp hp=>hl _ (pg.at' e1 p hp);have hi':∀ A τ ρ G n,RL l a z0 D G0 A τ ρ G n->Dqs (rs (AD D A) G) items ds:=λA τ ρ G n h=>by
    have:=hi _ _ _ _ _ h;cases this with
    |cons a b=>exact b
   refine pb.ok h' hw λo m hq=>?_;cases o with
   |nx ρ'=>exact λA2 τ2 G2 h2=>XZ pg pb hl hs k ds items hi' _ _ _ _ _ h2 hq
   |ct ρ'=>exact λA2 τ2 G2 h2=>XZ pg pb hl hs k ds items hi' _ _ _ _ _ h2 hq
   |bk ρ'=>exact k _ _ hq
   |rt d fr=>exact k _ _ hq
def RL.base {a:Addr} {z0:Option (Option T)×Nat} {D:Addr->Prop} {G0 Gb G:Gp} {A:Nat->Option Addr} {τ:St3} {ρ:Rho} {n:Nat} (h:RL l a z0 D Gb A τ ρ G n) (e:Ex G0 Gb) (hd:Dom D G0):RL l a z0 D G0 A τ ρ G n:=⟨h.r.base e hd,h.al,h.tl,h.ul,h.lf,h.tz⟩
def qab.base {a:Addr} {z0:Option (Option T)×Nat} {D:Addr->Prop} {G0 Gb:Gp} {e:Ends3} {o:Ot} {n:Nat} (h:qab l a z0 D G0 e o n) (x:Ex G0 Gb) (hd:Dom D G0):qab l a z0 D Gb e o n:=by
 cases o with
 |nx ρ=>exact λA τ G r=>h A τ G (r.base x hd)
 |bk ρ=>exact λA τ G r=>h A τ G (r.base x hd)
 |ct ρ=>exact λA τ G r=>h A τ G (r.base x hd)
 |rt d fr=>exact λy G p q r z=>h y G (x.trans p) q r λw=>(z w).back x
def qmm {wi:TI3} {g:TG3} {tb:TS3} (pi:PwI l wi) (pg:PuG g) (pb:PwS l tb) (m:List Bool) (hm:Tru (pi.fv.all (mkb m))) (hl:Tru (!mkb m l&&pg.tg.all (λi=>i != l&&i != 0))):PwS l (WF wi g tb):=⟨λρ n Q=>pi.w ρ n λds n1=>qb7 pg.f pb.w ds (if pi.nm then ρ else dm m ρ) n1 Q,λh k=>pi.mono h λd m h=>EN pg pb h k,λ{a z0 D G0 A τ ρ G n e Q} h hw k=>by
 have hl':mkb m l=false/\∀ i∈pg.tg,i≠l/\i≠0:=by simpa using hl.h
 refine pi.ok (h.ln hl'.1 hm) hw λitems stay ds G1 n1 hq E1 L1 D1 hs hnm=>?_;cases hb:pi.nm with
 |true=>
  rw [hb,if_pos rfl] at hq;obtain ⟨ns,rfl⟩:=hnm hb;have:=D1.ints;subst this;exact XZ pg pb hl'.2 (λ_ _ _ _ _ _=>hs _ (.inl hb)) k _ _ (λA τ ρ G _ _=>Dqs.ofInts _) _ _ _ _ _ (h.up E1 L1) hq
 |false=>
  rw [hb,if_neg Bool.false_ne_true] at hq;have h1:=(h.dem hl'.1).up E1 L1;have b1:Ex G0 (rs (λb=>∃ i,Ad m A i=some b) G1):=λb o e=>by
   rw [jJ]
   ·exact h1.r.ex _ _ e
   ·rintro ⟨i,z⟩;rw [h1.r.fr i _ z] at e;cases e
  have h2:RL l a z0 D (rs (λb=>∃ i,Ad m A i=some b) G1) (Ad m A) τ (dm m ρ) G1 n1:=⟨⟨J5,h.r.dm.up b1,λi p z=>by unfold rs;exact zA ⟨i,z⟩,h1.r.da,h1.r.inj,h1.r.len,h1.r.sh,h1.r.ow,h1.r.dc⟩,h1.al,h1.tl,h1.ul,h1.lf,h1.tz⟩
  have X:∀ A2 τ2 ρ2 G2,RS D (rs (λb=>∃ i,Ad m A i=some b) G1) A2 τ2 ρ2 G2->Ex (rs (AD D (Ad m A)) G1) (rs (AD D A2) G2):=λA2 τ2 ρ2 G2 r b o e=>by
   obtain ⟨n1,e⟩:=qG e;have eb:rs (λb=>∃ i,Ad m A i=some b) G1 b=some o:=by rw [jJ (λz=>n1 (.inr z))];exact e
   rw [jJ]
   ·exact r.ex _ _ eb
   ·rintro (z|⟨i,z⟩)
    ·exact n1 (.inl z)
    ·rw [r.fr i _ z] at eb;cases eb
  exact XZ pg pb hl'.2 (λA2 τ2 ρ2 G2 n2 r=>hs _ (.inr ((X _ _ _ _ r.r).trans J5))) (λo m hq=>(k o m hq).base b1 h.r.dm) _ _ (λA2 τ2 ρ2 G2 n2 r=>D1.up (X _ _ _ _ r.r)) _ _ _ _ _ h2 hq⟩
end
def DSp (W:List PyData->Nat->QD->Prop) (fr:Bool):Sp3:=λts G q=>∃ (D:Addr->Prop) (a:Addr) (n:Nat) (ts':List T) (ds:List PyData) (Q:QD),ts=.ref a::ts'/\Lf G a n/\D a/\Dom D G/\Dqs (rs D G) ts' ds/\W ds n Q/\∀ x d G' n',Q d n'->Ext a G G'->Lf G' a n'->Dq (rs D G') x d->(fr=true->Nw D G G' x d)->q x G'
structure Wm where
 W:List PyData->Nat->QD->Prop
 mono:∀ {ds n} {Q Q':QD},W ds n Q->(∀ d m,Q d m->Q' d m)->W ds n Q'
def dSp (w:Wm) (fr:Bool):DrD (DSp w.W fr):=⟨w.W,fr,w.mono,λ{D G a n ts ds q Q} lf da hd hs hw k=>⟨D,a,n,ts,ds,Q,rfl,lf,da,hd,hs,hw,k⟩⟩
def qmI (fr:Bool) (Q:QD):QO:=λo n=>match o with
 |.rt d b=>(fr=true->b=true)/\∃ m,n<=m/\Q d m
 |.nx _=>fr=false/\∃ m,n<=m/\Q .none m
 |_=>False
def qoM {t:TS3} (b:PwS 0 t) (k N:Nat) (fr:Bool):Wm:=⟨λds n Q=>ds.length+1=k/\b.w (.un::(ds.map Sl.sh++List.replicate (N-(ds.length+1)) .un)) n (qmI fr Q),λ⟨h1,h2⟩ k=>⟨h1,b.mono h2 λo m h=>by
 cases o with
 |rt d f=>obtain ⟨h1,m,h2,h3⟩:=h;exact ⟨h1,m,h2,k _ _ h3⟩
 |nx ρ=>obtain ⟨h1,m,h2,h3⟩:=h;exact ⟨h1,m,h2,k _ _ h3⟩
 |bk ρ=>exact h
 |ct ρ=>exact h⟩⟩
def qfP {t:TS3} (b:PwS 0 t) (N:List Str) (k:Nat) (fr:Bool):∀ ts G q,DSp (qoM b k N.length fr).W fr ts G q->ts.length=k/\t { nx:=λ_ G'=>q .non G',rt:=q } (qk N ts) G:=by
 rintro ts G q ⟨D,a,n,ts',ds,Q,rfl,lf,da,hd,hs,⟨hk,hw⟩,h⟩;refine ⟨by simp [hs.length];omega,?_⟩;have DD:∀ b,(D b/\b≠a)\/b=a↔D b:=λb=>by
  by_cases e:b=a
  ·subst e;simp [da]
  ·simp [e]
 have rr:∀ H,rs (λb=>(D b/\b≠a)\/b=a) H=rs D H:=λH=>by
  have:(λb=>(D b/\b≠a)\/b=a)=D:=funext λb=>propext (DD b);rw [this]
 have ad:AD (λb=>D b/\b≠a) (λi=>if i=0 then some a else none)=D:=funext λb=>propext ⟨(λz=>by
   rcases z with z|⟨i,z⟩
   ·exact z.1
   ·simp only at z;split at z
    ·cases z;exact da
    ·cases z),(λz=>by
   by_cases e:b=a
   ·subst e;exact .inr ⟨0,rfl⟩
   ·exact .inl ⟨z,e⟩)⟩
 have ga:G a≠none:=EI lf;have r:RL 0 a (some (some (.ref a)),(qk N (.ref a::ts')).length) (λb=>D b/\b≠a) (rs (λb=>b=a) G) (λi=>if i=0 then some a else none) (qk N (.ref a::ts')) (.un::(ds.map Sl.sh++List.replicate (N.length-(ds.length+1)) .un)) G n:=by
  refine ⟨⟨J5,λb hb=>by rw [jJ (D:=λb=>b=a) hb.2];exact hd b hb.1,λi p e=>?_,λi p e=>?_,λi j p e e'=>?_,by simp [qk,hs.length],λi d' e=>?_,λi es e=>?_,λi es e=>?_⟩,rfl,by simp [qk],rfl,lf,⟨by simp [qk],rfl⟩⟩
  ·split at e
   ·cases e;unfold rs;exact zA rfl
   ·cases e
  ·split at e
   ·cases e;exact ga
   ·cases e
  ·split at e
   ·split at e'
    ·rename_i h1 h2;rw [h1,h2]
    ·cases e'
   ·cases e
  ·rw [ad];cases i with
   |zero=>cases e
   |succ i=>
    rw [getElem?_cons_succ] at e;by_cases hi:i<ds.length
    ·rw [List.getElem?_append_left (by simpa using hi),getElem?_map] at e;obtain ⟨d2,e3,e4⟩:=Option.map_eq_some_iff.mp e;cases e4;obtain ⟨x,e5,hx⟩:=hs.get e3;refine ⟨x,?_,hx⟩;unfold qk;rw [List.getElem?_append_left (by simp [hs.length];exact hi),getElem?_map,getElem?_cons_succ,e5];rfl
    ·rw [List.getElem?_append_right (by simpa using hi),List.getElem?_replicate] at e;split at e<;>cases e
  ·cases i with
   |zero=>cases e
   |succ i=>
    rw [getElem?_cons_succ] at e;by_cases hi:i<ds.length
    ·rw [List.getElem?_append_left (by simpa using hi),getElem?_map] at e;obtain ⟨d2,e3,e4⟩:=Option.map_eq_some_iff.mp e;cases e4
    ·rw [List.getElem?_append_right (by simpa using hi),List.getElem?_replicate] at e;split at e<;>cases e
  ·cases i with
   |zero=>cases e
   |succ i=>
    rw [getElem?_cons_succ] at e;by_cases hi:i<ds.length
    ·rw [List.getElem?_append_left (by simpa using hi),getElem?_map] at e;obtain ⟨d2,e3,e4⟩:=Option.map_eq_some_iff.mp e;cases e4
    ·rw [List.getElem?_append_right (by simpa using hi),List.getElem?_replicate] at e;split at e<;>cases e
 have xe:∀ {G'},Ex (rs (λb=>b=a) G) G'->Ext a G G':=λe b o n x=>e b o (by rw [jJ (D:=λb=>b=a) n];exact x);refine b.ok r hw λo m hq=>?_;cases o with
 |rt d f=>
  intro x G' E L Dx0 N;have Dx:=Dx0;rw [rr] at Dx;obtain ⟨hq1,m2,hm,hq2⟩:=hq;refine h x d G' m2 hq2 (xe E) (L.mono (by omega)) Dx λz=>?_;rcases N (hq1 z) with h2|⟨p,xs,ds',h1,h2,c,g,f'⟩
  ·exact .inl h2
  have np:p≠a:=by
   rintro rfl;rw [h1] at Dx0;cases Dx0 with
   |lst g0 _=>exact (qG g0).1 (.inr rfl)
  refine .inr ⟨p,xs,ds',h1,h2,by rw [jJ (D:=λb=>b=a) np] at c;exact c,g,f'.up (zB λb z=>?_)⟩;rcases z with z|z
  ·exact .inl ((DD b).mpr z)
  ·exact .inr z
 |nx ρ=>
  obtain ⟨hq1,m2,hm,hq2⟩:=hq;exact λA τ G' r'=>h .non .none G' m2 hq2 (xe r'.r.ex) (r'.lf.mono (by omega)) .non λz=>by rw [hq1] at z;cases z
 |bk ρ=>exact hq.elim
 |ct ρ=>exact hq.elim
end Pu
namespace Pu
open PySem L2 L3
open Bk (Lf Ext Dl Wk Dr)
def okW:QO:=λo _=>match o with|.nx _=>True|.ct _=>True|_=>False
def qo7 (K:Int):TE3:=o3 za (c3 (.int 1)) (cb3 XM (qb (c3 (.int K)) (qb (cb3 YA (qb (v3 0) qg)) qg)))
def qji {i:Nat} {τ:St3} {t:T} {G:Gp} {q:Q3} (h:τ[i]?=some (some t)):v3 i τ G q=q t G:=by unfold v3;rw [h]
def qoS (K:Int) (R:TS3):TS3:=qv (WF (zz (qb (qo7 K) qg)) (gn3 1) (qv (qJ (cb3 Bk.ZU (qb (v3 0) (qb (v3 1) qg))) (gn3 2)) R)) (qH (c3 (.bl true)))
def qcl {R:TS3} (b:PwS 2 R) (N:List Str) (K:Int) (M:Nat) (hK:0<=K/\K<=60) (hN:N.length=M+3) (h:∀ k:Nat,k<=60->b.w ([.un,.sh (.int k),.un]++List.replicate M .un) 0 okW):∀ ts G q,WY ts G q->ts.length=1/\qoS K R { nx:=λ_ G'=>q .non G',rt:=q } (qk N ts) G:=by
 rintro ts G q ⟨a,ns,rfl,hG,hl,hq⟩;refine ⟨rfl,?_⟩;have s0:(qk N [T.ref a])[0]?=some (some (.ref a)):=by simp [qk]
 have gl:zG G a=some (ns.map T.int):=by unfold zG;rw [hG]
 simp only [qoS,qv,WF,zz,qo7,qb,qg,o3,c3,cb3,v3,s0,YA,gl,XM,za,length_map];have cnt:((1+(if ((ns.length:Nat):Int)<K then ((ns.length:Nat):Int) else K)).toNat)<=61:=by split<;>omega
 refine ⟨⟨by split<;>omega,by split<;>omega⟩,?_⟩;refine VD _ (λ_ τ G'=>G' a=some (.frz (ns.map T.int))/\τ[0]?=some (some (.ref a))/\τ.length=M+3) ⟨hG,s0,by simp [qk,hN]⟩ (λ_ _ _ _ _=>True.intro) ?_ ?_
 ·rintro i z τ G' nx hz ⟨gA,t0,tl⟩ hn;obtain ⟨hi,rfl⟩:=S8 hz;have hi2:i<=60:=by omega
  have t1:(τ.set 1 (some (T.int (0+(i:Int)))))[0]?=some (some (.ref a)):=by rw [getElem?_set,if_neg (by omega)];exact t0
  have t2:(τ.set 1 (some (T.int (0+(i:Int)))))[1]?=some (some (T.int (0+(i:Int)))):=by rw [getElem?_set,if_pos rfl,if_pos (by omega)]
  show v3 0 (τ.set 1 (some (T.int (0+(i:Int))))) G' (λx G1=>v3 1 (τ.set 1 (some (T.int (0+(i:Int))))) G1 λy G2=>Bk.ZU [x,y] G2 λz G3=>R _ ((τ.set 1 (some (T.int (0+(i:Int))))).set 2 (some z)) G3);rw [qji t1,qji t2];refine ⟨a,_,ns,rfl,gA,hl,by omega,by omega,λp o c hp ho=>?_⟩;have pa:a≠p:=by rintro rfl;rw [gA] at hp;cases hp
  have r:RL 2 p (some (some (.ref a)),M+3) (λ_=>False) G' (λj=>if j=2 then some p else none) ((τ.set 1 (some (T.int (0+(i:Int))))).set 2 (some (.ref p))) ([.un,.sh (.int i),.un]++List.replicate M .un) (gu G' p (.lst [.int o,.int c,.int 0])) 0:=by
   refine ⟨⟨QB hp,λb z=>z.elim,λj q e=>?_,λj q e=>?_,λj k q e e'=>?_,by simp [tl],λj d e=>?_,λj ds e=>?_,λj ds e=>?_⟩,rfl,by rw [getElem?_set,if_pos rfl,if_pos (by simp;omega)],rfl,⟨o,c,0,qq,ho,by omega,by omega⟩,⟨by rw [getElem?_set,if_neg (by omega)];exact t1,by simp [tl]⟩⟩
   ·split at e
    ·cases e;exact hp
    ·cases e
   ·split at e
    ·cases e;rw [qq];simp
    ·cases e
   ·split at e
    ·split at e'
     ·rename_i h1 h2;rw [h1,h2]
     ·cases e'
    ·cases e
   ·match j,e with
    |0,e=>cases e
    |1,e=>
     cases e;refine ⟨.int (0+(i:Int)),by rw [getElem?_set,if_neg (by omega)];exact t2,?_⟩;rw [Int.zero_add];exact .int _
    |2,e=>cases e
    |j+3,e=>
     simp only [cons_append,List.nil_append,getElem?_cons_succ,List.getElem?_replicate] at e;split at e<;>cases e
   ·match j,e with
    |0,e=>cases e
    |1,e=>cases e
    |2,e=>cases e
    |j+3,e=>
     simp only [cons_append,List.nil_append,getElem?_cons_succ,List.getElem?_replicate] at e;split at e<;>cases e
   ·match j,e with
    |0,e=>cases e
    |1,e=>cases e
    |2,e=>cases e
    |j+3,e=>
     simp only [cons_append,List.nil_append,getElem?_cons_succ,List.getElem?_replicate] at e;split at e<;>cases e
  refine b.ok r (h i hi2) λo' m ho'=>?_;cases o' with
  |nx ρ'=>exact λA τ' G2 r2=>hn _ _ ⟨r2.r.ex _ _ gA,r2.tz.1,r2.tz.2⟩
  |ct ρ'=>exact λA τ' G2 r2=>hn _ _ ⟨r2.r.ex _ _ gA,r2.tz.1,r2.tz.2⟩
  |bk ρ'=>exact ho'.elim
  |rt d f=>exact ho'.elim
 ·rintro τ G' ⟨gA,t0,tl⟩;exact hq G'
def NI {G:Gp} {ts:List T} (h:Dqs G ts []):ts=[]:=by cases h;rfl
def qnb {G:Gp} {ts:List T} {i:Int} (h:Dqs G ts [.int i]):ts=[.int i]:=by
 cases h with
 |cons a b=>cases b;cases a;rfl
def lfc {G:Gp} {a:Addr} {n c:Nat} (h:Lf G a ((n:Int)+(c:Int))):Lf G a ((n+c:Nat):Int):=by rw [Int.natCast_add];exact h
def qfY:DrD Bk.qA:=⟨λds n Q=>∃ m:Int,ds=[.int m]/\(1<=m/\m<1073741824)/\n<1000000000/\∀ d:Int,0<=d->d<m->Q (.int d) (n+1),false,
 λ⟨m,h1,h2,h3,h4⟩ k=>⟨m,h1,h2,h3,λd x y=>k _ _ (h4 d x y)⟩,λ{D G a n ts ds q Q} lf da hd hs ⟨m,h1,h2,h3,h4⟩ k=>by
 subst h1;have:=qnb hs;subst this;exact ⟨a,n,m,rfl,h2.1,h2.2,lf,by omega,λd G' x y L E=>k _ _ G' (n+1) (h4 d x y) E (lfc (c:=1) L) (.int d) (λz=>by cases z)⟩⟩
def qio:DrD Bk.ZF:=⟨λds n Q=>ds=[]/\n<1000000/\∀ w:Wk,w.Ok->Q (Pv.Wk.d w) (n+60),false,
 λ⟨h1,h3,h4⟩ k=>⟨h1,h3,λw x=>k _ _ (h4 w x)⟩,λ{D G a n ts ds q Q} lf da hd hs ⟨h1,h3,h4⟩ k=>by
 subst h1;have:=NI hs;subst this;exact ⟨a,n,rfl,lf,by omega,λw G' x L E=>k _ _ G' (n+60) (h4 w x) E (lfc (c:=60) L) (Pv.qmv _ w) (λz=>by cases z)⟩⟩
def KR:DrD Bk.jr:=⟨λds n Q=>ds=[]/\n<100000/\∀ d:Dl,Dr d 16 16 32->d.dep<=2->Q (Pv.dlD d) (n+1000),false,
 λ⟨h1,h3,h4⟩ k=>⟨h1,h3,λd x y=>k _ _ (h4 d x y)⟩,λ{D G a n ts ds q Q} lf da hd hs ⟨h1,h3,h4⟩ k=>by
 subst h1;have:=NI hs;subst this;exact ⟨a,n,rfl,lf,by omega,λd G' a1 a2 L E=>k _ _ G' (n+1000) (h4 d a1 a2) E (lfc (c:=1000) L) (Pv.qf7 _ _) (λz=>by cases z)⟩⟩
def qkk {l:Nat} {t:TE3} {b:PuE t}:(eOf (l:=l) b).w=λρ n Q=>∃ d,b.f ρ=some d/\Q d n:=id rfl
def qlh {l:Nat} {t:TT3} {b:PuC t}:(cOf (l:=l) b).w=λρ n Q=>∃ d,b.f ρ=some d/\Q d n:=id rfl
def qhk {l:Nat} {t:TA3} {b:PuA t}:(aOf (l:=l) b).w=λρ n Q=>∃ d,b.f ρ=some d/\Q d n:=id rfl
def qk1 {l:Nat} {t:TI3} {b:PuI t}:(iOf (l:=l) b).w=λρ n Q=>∃ d,b.f ρ=some d/\Q d n:=id rfl
def qoW {l:Nat} {r:R3} {ta tb:TE3} {R:OpD r} {a:PwE l ta} {b:PwE l tb}:(eO R a b).w=λρ n Q=>a.w ρ n λx n1=>b.w ρ n1 λy n2=>∃ v,R.f x y=some v/\Q v n2:=id rfl
def qaE {l:Nat} {ta:TE3} {tr:TA3} {a:PwE l ta} {r:PwA l tr}:(qar a r).w=λρ n Q=>a.w ρ n λx n1=>r.w ρ n1 λxs n2=>Q (x::xs) n2:=id rfl
def qec {l:Nat} {t:TA3} {b:PwA l t} {hn:Tru (Nat.ble b.k 1000)}:(qo4 b hn).w=λρ n Q=>b.w ρ n λxs n1=>Q (.list xs) n1:=id rfl
def qiv {l:Nat} {r:List T->Gp->Q3->Prop} {t:TA3} {R:DrD r} {b:PwA l t}:(eDr R b).w=λρ n Q=>b.w ρ n λxs n1=>R.W xs n1 Q:=id rfl
def qoX {l:Nat} {t:TE3} {b:PwE l t}:(iS b).w=λρ n Q=>b.w ρ n λd n1=>∃ ds,qbY d=some ds/\Q ds n1:=id rfl
def qlB {l:Nat} {t:TE3} {b:PwE l t}:(iS b).nm=false:=id rfl
def qcG {l:Nat} {t:TI3} {b:PuI t}:(iOf (l:=l) b).nm=b.nm:=id rfl
def qd0 {l:Nat} {t:TE3} {b:PuE t}:(eOf (l:=l) b).nw=b.nw:=id rfl
def qje {l:Nat} {r:R3} {ta tb:TE3} {R:OpD r} {a:PwE l ta} {b:PwE l tb}:(eO R a b).nw=R.nw:=id rfl
def qaZ {l:Nat}:(NV (l:=l)).w=λρ n Q=>Q (.nx ρ) n:=id rfl
def qbb {l:Nat} {t u:TS3} {x:PwS l t} {y:PwS l u}:(SS x y).w=λρ n Q=>x.w ρ n (sqw y.w Q):=id rfl
def qdt {b:Rho->Nat->QO->Prop} {Q:QO} {ρ:Rho} {n:Nat}:sqw b Q (.nx ρ) n=b ρ n Q:=id rfl
def qdf {b:Rho->Nat->QO->Prop} {Q:QO} {d:PyData} {f:Bool} {n:Nat}:sqw b Q (.rt d f) n=Q (.rt d f) n:=id rfl
def qhR {l:Nat} {c:TT3} {t u:TS3} {pc:PwC l c} {x:PwS l t} {y:PwS l u}:(wIf pc x y).w=λρ n Q=>pc.w ρ n λk n1=>if k then x.w ρ n1 Q else y.w ρ n1 Q:=id rfl
def qcu {l:Nat} {t:TE3} {x:PwE l t}:(qoD x).w=λρ n Q=>x.w ρ n λd n1=>Q (.rt d x.nw) n1:=id rfl
def qaQ {l:Nat} {i:Nat}:(qlD (l:=l) i).w=λρ n Q=>∃ d b,qbM ρ i=some (.rt d b)/\Q (.rt d b) n:=id rfl
def qc6 {l:Nat} {t:TE3} {x:PwE l t} {i:Nat} {m:List Bool} {hm:Tru (x.fv.all (mkb m))} {hl:Tru (!mkb m l&&(i != l&&i != 0))}:(qbC x i m hm hl).w=λρ n Q=>x.w ρ n λd n1=>Q (.nx (qbh m x.nw i d ρ)) n1:=id rfl
def qau {l:Nat} {t:TE3} {g:TG3} {x:PwE l t} {pg:PuG g} {m:List Bool} {hm:Tru (x.fv.all (mkb m))} {hl:Tru (!mkb m l&&pg.tg.all (λi=>i != l&&i != 0))}:(qk5 x pg m hm hl).w=λρ n Q=>x.w ρ n λd n1=>∃ bs,pg.f d=some bs/\Q (.nx (Z4 (dm m ρ) bs)) n1:=id rfl
def qdZ {l:Nat} {t:TA3} {x:PwA l t} {i j:Nat} {m:List Bool} {hm:Tru (x.fv.all (mkb m))} {hl:Tru (!mkb m l&&((i != l&&i != 0)&&(j != l&&j != 0)))}:(qmJ x i j m hm hl).w=λρ n Q=>x.w ρ n λds n1=>∃ o,qd5 i j m ds ρ=some o/\Q o n1:=id rfl
def qdq {l:Nat} {wi:TI3} {g:TG3} {tb:TS3} {pi:PwI l wi} {pg:PuG g} {pb:PwS l tb} {m:List Bool} {hm:Tru (pi.fv.all (mkb m))} {hl:Tru (!mkb m l&&pg.tg.all (λi=>i != l&&i != 0))}:(qmm pi pg pb m hm hl).w=λρ n Q=>pi.w ρ n λds n1=>qb7 pg.f pb.w ds (if pi.nm then ρ else dm m ρ) n1 Q:=id rfl
def qaO {ds:List PyData} {n:Nat} {Q:QD}:qfY.W ds n Q=(∃ m:Int,ds=[.int m]/\(1<=m/\m<1073741824)/\n<1000000000/\∀ d:Int,0<=d->d<m->Q (.int d) (n+1)):=id rfl
def NO {ds:List PyData} {n:Nat} {Q:QD}:qio.W ds n Q=(ds=[]/\n<1000000/\∀ w:Wk,w.Ok->Q (Pv.Wk.d w) (n+60)):=id rfl
def W6 {ds:List PyData} {n:Nat} {Q:QD}:KR.W ds n Q=(ds=[]/\n<100000/\∀ d:Dl,Dr d 16 16 32->d.dep<=2->Q (Pv.dlD d) (n+1000)):=id rfl
def qle {w:Wm} {fr:Bool}:(dSp w fr).W=w.W:=id rfl
def qd9 {Q:QD} {d:PyData} {n:Nat}:qmI true Q (.rt d true) n=∃ m,n<=m/\Q d m:=propext ⟨λh=>h.2,λh=>⟨λ_=>rfl,h⟩⟩
def qcX {ρ:Rho} {n:Nat}:okW (.nx ρ) n=True:=id rfl
def qiS {α:Type} {v:α} {P:α->Prop}:(∃ d,some v=some d/\P d)=P v:=propext ⟨λ⟨d,h1,h2⟩=>by cases h1;exact h2,λh=>⟨v,rfl,h⟩⟩
def qdW {v:Int} {P:Int->Prop}:(∃ m:Int,[PyData.int v]=[.int m]/\P m)=P v:=propext ⟨λ⟨d,h1,h2⟩=>by cases h1;exact h2,λh=>⟨v,rfl,h⟩⟩
def qhh {d:PyData} {b:Bool} {P:PyData->Bool->Prop}:(∃ d' b',some (Ot.rt d b)=some (.rt d' b')/\P d' b')=P d b:=propext ⟨λ⟨x,y,h1,h2⟩=>by cases h1;exact h2,λh=>⟨d,b,rfl,h⟩⟩
def EH {l:Nat} {t u:TS3} {x:PwS l t} {y:PwS l u} {ρ:Rho} {n:Nat} {Q:QO} (h:∀ Y:Rho->Nat->QO->Prop,Y=y.w->x.w ρ n (sqw Y Q)):(SS x y).w ρ n Q:=h _ rfl
structure Mn (bw:Rho->Nat->QO->Prop):Prop where
 h:∀ ρ n (Q Q':QO),bw ρ n Q->(∀ o m,Q o m->Q' o m)->bw ρ n Q'
def PwS.mn {l:Nat} {t:TS3} (b:PwS l t):Mn b.w:=⟨λ_ _ _ _ h k=>b.mono h k⟩
section
variable {l:Nat} {g:TG3} {tb:TS3}
def XX {gf:PyData->Option (List (Nat×PyData))} {bw:Rho->Nat->QO->Prop} {α:Type} {f:α->PyData} (xs:List α) (mono:Mn bw) (I:Nat->Rho->Nat->Prop) {ρ:Rho} {n:Nat} {Q:QO} (h0:I 0 ρ n)
  (hs:∀ i x ρ n,xs[i]?=some x->I i ρ n->∃ bs,gf (f x)=some bs/\bw (Z4 ρ bs) n λo m=>match o with|.nx ρ'=>I (i+1) ρ' m|.ct ρ'=>I (i+1) ρ' m|.bk ρ'=>Q (.nx ρ') m|.rt d b=>Q (.rt d b) m)
  (k:∀ ρ n,I xs.length ρ n->Q (.nx ρ) n):qb7 gf bw (xs.map f) ρ n Q:=by
 have key:∀ (r:List α) (i:Nat) (ρ:Rho) (n:Nat),xs.drop i=r->i<=xs.length->I i ρ n->qb7 gf bw (r.map f) ρ n Q:=by
  intro r;induction r with
  |nil=>
   intro i ρ n e hi h;have:i=xs.length:=by
    have:=congrArg List.length e;simp at this;omega
   subst this;exact k ρ n h
  |cons x r ih=>
   intro i ρ n e hi h;have hl:i<xs.length:=by
    have:=congrArg List.length e;simp at this;omega
   have e':=List.drop_eq_getElem_cons hl;rw [e] at e';injection e' with e1 e2;obtain ⟨bs,h1,h2⟩:=hs i x ρ n (by rw [getElem?_eq_getElem hl,e1]) h;refine ⟨bs,h1,mono.h _ _ _ _ h2 λo m h=>?_⟩;cases o with
   |nx ρ'=>exact ih (i+1) ρ' m e2.symm hl h
   |ct ρ'=>exact ih (i+1) ρ' m e2.symm hl h
   |bk ρ'=>exact h
   |rt d b=>exact h
 exact key xs 0 ρ n (by simp) (Nat.zero_le _) h0
end
def M7 {α β:Type} {x:α} {f:α->Option β}:(some x).bind f=f x:=id rfl
def qeN {α β:Type} {x:α} {f:α->β}:(some x).map f=some (f x):=id rfl
def qia {α:Type} {x:α} {r:List α}:(x::r).length=r.length+1:=id rfl
def qib {α:Type}:([]:List α).length=0:=id rfl
def qjr {α:Type} {x y:α} {r:List α}:(x::r).set 0 y=y::r:=id rfl
def qhU {α:Type} {x y:α} {r:List α} {i:Nat}:(x::r).set (i+1) y=x::r.set i y:=id rfl
def qhV {α:Type} {r:List α}:r++[]=r:=List.append_nil r
def qhz {α:Type} {x:α} {r s:List α}:(x::r)++s=x::(r++s):=id rfl
def qjW {α:Type} {s:List α}:[]++s=s:=id rfl
def qjm {n:Nat}:0+n=n:=Nat.zero_add n
def qh3 {p:Prop}:(True/\p)=p:=true_and p
def qkM {α:Type} {a b:α} {i:Decidable True}:@ite α True i a b=a:=if_pos trivial
def qkE {α:Type} {a b:α} {i:Decidable False}:@ite α False i a b=b:=if_neg not_false
def qjJ:(false=true)=False:=Bool.false_eq_true
def qjz:(!true)=false:=id rfl
def qiu:(!false)=true:=id rfl
def qkN {i:Decidable True}:@decide True i=true:=decide_true i
def qhY {i:Decidable False}:@decide False i=false:=decide_false i
def qk2 {b:Bool}:(b&&true)=b:=Bool.and_true b
def qjK {b:Bool}:(true&&b)=b:=Bool.true_and b
def qhL {b:Bool}:(false&&b)=false:=Bool.false_and b
def qld {b:Bool}:(b&&false)=false:=Bool.and_false b
def ai{a b:Prop}(x:a)(y:b):a/\b:=⟨x,y⟩
def pwA:=(ai (ai (ai (ai (ai (ai (ai @Pu.qkk @Pu.qlh) (ai @Pu.qhk (ai @Pu.qk1 @Pu.qoW))) (ai (ai @Pu.qaE (ai @Pu.qec @Pu.qiv)) (ai @Pu.qoX (ai @Pu.qlB @Pu.qcG)))) (ai (ai (ai @Pu.qd0 (ai @Pu.qje @Pu.qaZ)) (ai @Pu.qbb (ai @Pu.qdt @Pu.qdf))) (ai (ai @Pu.qhR (ai @Pu.qcu @Pu.qaQ)) (ai @Pu.qc6 (ai @Pu.qau @Pu.qdZ))))) (ai (ai (ai (ai @Pu.qdq @Pu.qaO) (ai @Pu.NO (ai @Pu.W6 @Pu.qle))) (ai (ai @Pu.qd9 (ai @Pu.qcX @Pu.qdW)) (ai @Pu.qhh (ai @Pu.qgY @Pu.qoG)))) (ai (ai (ai @Pu.qcI (ai @Pu.qiD @Pu.qer)) (ai @Pu.qeu (ai @Pu.qoP @Pu.qeh))) (ai (ai @Pu.NY (ai @Pu.qcH @Pu.qdz)) (ai @Pu.NU (ai @Pu.qk4 @Pu.qc1)))))) (ai (ai (ai (ai (ai @Pu.qiC @Pu.qdO) (ai @Pu.qh5 (ai @Pu.NF @Pu.qaR))) (ai (ai @Pu.qdQ (ai @Pu.ql0 @Pu.qdG)) (ai @Pu.qhQ (ai @Pu.qiK @Pu.M6)))) (ai (ai (ai @Pu.M1 (ai @Pu.qk0 @Pu.qdN)) (ai @Pu.qcY (ai @Pu.qeY @Pu.qcW))) (ai (ai @Pu.qdg (ai @Pu.NJ @Pu.qaI)) (ai @Pu.qaM (ai @Pu.qiB @Pu.qjO))))) (ai (ai (ai (ai @Pu.qj2 @Pu.qdH) (ai @Pu.qdV (ai @Pu.qaD @Pu.qeP))) (ai (ai @Pu.qaU (ai @Pu.KK @Pu.qcO)) (ai @Pu.qdI (ai @Pu.qay @Pu.qbg)))) (ai (ai (ai @Pu.qpf (ai @Pu.qcM @Pu.qa5)) (ai @Pu.qeo (ai @Pu.N7 @Pu.qes))) (ai (ai @Pu.qiX (ai @Pu.qcK @Pu.N0)) (ai @Pu.qcN (ai @Pu.N4 @Pu.qcV))))))) (ai (ai (ai (ai (ai (ai @Pu.qdK @Pu.qdd) (ai @Pu.qdc (ai @Pu.M4 @Pu.qjH))) (ai (ai @Pu.qaf (ai @Pu.K4 @Pu.KP)) (ai @Pu.K0 (ai @Pu.qeK @Pu.NE)))) (ai (ai (ai @Pu.qai (ai @Pu.qas @Pu.RT)) (ai @Pu.qo9 (ai @Pu.qoZ @Pu.qkj))) (ai (ai @Pu.qjp (ai @Pu.NZ @Pu.qef)) (ai @Pu.qa6 (ai @Pu.qdL @Pu.qlm))))) (ai (ai (ai (ai @Pu.qi1 @Pu.at0) (ai @Pu.at1 (ai @Pu.at2 @Pu.at3))) (ai (ai @Pu.eqS (ai @Pu.eqI @Pu.qoU)) (ai @Pu.qeU (ai @Pu.qey @Pu.qed)))) (ai (ai (ai @Pu.NT (ai @Pu.qeH @Pu.qhp)) (ai @Pu.qi4 (ai @Pu.qj7 @Pu.qds))) (ai (ai @Pu.qdY (ai @Pu.qep @Pu.qcx)) (ai @Pu.LN (ai @Pu.qeR @Pu.qcr)))))) (ai (ai (ai (ai (ai @Pu.qg4 @Pu.qkX) (ai @Pu.qlj (ai @Pu.qid @Pu.qlM))) (ai (ai @Pu.qlL (ai @Pu.qlp @Pu.qiA)) (ai @Pu.qcR (ai @Pu.qgZ @Pu.qoE)))) (ai (ai (ai @Pu.qpg (ai @Pu.qo0 @Pu.qjs)) (ai @Pu.qlJ (ai @Pu.qh1 @Pu.qlY))) (ai (ai @Pu.qhB (ai @Pu.qoB @Pu.qd4)) (ai @Pu.qcB (ai @Pu.qcU @Pu.qel))))) (ai (ai (ai (ai @Pu.qiS @Pu.M7) (ai @Pu.qeN (ai @Pu.qia @Pu.qib))) (ai (ai @Pu.qjr (ai @Pu.qhU @Pu.qhV)) (ai @Pu.qhz (ai @Pu.qjW @Pu.qjm)))) (ai (ai (ai @Pu.qh3 (ai @Pu.qkM @Pu.qkE)) (ai @Pu.qjJ (ai @Pu.qjz @Pu.qiu))) (ai (ai @Pu.qkN (ai @Pu.qhY @Pu.qk2)) (ai @Pu.qjK (ai @Pu.qhL @Pu.qld))))))))
end Pu
namespace Bk
open PySem L2 L3
end Bk
namespace Pu
open PySem L2 L3
open Bk (Wk)
end Pu
namespace Pu
open PySem L2 L3
open Bk (Lf Ext Dl Wk Dr)
def T7 {H:Gp} {xs:List T} {d:PyData} {ds:List PyData} (h:Dqs H xs (d::ds)):∃ x r,xs=x::r/\Dq H x d/\Dqs H r ds:=by
 cases h with
 |cons a b=>exact ⟨_,_,rfl,a,b⟩
def MD {H:Gp} {xs:List T} (h:Dqs H xs []):xs=[]:=by cases h;rfl
def qpQ {H:Gp} {x:T} {i:Int} (h:Dq H x (.int i)):x=.int i:=by cases h;rfl
def qpG {H:Gp} {x:T} {i:Str} (h:Dq H x (.str i)):x=.str i:=by cases h;rfl
def qdp {H:Gp} {x:T} {ds:List PyData} (h:Dq H x (.tuple ds)):∃ xs,x=.tup xs/\Dqs H xs ds:=by
 cases h with
 |tup a=>exact ⟨_,rfl,a⟩
def U1 {H:Gp} {xs:List T} {i:Int} {ds:List PyData} (h:Dqs H xs (.int i::ds)):∃ r,xs=.int i::r/\Dqs H r ds:=by
 obtain ⟨x,r,rfl,a,b⟩:=T7 h;exact ⟨r,by rw [qpQ a],b⟩
def qa1 {H:Gp} {xs:List T} {i:Str} {ds:List PyData} (h:Dqs H xs (.str i::ds)):∃ r,xs=.str i::r/\Dqs H r ds:=by
 obtain ⟨x,r,rfl,a,b⟩:=T7 h;exact ⟨r,by rw [qpG a],b⟩
def qgw {H:Gp}:∀ (cs:List (List Int)) {xs:List T},Dqs H xs (cs.map Pv.qgK)->xs=cs.map Bk.qbi:=by
 intro cs;induction cs with
 |nil=>intro xs h;exact MD h
 |cons r cs ih=>
  intro xs h;obtain ⟨x,t,rfl,a,b⟩:=T7 h;obtain ⟨ys,rfl,a1⟩:=qdp a;rw [ih b,Dqs.ints a1];rfl
def qi3 {H:Gp} (d:Dl):∀ {x:T},Dq H x (Pv.dlD d)->x=d.t:=by
 induction d with
 |skew r c b x y=>
  intro z h0;obtain ⟨_,rfl,h1⟩:=qdp h0;obtain ⟨_,rfl,h2⟩:=qa1 h1;obtain ⟨_,rfl,h3⟩:=U1 h2;obtain ⟨_,rfl,h4⟩:=U1 h3;obtain ⟨_,rfl,h5⟩:=U1 h4;obtain ⟨_,rfl,h6⟩:=U1 h5;obtain ⟨_,rfl,h7⟩:=U1 h6;rw [MD h7];rfl
 |rests r c b p=>
  intro z h0;obtain ⟨_,rfl,h1⟩:=qdp h0;obtain ⟨_,rfl,h2⟩:=qa1 h1;obtain ⟨_,rfl,h3⟩:=U1 h2;obtain ⟨_,rfl,h4⟩:=U1 h3;obtain ⟨_,rfl,h5⟩:=U1 h4;obtain ⟨_,rfl,h6⟩:=U1 h5;rw [MD h6];rfl
 |bits hh l ms=>
  intro z h0;obtain ⟨_,rfl,h1⟩:=qdp h0;obtain ⟨_,rfl,h2⟩:=qa1 h1;obtain ⟨_,rfl,h3⟩:=U1 h2;obtain ⟨_,rfl,h4⟩:=U1 h3;obtain ⟨_,_,rfl,a0,h5⟩:=T7 h4;obtain ⟨_,rfl,a1⟩:=qdp a0;rw [MD h5,Dqs.ints a1];rfl
 |table b cells=>
  intro z h0;obtain ⟨_,rfl,h1⟩:=qdp h0;obtain ⟨_,rfl,h2⟩:=qa1 h1;obtain ⟨_,rfl,h3⟩:=U1 h2;obtain ⟨_,_,rfl,a0,h4⟩:=T7 h3;obtain ⟨_,rfl,a1⟩:=qdp a0;rw [MD h4,qgw cells a1];rfl
 |joined d e ih1 ih2=>
  intro z h0;obtain ⟨_,rfl,h1⟩:=qdp h0;obtain ⟨_,rfl,h2⟩:=qa1 h1;obtain ⟨_,_,rfl,a0,h3⟩:=T7 h2;obtain ⟨_,_,rfl,b0,h4⟩:=T7 h3;rw [MD h4,ih1 a0,ih2 b0];rfl
def qaC:∀ (a b:Int),PyData.int a=PyData.int b->a=b:=λ_ _ h=>by injection h
def qgi:∀ (a b:List Int),Pv.qgK a=Pv.qgK b->a=b:=λa b h=>by
 unfold Pv.qgK at h;injection h with h;exact (List.map_inj_right qaC).mp h
def NX:∀ (d e:Dl),Pv.dlD d=Pv.dlD e->d=e
 |.skew ..,.skew ..,h=>by simp [Pv.dlD] at h;simp [h]
 |.rests ..,.rests ..,h=>by simp [Pv.dlD] at h;simp [h]
 |.bits _ _ ms,.bits _ _ ns,h=>by
  simp only [Pv.dlD,PyData.tuple.injEq,List.cons.injEq,PyData.int.injEq,and_true,true_and,Int.natCast_inj] at h;have:=(List.map_inj_right qaC).mp h.2.2;simp [h.1,h.2.1,this]
 |.table _ cs,.table _ es,h=>by
  simp only [Pv.dlD,PyData.tuple.injEq,List.cons.injEq,PyData.int.injEq,and_true,true_and] at h;have:=(List.map_inj_right qgi).mp h.2;simp [h.1,this]
 |.joined d e,.joined d' e',h=>by
  simp only [Pv.dlD,PyData.tuple.injEq,List.cons.injEq,and_true,true_and] at h;rw [NX d d' h.1,NX e e' h.2]
 |.skew ..,.rests ..,h=>by simp [Pv.dlD] at h
 |.skew ..,.bits ..,h=>by simp [Pv.dlD] at h
 |.skew ..,.table ..,h=>by simp [Pv.dlD] at h
 |.skew ..,.joined ..,h=>by simp [Pv.dlD] at h
 |.rests ..,.skew ..,h=>by simp [Pv.dlD] at h
 |.rests ..,.bits ..,h=>by simp [Pv.dlD] at h
 |.rests ..,.table ..,h=>by simp [Pv.dlD] at h
 |.rests ..,.joined ..,h=>by simp [Pv.dlD] at h
 |.bits ..,.skew ..,h=>by simp [Pv.dlD] at h
 |.bits ..,.rests ..,h=>by simp [Pv.dlD] at h
 |.bits ..,.table ..,h=>by simp [Pv.dlD] at h
 |.bits ..,.joined ..,h=>by simp [Pv.dlD] at h
 |.table ..,.skew ..,h=>by simp [Pv.dlD] at h
 |.table ..,.rests ..,h=>by simp [Pv.dlD] at h
 |.table ..,.bits ..,h=>by simp [Pv.dlD] at h
 |.table ..,.joined ..,h=>by simp only [Pv.dlD,PyData.tuple.injEq,List.cons.injEq,PyData.str.injEq] at h;exact absurd h.1 (by decide)
 |.joined ..,.skew ..,h=>by simp [Pv.dlD] at h
 |.joined ..,.rests ..,h=>by simp [Pv.dlD] at h
 |.joined ..,.bits ..,h=>by simp [Pv.dlD] at h
 |.joined ..,.table ..,h=>by simp only [Pv.dlD,PyData.tuple.injEq,List.cons.injEq,PyData.str.injEq] at h;exact absurd h.1 (by decide)
def the (S:PyData->Prop):Option PyData:=@dite _ (∃ v,S v) (Classical.propDecidable _) (λh=>some (Classical.choose h)) λ_=>none
def LH {S:PyData->Prop} {v:PyData} (h:the S=some v):S v:=by
 unfold the at h;split at h
 ·rename_i e;cases h;exact Classical.choose_spec e
 ·cases h
def qka {S:PyData->Prop} {v:PyData} (h:S v) (u:∀ w,S w->w=v):the S=some v:=by
 unfold the;rw [dif_pos ⟨v,h⟩];exact congrArg some (u _ (Classical.choose_spec (⟨v,h⟩:∃ v,S v)))
def siz (d:Dl):PyData:=.tuple [.int d.R,.int d.C,.int d.B]
def qeD (G:Gp) (d:Dl):Dq G (Bk.CZ d) (siz d):=.tup (.cons (.int _) (.cons (.int _) (.cons (.int _) .nil)))
def SzR (n:Nat) (ds:List PyData) (v:PyData):Prop:=∃ d:Dl,ds=[Pv.dlD d]/\d.dep<=n/\d.Ok/\v=siz d
def fSz (n:Nat):FnD (Bk.Q2 (n+1)):=⟨λds=>the (SzR n ds),false,λ{D G xs ds v q} hx hd hf k=>by
 obtain ⟨d,rfl,h1,h2,rfl⟩:=LH hf;cases hx with
 |cons a b=>
  cases b;have:=qi3 d a;subst this;exact ⟨d,rfl,h1,h2,k _ _ Ex.refl (qeD _ d) (λz=>by cases z)⟩⟩
def qo8 (n:Nat):FnD (Bk.j4 (n+1)):=⟨λds=>the (SzR n ds),false,λ{D G xs ds v q} hx hd hf k=>by
 obtain ⟨d,rfl,h1,h2,rfl⟩:=LH hf;cases hx with
 |cons a b=>
  cases b;have:=qi3 d a;subst this;exact ⟨d,rfl,h1,h2,λG' E=>k _ _ E (qeD _ d) (λz=>by cases z)⟩⟩
def qlK {n:Nat} {d:Dl} (h1:d.dep<=n) (h2:d.Ok):the (SzR n [Pv.dlD d])=some (siz d):=qka ⟨d,rfl,h1,h2,rfl⟩ λw ⟨e,a,_,_,b⟩=>by
 injection a with a;rw [b,NX d e a]
def qbz {n:Nat}:(fSz n).f=λds=>the (SzR n ds):=id rfl
def qhN {n:Nat}:(qo8 n).f=λds=>the (SzR n ds):=id rfl
end Pu
namespace Pu
open PySem L2 L3
def qj3 {xs:List PyData} {j:Nat} (h1:1<=j) (h2:j<=xs.length):L2.atI xs (-(j:Int))=xs[xs.length-j]?:=by
 have e:ixN xs.length (-(j:Int))=some (xs.length-j):=by
  unfold ixN;rw [if_neg (by omega),if_pos (by omega)];congr 1;omega
 unfold L2.atI;rw [e];rfl
def nxM (M:Rho->Nat->Prop):QO:=λo m=>match o with|.nx ρ'=>M ρ' m|_=>False
def qc2 {M:Rho->Nat->Prop} {ρ:Rho} {n:Nat}:nxM M (.nx ρ) n=M ρ n:=id rfl
def qat {l:Nat} {t u:TS3} {x:PwS l t} {y:PwS l u} {ρ:Rho} {n:Nat} {Q:QO} (M:Rho->Nat->Prop) (h1:x.w ρ n (nxM M)) (h2:∀ ρ' m,M ρ' m->y.w ρ' m Q):(SS x y).w ρ n Q:=by
 rw [qbb];refine x.mono h1 λo m h=>?_;cases o with
 |nx ρ'=>exact h2 _ _ h
 |_=>exact h.elim
def KB {a m:Int} {n:Nat} (h:m∈QU a n):a<=m/\m<a+n:=by
 unfold QU at h;obtain ⟨i,hi,rfl⟩:=mem_map.mp h;have:=mem_range.mp hi;omega
def qa7 {xs ys:List PyData} (h:xs.length+ys.length<=16777216):qfn (.list xs) (.list ys)=some (.list (xs++ys)):=zA (by rw [sizeLine_eq];exact h)
open Bk (Lf Ext)
end Pu
namespace Pu
open PySem L2 L3
section
variable {D:Addr->Prop} {G0 G G':Gp} {A A':Nat->Option Addr} {τ:St3} {ρ:Rho}
end
end Pu
namespace Pv
open PySem L2 L3 Pu
open Bk (Wk jF ji VW lnD lnA)
def qbZ {lo:Int} {n i:Nat} {x:Int} (h:(QU lo n)[i]?=some x):i<n/\x=lo+i:=by
 unfold QU at h;rw [getElem?_map] at h;obtain ⟨k,e1,e2⟩:=Option.map_eq_some_iff.mp h;obtain ⟨hl,hk⟩:=List.getElem?_eq_some_iff.mp e1;simp at hl hk;subst hk;exact ⟨hl,e2.symm⟩
def VF (lo:Int) (n:Nat):(QU lo n).length=n:=by simp [QU]
def EL {d a:Int} {m:Nat} (hd:-1000<=d/\d<=1000) (ha:-1000<=a/\a<=1000) (hm:m<=10000):zD [.int d,.int a,.int m]=some (.list ((jF d a m).map pD)):=by
 rw [qaP]
 try simp only [Pu.pwA,EB]
 rw [QV (ds:=(QU 0 m).map PyData.int) (fs:=(jF d a m).map pD)]
 ·try simp only [Pu.pwA]
 ·try simp (disch:=omega) only [Pu.pwA,qbl,Int.toNat_natCast]
 ·have:jF d a m=(QU 0 m).map λi=>(i*d,i*a):=by simp [jF,QU,map_map,Function.comp_def]
  rw [this,map_map];refine jd λi hi=>?_
  try simp (disch:=omega) only [Pu.pwA,Y6,qiE,Function.comp_def,pD]
 ·simp [jF];omega
def Big:Wk->Prop
 |.line k m=>k<4/\m<=1000
 |.block h w=>h<=1000/\w<=1000
 |.step d a m=>(-1000<=d/\d<=1000)/\(-1000<=a/\a<=1000)/\m<=1000
 |.cells ps=>ps.length<=1000
def W4 {w:Wk} (ok:Big w):zO [Wk.d w]=some (.list (w.pc.map pD)):=by
 cases w with
 |cells ps=>
  rw [ZS]
  try simp only [Pu.pwA,jl,Wk.d,eq_self,Wk.pc]
 |block h v=>
  obtain ⟨h1,h2⟩:=ok;rw [ZS]
  try simp only [Pu.pwA,jl,Wk.d,eq_self,L3.YD,Wk.pc]
  rw [qfp (ds:=(QU 0 h).map PyData.int) (fs:=(ji h v).map pD)]
  ·try simp only [Pu.pwA]
  ·try simp (disch:=omega) only [Pu.pwA,qbl,Int.toNat_natCast]
  ·have:(ji h v).map pD=(QU 0 h).flatMap λp=>(QU 0 v).map λq=>pD (p,q):=by
    simp only [ji,QU,List.map_flatMap,map_map,List.flatMap_map,Function.comp_def,Int.zero_add]
   rw [this];refine qbI λp hp=>?_
   try simp (disch:=omega) only [Pu.pwA,qlz,qbl,Int.toNat_natCast]
   rw [jd (k:=λq=>pD (p,q)) λq hq=>?_]
   ·try simp only [Pu.pwA]
   ·try simp only [Pu.pwA,Y6,pD]
  ·have:=Nat.mul_le_mul h1 h2;rw [length_map,Bk.VL];omega
 |step d a m=>
  obtain ⟨h1,h2,h3⟩:=ok;rw [ZS]
  try simp only [Pu.pwA,jl,Wk.d,eq_self,L3.VY,L3.VS,Wk.pc,EL h1 h2 (show m<=10000 by omega)]
 |line k m=>
  obtain ⟨h1,h2⟩:=ok;have key:∀ (s:Str) (d a:Int),¬ s=Str.ofString "cells" -> ¬ s=Str.ofString "block" -> ¬ s=Str.ofString "step" -> (-1000<=d/\d<=1000)->(-1000<=a/\a<=1000)->(jj VB s).bind tD=some (.tuple [.int d,.int a])->zO [.tuple [.str s,.int (m:Int)]]=some (.list ((jF d a m).map pD)):=by
   intro s d a n1 n2 n3 hd ha e;rw [ZS]
   try simp only [Pu.pwA,jl,n1,n2,n3,e,EL (d:=d) (a:=a) (m:=m) hd ha (by omega)]
  have:(k=0\/k=1\/k=2\/k=3):=by omega
  rcases this with rfl|rfl|rfl|rfl
  ·exact key "row" 0 1 L3.SE L3.RG L3.TW (by decide) (by decide) rfl
  ·exact key "column" 1 0 L3.DF L3.ED L3.WD (by decide) (by decide) rfl
  ·exact key "slant" 1 1 L3.WB L3.WE L3.X7 (by decide) (by decide) rfl
  ·exact key "back" 1 (-1) L3.XG L3.CK L3.SI (by decide) (by decide) rfl
end Pv
namespace Pv
open PySem L2 L3 Pu
open Bk (Wk Dl jF ji VW lnD lnA)
def qeC {w:Wk} (ok:w.Ok):Big w:=by
 cases w with
 |line k m=>obtain ⟨h1,h2,h3⟩:=ok;exact ⟨h1,by omega⟩
 |block h v=>obtain ⟨h1,h2,h3,h4,h5⟩:=ok;exact ⟨by omega,by omega⟩
 |step d a m=>obtain ⟨h1,h2,h3,h4⟩:=ok;exact ⟨by omega,by omega,by omega⟩
 |cells ps=>have h:=ok.2.1;show ps.length<=1000;omega
def qa8 {w:Wk} (ok:Big w):w.pc.length<=1000000:=by
 cases w with
 |line k m=>simp only [Wk.pc,jF,length_map,length_range];have:=ok.2;omega
 |block h v=>simp only [Wk.pc,Bk.VL];exact Nat.mul_le_mul ok.1 ok.2
 |step d a m=>simp only [Wk.pc,jF,length_map,length_range];have:=ok.2.2;omega
 |cells ps=>have:ps.length<=1000:=ok;simp only [Wk.pc];omega
def dn (cs:List (Int×Int)):List Int:=cs.map λp=>p.1
def al (cs:List (Int×Int)):List Int:=cs.map λp=>p.2
def stI (R C:Int) (cs:List (Int×Int)):List (Int×Int):=(QU (-(mn (dn cs))) (R-mx (dn cs) - -(mn (dn cs))).toNat).flatMap λi=>(QU (-(mn (al cs))) (C-mx (al cs) - -(mn (al cs))).toNat).map λj=>(i,j)
def KG {α β:Type} (xs:List α) (ys:List β) {γ:Type} (f:α->β->γ):(xs.flatMap λa=>ys.map λb=>f a b).length=xs.length*ys.length:=by
 induction xs with
 |nil=>simp
 |cons a r ih=>simp only [List.flatMap_cons,length_append,length_map,ih,length_cons,Nat.succ_mul];omega
structure Cb (cs:List (Int×Int)):Prop where
 ne:cs≠[]
 b:∀ p∈cs,(-1000000<=p.1/\p.1<=1000000)/\(-1000000<=p.2/\p.2<=1000000)
def Cb.lim {cs:List (Int×Int)} (h:Cb cs):(-1000000<=mn (dn cs)/\mn (dn cs)<=mx (dn cs)/\mx (dn cs)<=1000000)/\(-1000000<=mn (al cs)/\mn (al cs)<=mx (al cs)/\mx (al cs)<=1000000):=by
 have n1:dn cs≠[]:=by simp [dn,h.ne]
 have n2:al cs≠[]:=by simp [al,h.ne]
 have m1:=WK n1;have m2:=W2 n1;have m3:=WK n2;have m4:=W2 n2;have l1:=LV m2;have l2:=LV m4;have b1:∀ x∈dn cs,-1000000<=x/\x<=1000000:=λx hx=>by
  obtain ⟨p,hp,rfl⟩:=mem_map.mp hx;exact (h.b p hp).1
 have b2:∀ x∈al cs,-1000000<=x/\x<=1000000:=λx hx=>by
  obtain ⟨p,hp,rfl⟩:=mem_map.mp hx;exact (h.b p hp).2
 have:=b1 _ m1;have:=b1 _ m2;have:=b2 _ m3;have:=b2 _ m4;omega
def qfa {R C:Int} {cs:List (Int×Int)} (h:Cb cs) (hR:R<=4096) (hC:C<=4096):(stI R C cs).length<=16777216:=by
 obtain ⟨⟨h1,h2,h3⟩,⟨h4,h5,h6⟩⟩:=h.lim;unfold stI;rw [KG,VF,VF];have a:(R-mx (dn cs) - -(mn (dn cs))).toNat<=4096:=by omega
 have b:(C-mx (al cs) - -(mn (al cs))).toNat<=4096:=by omega
 exact Nat.le_trans (Nat.mul_le_mul a b) (by decide)
end Pv
namespace Pv
open PySem L2 L3 Pu
open Bk (pop qmr VQ EA Dl)
end Pv
namespace Hd
open PySem L2 L3 PySem.W
def inC:Stmt->Stmt
 |.ClassDef _ _ _ (b::_) _ _ _ _ _ _ _=>b
 |s=>s
def oF (x:Str) (st:Stmt) (pm cd:Value):Obj:=⟨.type "function",none,.func (PySem.W.fnOf x x (jm st) (zi st) (qi st) .none .none .none pm none cd .none),#[]⟩
def oG (x:Str) (st:Stmt):Obj:=⟨.none,none,.func { name:=x,qualname:=x,params:=jm st,body:=.stmts (zi st),scope:=qi st,globals:=0,closure:=[],defaults:=.none,kwdefaults:=.none },#[]⟩
def oC (vs:List Value):Obj:=⟨.type "code",none,.fields vs.toArray,#[]⟩
def oT (vs:List Value):Obj:=⟨.type "tuple",none,.seq vs.toArray 0,#[]⟩
def eD (P:Params):Value×Value->DictEntry
 | (.str x t,v)=>⟨PyData.keyHash P x,.str x t,v⟩
 | (u,v)=>⟨0,u,v⟩
def oD (P:Params) (n:Nat) (es:List (Value×Value)):Obj:=⟨.type "dict",none,.dict (es.map (eD P)).toArray n,#[]⟩
def oK (x:Str) (t l n m:Nat) (a b:Addr) (u v z:Value) (e y q:Nat):Obj:=oC [.str x t,.str x (t+1),.str "/claim/cut.py" (t+2),.int l 0,.int n 0,.int 0 0,.int 0 0,.int 3 0,.ref a,.bool true,.int m 0,.ref b,u,v,z,.ref e,.int y 0,.int l 0,.str "/claim/cut.py" q]
def nmV:List Str->Nat->List Value
 |[],_=>[]
 |x::r,t=>.str x t::nmV r (t+1)
def oN (xs:List Str) (t:Nat):Obj:=oT (nmV xs t)
abbrev nd (o:Obj) (l r:PySem.W.BT):PySem.W.BT:=.node o l r
abbrev lf (o:Obj):PySem.W.BT:=.node o .nil .nil
def je {K:Frg} (x:Str) (st:Stmt) (f:Addr) (pm cd:Value) (l:K.lookup f=some (oF x st pm cd)) (c:PySem.W.codeIn K cd x=true) (k:PySem.W.keepIn K (.ref f)=true) :
  Fun K x x st f (PySem.W.fnOf x x (jm st) (zi st) (qi st) .none .none .none pm none cd .none):=qiU l c k
def zh {K:Frg} {h:Heap} {mg:Str->Option Value} (X:K.In h) (G:h.Ns mainGlobals mg) (n:Str) (v:Value) (e:PySem.W.nsIn K mainGlobals n=some (some v)):mg n=some v:=PySem.W.mg_of X G e
def Y9 {K:Frg} {h:Heap} {mg:Str->Option Value} (X:K.In h) (G:h.Ns mainGlobals mg) (n:Str) (e:PySem.W.nsIn K mainGlobals n=some none):mg n=none:=PySem.W.mg_none_of X G e
def head {l:OpenLaw} {q:Program} {loose:List Str} {K:Params->Frag} {as:List Addr} {d:DefRec} {N:Nat} {k:Nat} {x:Str} (ha:∀ P,as=(K P).map (·.1))
  (ok:l.wellSaid=true)
  (left:LeftO l.prog q loose (λs=>xlAt q [] s&&recOk [] s) (λs=>as.map s.heap.get?) (λw=>(K w.params).map λp=>some p.2) N)
  (hdef:defOf q l.name=some (d,[])) (hp:l.prog.theDef l.name=some (d.params,d.body,d.scope)) (hk:kwWritten? d.params.kwonlyargs d.params.kw_defaults=some [])
  (hwr:(!l.row.writes||l.row.records.isEmpty)=true) (ok2:(chainsOk q&&opensWell l.prog&&(frees l.row.toRowW&&l.row.within.isEmpty))=true) (hb:l.prog.bare) (hw:l.row.toRowW.promised)
  (hn:l.most=some 63) (hdf:d.params.defaults=[]) (hr:Room k callerA) (hK:∀ w:World,V6 (K w.params)=true)
  (F:∀ (w:World) (mg:Str->Option Value) (fa:Addr) (h:Heap),(K w.params).In h->h.Ns mainGlobals mg->mg d.name=some (.ref fa) ->
   ∃ fd:FuncData,(∀ (s:Shared) (u:Value),BindsTo s fd ⟨[u],[]⟩ [(x,u)])/\∀ base:Heap,(K w.params).In base->base.Ns mainGlobals mg->FnOk l.prog w (K w.params) mg base CX0 k fa fd [x] (lSp (K w.params) WY)):l.Holds:=by
 refine holds_law ok λsaid=>?_;exact holds_open (q:=q) (loose:=loose) (Xt:=λs=>xlAt q [] s&&recOk [] s) (XP:=XL q []) (Yf:=Hook.obs (kHook K as ha)) (Ya:=Hook.val (kHook K as ha)) (YP:=Hook.says (kHook K as ha)) (N:=N) left
  (Hook.of (kHook K as ha)) (Hook.keeps (kHook K as ha)) (λs e=>xl_of s (Bool.and_eq_true_iff.mp e).1) XL.keeps hdef hp hk (λs e=>recFacts_of (Bool.and_eq_true_iff.mp e).2) hwr said ok2 hb hw
  (L3.qm1 (l:=l) (k:=k) (x:=x) hn hdf hr (λw h Y=>kIn_of Y) hK F)
end Hd
namespace L3
open PySem PySem.Spec PyProof.Rows L2
def qfC:bootBuiltins "ValueError" = some (.type "ValueError"):=by first|kernel_rfl|decide +kernel
def XD.nil {K:Frg} {cs:List Value}:XD K cs []:=λ_ z=>nomatch z
def XD.cons {K:Frg} {cs:List Value} {o:Option Addr} {b:Bool} {D:List (Option Addr×Bool)} (h1:∀ C,o=some C->ExK K C) (h2:PySem.W.kitAny K (tyv o) cs=some b) (h:XD K cs D):XD K cs ((o,b)::D):=λp hp=>by
 rcases mem_cons.mp hp with rfl|hp
 ·exact ⟨h1,h2⟩
 ·exact h p hp
end L3
namespace Hd
open PySem PySem.Spec PyProof.Rows L2 L3 PySem.W
def oX (nm:Str) (C N:Addr) (bs bm sub:List Value) (tb:Addr) (t1 t2:Nat) (nw:String):Obj:=excClassObj nm nm C N bs bm true [] sub false none none (some (.ref tb)) none (some (.str nm t1)) (some (.str nm t2)) (some (.bool true)) nw
def qiH (K:Frag) (C:Addr) (mro:List Value):Bool:=match K.lookup C with
 |some ⟨.type "type",_,.cls cd,sl⟩=>cd.mro==mro&&!cd.hasDel&&match mro,sl.toList with|.ref C'::_,[_,_,_,_,some (.builtin _),_]=>C'==C|_,_=>false
 |_=>false
def qic {K:Frag} {h:Heap} {C:Addr} {mro:List Value} (X:K.In h) (q:qiH K C mro=true):ExC h C mro:=by
 unfold qiH at q;split at q
 ·rename_i dd cd sl ho;simp only [Bool.and_eq_true,beq_iff_eq,Bool.not_eq_true'] at q;obtain ⟨⟨h1,h2⟩,h3⟩:=q;split at h3
  ·rename_i C' bm k0 k1 k2 k3 n k5 hs;obtain ⟨nm,bs,mro,ns,qn,hd,sn,sub,ab,col,del⟩:=cd;dsimp only at h1 h2;subst h2;have e3:C'=C:=beq_iff_eq.mp h3;subst e3;subst h1;have hsl:sl=#[k0,k1,k2,k3,some (.builtin n),k5]:=by
    obtain ⟨l⟩:=sl;exact congrArg Array.mk hs
   subst hsl;exact ⟨nm,qn,ns,bs,bm,hd,sn,sub,ab,col,dd,k0,k1,k2,k3,k5,n,X _ _ ho,rfl⟩
  ·cases h3
 ·cases q
def qgk {base:Heap} {B C:Addr} {mro:List Value} {cs:List Addr} (h1:ExC base C mro) (h2:mro.contains (.ref B)=true) (h:∀ C∈cs,Ct base B C):∀ D∈C::cs,Ct base B D:=λD hD=>by
 rcases mem_cons.mp hD with rfl|hD
 ·exact ⟨mro,h1,h2⟩
 ·exact h D hD
def qoz {K:Frag} {h:Heap} {mg:Str->Option Value} {x:Str} {C N tb:Addr} {nm:Str} {bs bm sub:List Value} {t1 t2:Nat} (X:K.In h) (hb:mg x=some (.ref C)) (l:K.lookup C=some (oX nm C N bs bm sub tb t1 t2 "ValueError.__new__"))
  (t:tailIn K [.type "ValueError",.type "Exception",.type "BaseException",.type "object"] bm=true) (n:nsOkIn K N=true) (i:nsIn K N "__init__" = some none):RaX mg h x C:=
 ⟨⟨hb,bm,N,nm,nm,bs,true,[],sub,false,none,none,_,_,_,_,_,_,X _ _ l,.of_isNs (isNs_of_in X n),nsMap_none_of_in X n i,tail_of_in X t⟩⟩
end Hd
namespace Pu
open PySem L2 L3
structure PzS (t:X3->TS3) where
 f:Nat->Rho->Option (Addr ⊕ Ot)
 okx:∀ {D G0 A τ ρ G n C} {dx:X3} {e:Ends3},RS D G0 A τ ρ G->f n ρ=some (.inl C)->(∀ G',Ex G0 G'->dx C G')->t dx e τ G
 okn:∀ {D G0 A τ ρ G n o} {dx:X3} {e:Ends3},RS D G0 A τ ρ G->f n ρ=some (.inr o)->qgP D G0 e o->t dx e τ G
def zP {t:TS3} (a:PuS t):PzS (λ_=>t) where
 f:=λn ρ=>(a.f n ρ).map .inr
 okx:=λh hf k=>by
  obtain ⟨o,e1,e2⟩:=Option.map_eq_some_iff.mp hf;cases e2
 okn:=λh hf k=>by
  obtain ⟨o,e1,e2⟩:=Option.map_eq_some_iff.mp hf;cases e2;exact a.ok h e1 k
def qpz:PzS (λ_=>WL) where
 f:=λ_ _=>none
 okx:=λh hf k=>by cases hf
 okn:=λh hf k=>by cases hf
def qdE {t:TA3} (C:Addr) (a:PuA t) (hn:Tru (Nat.ble a.n 1000)):PzS (λdx=>K7 C dx t) where
 f:=λ_ ρ=>(a.f ρ).map λ_=>.inl C
 okx:=λh hf k=>by
  obtain ⟨d,e1,e2⟩:=Option.map_eq_some_iff.mp hf;cases e2;exact a.ok (h.viewAll _) h.domD e1 λxs G' E Q=>⟨by rw [Q.length,a.ln e1];exact few hn,k G' (h.ex.trans E)⟩
 okn:=λh hf k=>by
  obtain ⟨d,e1,e2⟩:=Option.map_eq_some_iff.mp hf;cases e2
def zIf {c:TT3} {t u:X3->TS3} (pc:PuC c) (a:PzS t) (b:PzS u):PzS (λdx=>qY c (t dx) (u dx)) where
 f:=λn ρ=>(pc.f ρ).bind λk=>if k then a.f n ρ else b.f n ρ
 okx:=λh hf k=>by
  obtain ⟨o1,e1,hf⟩:=obb hf;refine pc.ok (h.viewAll _) h.domD e1 λG1 E1=>?_;cases o1 with
  |true=>exact a.okx (h.up E1) hf k
  |false=>exact b.okx (h.up E1) hf k
 okn:=λh hf k=>by
  obtain ⟨o1,e1,hf⟩:=obb hf;refine pc.ok (h.viewAll _) h.domD e1 λG1 E1=>?_;cases o1 with
  |true=>exact a.okn (h.up E1) hf k
  |false=>exact b.okn (h.up E1) hf k
def qgz (a b:Nat->Rho->Option (Addr ⊕ Ot)) (n:Nat) (ρ:Rho):Option (Addr ⊕ Ot):=(a n ρ).bind λo=>match o with|.inl C=>some (.inl C)|.inr (.nx ρ')=>b n ρ'|.inr o=>some (.inr o)
def qph {t u:X3->TS3} (a:PzS t) (b:PzS u):PzS (λdx=>qv (t dx) (u dx)) where
 f:=qgz a.f b.f
 okx:=λ{D G0 A τ ρ G n C dx e} h hf k=>by
  unfold qgz at hf;obtain ⟨o1,e1,hf⟩:=obb hf;cases o1 with
  |inl C'=>cases hf;exact a.okx h e1 k
  |inr o=>
   refine a.okn h e1 ?_;cases o with
   |nx ρ'=>exact λA' τ' G' h'=>b.okx h' hf k
   |bk ρ'=>cases hf
   |ct ρ'=>cases hf
   |rt d fr=>cases hf
 okn:=λ{D G0 A τ ρ G n o dx e} h hf k=>by
  unfold qgz at hf;obtain ⟨o1,e1,hf⟩:=obb hf;cases o1 with
  |inl C'=>cases hf
  |inr o=>
   refine a.okn h e1 ?_;cases o with
   |nx ρ'=>exact λA' τ' G' h'=>b.okn h' hf k
   |bk ρ'=>cases hf;exact k
   |ct ρ'=>cases hf;exact k
   |rt d fr=>cases hf;exact k
def PXp (X:List PyData->Option Addr):Spx:=λts G dx=>∃ (D:Addr->Prop) (ds:List PyData) (C:Addr),Dqs (rs D G) ts ds/\Dom D G/\X ds=some C/\∀ G',Ex G G'->dx C G'
def qon:Option (Addr ⊕ Ot)->Option Addr
 |some (.inl C)=>some C
 |_=>none
def qnf (f:Nat->Rho->Option (Addr ⊕ Ot)) (k N n:Nat) (ds:List PyData):Option Addr:=if ds.length=k then qon (f n (st ds N)) else none
def qmA {D:Addr->Prop} {G:Gp} {ts:List T} {ds:List PyData} (N:List Str) (hs:Dqs (rs D G) ts ds) (hd:Dom D G):RS D G (λ_=>none) (qk N ts) (st ds N.length) G:=by
 refine ⟨Ex.refl,hd,(λi p e=>by cases e),(λi p e=>by cases e),(λi j p e=>by cases e),(by simp [st,qk,hs.length]),λi d' e=>?_,λi es e=>?_,λi es e=>?_⟩
 ·unfold st at e;unfold qk;by_cases hi:i<ds.length
  ·rw [List.getElem?_append_left (by simpa using hi),getElem?_map] at e;obtain ⟨d2,e3,e4⟩:=Option.map_eq_some_iff.mp e;cases e4;obtain ⟨x,e5,hx⟩:=hs.get e3;refine ⟨x,?_,hx.up (zB λb z=>?_)⟩
   ·rw [List.getElem?_append_left (by simp [hs.length];exact hi),getElem?_map,e5];rfl
   ·rcases z with z|⟨i,z⟩
    ·exact z
    ·cases z
  ·rw [List.getElem?_append_right (by simpa using hi),List.getElem?_replicate] at e;split at e<;>cases e
 ·unfold st at e;by_cases hi:i<ds.length
  ·rw [List.getElem?_append_left (by simpa using hi),getElem?_map] at e;obtain ⟨d2,e3,e4⟩:=Option.map_eq_some_iff.mp e;cases e4
  ·rw [List.getElem?_append_right (by simpa using hi),List.getElem?_replicate] at e;split at e<;>cases e
 ·unfold st at e;by_cases hi:i<ds.length
  ·rw [List.getElem?_append_left (by simpa using hi),getElem?_map] at e;obtain ⟨d2,e3,e4⟩:=Option.map_eq_some_iff.mp e;cases e4
  ·rw [List.getElem?_append_right (by simpa using hi),List.getElem?_replicate] at e;split at e<;>cases e
def qe0 {t:X3->TS3} (b:PzS t) (N:List Str) (k n:Nat):∀ ts G dx,PXp (qnf b.f k N.length n) ts G dx->ts.length=k/\t dx { nx:=λ_ _=>False,rt:=λ_ _=>False } (qk N ts) G:=by
 rintro ts G dx ⟨D,ds,C,hs,hd,hf,h⟩;unfold qnf at hf;split at hf
 ·rename_i hk;refine ⟨by rw [hs.length];exact hk,?_⟩;cases e:b.f n (st ds N.length) with
  |none=>rw [e] at hf;cases hf
  |some o=>
   cases o with
   |inl C'=>rw [e] at hf;cases hf;exact b.okx (qmA N hs hd) e h
   |inr o=>rw [e] at hf;cases hf
 ·cases hf
def qb9 {t:TA3} {C:Addr} {a:PuA t} {hn:Tru (Nat.ble a.n 1000)} {n:Nat} {ρ:Rho}:(qdE C a hn).f n ρ=(a.f ρ).map λ_=>.inl C:=id rfl
def qnx {c:TT3} {t u:X3->TS3} {pc:PuC c} {a:PzS t} {b:PzS u} {n:Nat} {ρ:Rho}:(zIf pc a b).f n ρ=(pc.f ρ).bind λk=>if k then a.f n ρ else b.f n ρ:=id rfl
def qjC {t u:X3->TS3} {a:PzS t} {b:PzS u} {n:Nat} {ρ:Rho}:(qph a b).f n ρ=(a.f n ρ).bind λo=>match o with|.inl C=>some (.inl C)|.inr (.nx ρ')=>b.f n ρ'|.inr o=>some (.inr o):=id rfl
def qlk {C:Addr}:qon (some (.inl C))=some C:=id rfl
def qoT {l:Nat} (i:Nat):PwS l (zZ (qgJ qgc (v3 i))):=⟨λρ n Q=>∃ ds,slot ρ i=some ds/\Q (.nx (ρ.set i (.ow []))) n,λ⟨ds,h1,h2⟩ k=>⟨ds,h1,k _ _ h2⟩,λ{a z0 D G0 A τ ρ G n e Q} h ⟨ds,h1,h2⟩ k=>by
 obtain ⟨p,xs,b,c,g,f⟩:=h.r.ow i _ (XR h1);simp only [zZ,qgJ,v3,c,qgc,zI g,g];refine ⟨rfl,?_⟩;have pa:p≠a:=by
  rintro rfl;have:=h.r.inj i l _ b h.al;subst this;have q:=XR h1;rw [h.ul] at q;cases q
 have il:i≠l:=by
  rintro rfl;have q:=XR h1;rw [h.ul] at q;cases q
 have r:=h.r.wr b c Dqs.nil;refine k _ _ h2 _ _ _ ⟨r,h.al,h.tl,?_,?_,h.tz⟩
 ·rw [getElem?_set,if_neg il];exact h.ul
 ·obtain ⟨o,c',m',e1,e2⟩:=h.lf;exact ⟨o,c',m',by rw [zS (Ne.symm pa)];exact e1,e2⟩⟩
def qj6 {l i:Nat}:(qoT (l:=l) i).w=λρ n Q=>∃ ds,slot ρ i=some ds/\Q (.nx (ρ.set i (.ow []))) n:=id rfl
end Pu
namespace K15
open PySem L2 L3 Bk
def top (i : Nat) : Stmt := PySem.Challenge.pw_bankwalk_k15_words_of_walks.main.body.getD i (.Pass ⟨0,0,0,0⟩)
variable {P:Program} {w:World} {K:Frg} {mg:Str->Option Value} {base:Heap} {f:Addr} {fd:FuncData} {k:Nat} {sp:Sp3}
abbrev jG:Stmt:=top 1
abbrev ZN:List Str:=["thing"]
abbrev YG:List Str:=["thing"]
def CW:FnScope ZN YG (qi jG):=⟨rfl,rfl,rfl,by decide +kernel,rfl,by decide +kernel,by decide +kernel⟩
def C5 (F:Fun K "is_number" "is_number" jG f fd) (bd:zm K fd YG []) (hm:mg "is_number" = some (.ref f))   (m_isinstance:mg "isinstance" = none) (m_bool:mg "bool" = none) (m_int:mg "int" = none)
  (read:Rd sp 1 (Bk.ZT) ZN):Fn3 P w K mg base (k+1) "is_number" sp:=
 qO (t3:=(Bk.ZT)) F CW bd hm (λcdv A outer s H E hr=>(qm (qr (JH (JN (qc 0) rfl m_isinstance rfl m_int PyProof.Rows.boot_int) (VG (qkI (JN (qc 0) rfl m_isinstance rfl m_bool PyProof.Rows.boot_bool))))))) read
abbrev Q5:Stmt:=top 2
abbrev Q4:List Str:=["thing"]
abbrev ET:List Str:=["thing"]
def LO:FnScope Q4 ET (qi Q5):=⟨rfl,rfl,rfl,by decide +kernel,rfl,by decide +kernel,by decide +kernel⟩
def MB {S_is_number:Sp3} (F:Fun K "is_pair" "is_pair" Q5 f fd) (bd:zm K fd ET []) (hm:mg "is_pair" = some (.ref f)) (qV:Fn3 P w K mg base k "is_number" S_is_number)  (m_len:mg "len" = none) (m_isinstance:mg "isinstance" = none) (m_tuple:mg "tuple" = none)
  (read:Rd sp 1 (Bk.VX S_is_number) Q4):Fn3 P w K mg base (k+1) "is_pair" sp:=
 qO (t3:=(Bk.VX S_is_number)) F LO bd hm (λcdv A outer s H E hr=>(qm (qr (JH (JN (qc 0) rfl m_isinstance rfl m_tuple PyProof.Rows.boot_tuple) (JH (YC (zv hr.units) qU (qW jp QQ rfl m_len PySem.boot_len (qa (qc 0) qe)) qd (qK _)) (JH (qh qV hr rfl (qa (qu (qc 0) qd) qe)) (VG (qh qV hr rfl (qa (qu (qc 0) qd) qe))))))))) read
abbrev Q1:Stmt:=top 15
abbrev DG:List Str:=["dealing","kind","rows","columns","banks","other_rows","other_columns","other_banks"]
abbrev EW:List Str:=["dealing"]
def zW:FnScope DG EW (qi Q1):=⟨rfl,rfl,rfl,by decide +kernel,rfl,by decide +kernel,by decide +kernel⟩
def V9 {S_size_of:Sp3} (F:Fun K "size_of" "size_of" Q1 f fd) (bd:zm K fd EW []) (hm:mg "size_of" = some (.ref f)) (F_size_of:Fn3 P w K mg base k "size_of" S_size_of)  (m_len:mg "len" = none)
  (read:Rd sp 1 (Bk.VU S_size_of) DG):Fn3 P w K mg base (k+1) "size_of" sp:=
 qO (t3:=(Bk.VU S_size_of)) F zW bd hm (λcdv A outer s H E hr=>(qf (qI 1 zW.nd (qu (qc 0) qd)) (qf (zw (qT (zv hr.units) qU (qc 1) qC (qK _)) (qm (qr (qo (qa (qaW qd (qu (qc 0) qd)) (qa (qaW qd (qu (qc 0) qd)) (qa (qaW qd (qW jp QQ rfl m_len PySem.boot_len (qa (qu (qc 0) qd) qe))) qe)))))) qN) (qf (zw (qT (zv hr.units) qU (qc 1) qC (qK _)) (qm (qr (qo (qa (qW jp QQ rfl m_len PySem.boot_len (qa (qu (qc 0) qd) qe)) (qa (qW jp QQ rfl m_len PySem.boot_len (qa (qu (qu (qc 0) qd) qd) qe)) (qa (qu (qc 0) qd) qe)))))) qN) (qf (zw (qT (zv hr.units) qU (qc 1) qC (qK _)) (qf (QI (qh F_size_of hr rfl (qa (qu (qc 0) qd) qe)) (jz rfl (qy (qw (i:=2) (zW.nd)) (qy (qw (i:=3) (zW.nd)) (qy (qw (i:=4) (zW.nd)) jB))))) (qf (QI (qh F_size_of hr rfl (qa (qu (qc 0) qd) qe)) (jz rfl (qy (qw (i:=5) (zW.nd)) (qy (qw (i:=6) (zW.nd)) (qy (qw (i:=7) (zW.nd)) jB))))) (qm (qr (qo (qa (zV (qc 2) (qc 5)) (qa (zV (qc 3) (qc 6)) (qa (zV (qc 4) (qc 7)) qe)))))))) qN) (qm (qr (qo (qa (qu (qc 0) qd) (qa (qu (qc 0) qd) (qa (qu (qc 0) qd) qe))))))))))) read
abbrev Q0:Stmt:=top 16
abbrev JC:List Str:=["dealing","thing","rows","columns","banks"]
abbrev DO:List Str:=["dealing","thing"]
def JQ:FnScope JC DO (qi Q0):=⟨rfl,rfl,rfl,by decide +kernel,rfl,by decide +kernel,by decide +kernel⟩
def MP {S_is_pair:Sp3} {S_size_of:Sp3} (F:Fun K "is_word" "is_word" Q0 f fd) (bd:zm K fd DO []) (hm:mg "is_word" = some (.ref f)) (qS:Fn3 P w K mg base k "is_pair" S_is_pair) (F_size_of:Fn3 P w K mg base k "size_of" S_size_of)  
  (read:Rd sp 2 (Bk.VM S_is_pair S_size_of) JC):Fn3 P w K mg base (k+1) "is_word" sp:=
 qO (t3:=(Bk.VM S_is_pair S_size_of)) F JQ bd hm (λcdv A outer s H E hr=>(qf (zw (DA (JF (qh qS hr rfl (qa (qc 1) qe)))) (qm (qr X6)) qN) (qf (QI (qh F_size_of hr rfl (qa (qc 0) qe)) (jz rfl (qy (qw (i:=2) (JQ.nd)) (qy (qw (i:=3) (JQ.nd)) (qy (qw (i:=4) (JQ.nd)) jB))))) (qm (qr (JH (LG qlR QF SX QF qd (qu (qc 1) qd) (qc 2)) (VG (LG qlR QF SX QF qd (qu (qc 1) qd) (qc 3))))))))) read
abbrev Z9:Stmt:=top 19
abbrev LA:List Str:=["down","along","many"]
abbrev XY:List Str:=["down","along","many"]
def N9:FnScope LA XY (qi Z9):=⟨rfl,rfl,rfl,by decide +kernel,rfl,by decide +kernel,by decide +kernel⟩
def qax (F:Fun K "strung" "strung" Z9 f fd) (bd:zm K fd XY []) (hm:mg "strung" = some (.ref f))   (m_range:mg "range" = none)
  (read:Rd sp 3 (Bk.U7) LA):Fn3 P w K mg base (k+1) "strung" sp:=
 qO (t3:=(Bk.U7)) F N9 bd hm (λcdv A outer s H E hr=>(qm (qr (J7 ["t","down","along"] [none,some 0,some 1] rfl (qQ rfl m_range (qa (qc 2) qe) (h1:=by intro _ _ _ h;simpa [qb,qg] using h)) (λ_ _ _=>(jgn 0)) (λ_ _ _=>zF) (λ_ _ _=>(qo (qa (zV (qc 0) (qc 1)) (qa (zV (qc 0) (qc 2)) qe)))) (by kernel_rfl) (by kernel_rfl))))) read
abbrev jW:Stmt:=top 20
abbrev W0:List Str:=["walk","kind","down","along"]
abbrev UH:List Str:=["walk"]
def ZL:FnScope W0 UH (qi jW):=⟨rfl,rfl,rfl,by decide +kernel,rfl,by decide +kernel,by decide +kernel⟩
def TD {S_strung:Sp3} (F:Fun K "cells_of" "cells_of" jW f fd) (bd:zm K fd UH []) (hm:mg "cells_of" = some (.ref f)) (zD:Fn3 P w K mg base k "strung" S_strung)  (m_list:mg "list" = none) (m_range:mg "range" = none) (m_STRIDES:Tb K mg w "STRIDES" VB)
  (read:Rd sp 1 (Bk.JS S_strung) W0):Fn3 P w K mg base (k+1) "cells_of" sp:=
 qO (t3:=(Bk.JS S_strung)) F ZL bd hm (λcdv A outer s H E hr=>(qf (qI 1 ZL.nd (qu (qc 0) qd)) (qf (zw (qT (zv hr.units) qU (qc 1) qC (qK _)) (qm (qr (qX JB XO rfl m_list PyProof.Rows.boot_list (qa (qu (qc 0) qd) qe)))) qN) (qf (zw (qT (zv hr.units) qU (qc 1) qC (qK _)) (qm (qr (qiY ["p","q","walk"] [none,none,some 0] rfl (qQ rfl m_range (qa (qu (qc 0) qd) qe) (h1:=by intro _ _ _ h;simpa [qb,qg] using h)) (λ_ _ _=>(jgn 0)) (λ_ _ _=>zF) (λ_ _ _=>(qQ rfl m_range (qa (qu (qc 2) qd) qe) (h1:=by intro _ _ _ h;simpa [qb,qg] using h))) (λ_ _ _=>(jgn 1)) (λ_ _ _=>zF) (λ_ _ _=>(qo (qa (qc 0) (qa (qc 1) qe)))) (by kernel_rfl) (by kernel_rfl)))) qN) (qf (zw (qT (zv hr.units) qU (qc 1) qC (qK _)) (qm (qr (qh zD hr rfl (qa (qu (qc 0) qd) (qa (qu (qc 0) qd) (qa (qu (qc 0) qd) qe)))))) qN) (qf (QI (qgx m_STRIDES rfl (qc 1) (λ_ _=>rfl)) (jz rfl (qy (qw (i:=2) (ZL.nd)) (qy (qw (i:=3) (ZL.nd)) jB)))) (qm (qr (qh zD hr rfl (qa (qc 2) (qa (qc 3) (qa (qu (qc 0) qd) qe)))))))))))) read
abbrev QR:Stmt:=top 21
abbrev VI:List Str:=["walk","start"]
abbrev DT:List Str:=["walk","start"]
def MA:FnScope VI DT (qi QR):=⟨rfl,rfl,rfl,by decide +kernel,rfl,by decide +kernel,by decide +kernel⟩
def L9 {S_cells_of:Sp3} (F:Fun K "shifted" "shifted" QR f fd) (bd:zm K fd DT []) (hm:mg "shifted" = some (.ref f)) (zO:Fn3 P w K mg base k "cells_of" S_cells_of)  
  (read:Rd sp 2 (Bk.VE S_cells_of) VI):Fn3 P w K mg base (k+1) "shifted" sp:=
 qO (t3:=(Bk.VE S_cells_of)) F MA bd hm (λcdv A outer s H E hr=>(qm (qr (J7 ["p","q","start"] [none,none,some 1] rfl (ZW (qh zO hr rfl (qa (qc 0) qe))) (λ_ _ _=>(jz rfl (qy (jgn 0) (qy (jgn 1) jB)))) (λ_ _ _=>zF) (λ_ _ _=>(qo (qa (qx (qu (qc 2) qd) (qc 0)) (qa (qx (qu (qc 2) qd) (qc 1)) qe)))) (by kernel_rfl) (by kernel_rfl))))) read
abbrev j7:Stmt:=top 22
abbrev JX:List Str:=["dealing","walk","thing"]
abbrev UB:List Str:=["dealing","walk","thing"]
def T5:FnScope JX UB (qi j7):=⟨rfl,rfl,rfl,by decide +kernel,rfl,by decide +kernel,by decide +kernel⟩
def S7 {S_shifted:Sp3} {S_is_word:Sp3} {S_is_pair:Sp3} (F:Fun K "is_start" "is_start" j7 f fd) (bd:zm K fd UB []) (hm:mg "is_start" = some (.ref f)) (zk:Fn3 P w K mg base k "shifted" S_shifted) (jy:Fn3 P w K mg base k "is_word" S_is_word) (qS:Fn3 P w K mg base k "is_pair" S_is_pair)  (m_all:mg "all" = none)
  (read:Rd sp 3 (Bk.JZ S_shifted S_is_word S_is_pair) JX):Fn3 P w K mg base (k+1) "is_start" sp:=
 qO (t3:=(Bk.JZ S_shifted S_is_word S_is_pair)) F T5 bd hm (λcdv A outer s H E hr=>(qm (qr (JH (qh qS hr rfl (qa (qc 2) qe)) (VG (qW (J9 rfl) qba rfl m_all PyProof.Rows.boot_all (qa (J7 ["word","dealing"] [none,some 0] rfl (ZW (qh zk hr rfl (qa (qc 1) (qa (qc 2) qe)))) (λ_ _ _=>(jgn 0)) (λ_ _ _=>zF) (λ_ _ _=>(qh jy hr rfl (qa (qc 1) (qa (qc 0) qe)))) (by kernel_rfl) (by kernel_rfl)) qe))))))) read
abbrev jn:Stmt:=top 23
abbrev zX:List Str:=["dealing","walk","start"]
abbrev JY:List Str:=["dealing","walk","start"]
def EY:FnScope zX JY (qi jn):=⟨rfl,rfl,rfl,by decide +kernel,rfl,by decide +kernel,by decide +kernel⟩
def TX {S_is_start:Sp3} {S_shifted:Sp3} (F:Fun K "words_of" "words_of" jn f fd) (bd:zm K fd JY []) (hm:mg "words_of" = some (.ref f)) (qL:Fn3 P w K mg base k "is_start" S_is_start) (zk:Fn3 P w K mg base k "shifted" S_shifted)  
  (read:Rd sp 3 (Bk.J2 S_is_start S_shifted) zX):Fn3 P w K mg base (k+1) "words_of" sp:=
 qO (t3:=(Bk.J2 S_is_start S_shifted)) F EY bd hm (λcdv A outer s H E hr=>(qf (zw (DA (JF (qh qL hr rfl (qa (qc 0) (qa (qc 1) (qa (qc 2) qe)))))) K6 qN) (qm (qr (qh zk hr rfl (qa (qc 1) (qa (qc 2) qe))))))) read
def ZC (S_is_start:Sp3) (dx:X3):TS3:=(qv (qY (UT (tb3 (cb3 S_is_start (qb (v3 0) (qb (v3 1) (qb (v3 2) qg)))))) (K7 63 dx (qb (c3 (.str "from there some cell is no word of the table")) qg)) qt) WL)
def RB {sx:Spx} {S_is_start:Sp3} (F:Fun K "words_of" "words_of" jn f fd) (bd:zm K fd JY []) (hm:mg "words_of" = some (.ref f)) (qL:Fn3 P w K mg base k "is_start" S_is_start)  (r_NoStart:RaX mg base "NoStart" 63)
  (read:∀ ts G dx,sx ts G dx->ts.length=3/\(ZC S_is_start) dx { nx:=λ_ _=>False,rt:=λ_ _=>False } (qk zX ts) G):Fnx P w K mg base (k+1) "words_of" sx:=
 qga (t3:=λdx=>(ZC S_is_start) dx) F EY bd hm (λdx cdv A outer s H E hE hr=>(qf (zw (DA (JF (qh qL hr rfl (qa (qc 0) (qa (qc 1) (qa (qc 2) qe)))))) (qm (qbR hE r_NoStart rfl rfl (qa qC qe))) qN) K6)) read
abbrev QX:Stmt:=top 25
abbrev E9:List Str:=["_law_cell","_law_k","_law_m"]
abbrev DW:List Str:=["_law_cell","_law_k"]
def WS:FnScope E9 DW (qi QX):=⟨rfl,rfl,rfl,by decide +kernel,rfl,by decide +kernel,by decide +kernel⟩
def LX (F:Fun K "_law_mix" "_law_mix" QX f fd) (bd:zm K fd DW []) (hm:mg "_law_mix" = some (.ref f))   
  (read:Rd sp 2 (Bk.VJ) E9):Fn3 P w K mg base (k+1) "_law_mix" sp:=
 qO (t3:=(Bk.VJ)) F WS bd hm (λcdv A outer s H E hr=>(qf (qI 2 WS.nd (UR (zV (qx (qx (UR (qc 0) qd) (zV (zV (qc 1) (qc 1)) qd)) qd) qd) qd)) (qm (qr (UR (zV (qc 2) (qc 2)) qd))))) read
abbrev jQ:Stmt:=top 26
abbrev UC:List Str:=["_law_script","_law_k","_law_cell","_law_own"]
abbrev UE:List Str:=["_law_script","_law_k"]
def YH:FnScope UC UE (qi jQ):=⟨rfl,rfl,rfl,by decide +kernel,rfl,by decide +kernel,by decide +kernel⟩
def T6 (F:Fun K "_law_left" "_law_left" jQ f fd) (bd:zm K fd UE []) (hm:mg "_law_left" = some (.ref f))   (m_len:mg "len" = none) (m_abs:mg "abs" = none)
  (read:Rd sp 2 (Bk.J4) UC):Fn3 P w K mg base (k+1) "_law_left" sp:=
 qO (t3:=(Bk.J4)) F YH bd hm (λcdv A outer s H E hr=>(qf (qI 2 YH.nd (qln (qT SX QF (qc 1) (qW jp QQ rfl m_len PySem.boot_len (qa (qc 0) qe)) (qK _)) (qu (qc 0) (qc 1)) qd)) (qf (qI 3 YH.nd (qln (qT qow QF (qW LC qbd rfl m_abs PyProof.Rows.boot_abs (qa (qc 2) qe)) (qlI qd qd) (qK _)) (qW LC qbd rfl m_abs PyProof.Rows.boot_abs (qa (qc 2) qe)) qd)) (qm (qr (zp (qa (qc 3) (qa (qx (qc 2) (zV qd (qc 1))) (qa qd qe))))))))) read
abbrev jV:Stmt:=top 27
abbrev V3:List Str:=["_law_left_here","_law_many_here","_law_digit"]
abbrev UK:List Str:=["_law_left_here","_law_many_here"]
def DY:FnScope V3 UK (qi jV):=⟨rfl,rfl,rfl,by decide +kernel,rfl,by decide +kernel,by decide +kernel⟩
def TQ {S_law_mix:Sp3} (F:Fun K "_law_pick" "_law_pick" jV f fd) (bd:zm K fd UK []) (hm:mg "_law_pick" = some (.ref f)) (F_law_mix:Fn3 P w K mg base k "_law_mix" S_law_mix)  
  (read:Rd sp 2 (Bk.JV S_law_mix) V3):Fn3 P w K mg base (k+1) "_law_pick" sp:=
 qO (t3:=(Bk.JV S_law_mix)) F DY bd hm (λcdv A outer s H E hr=>(qf (QI (qx (qu (qc 0) qd) qd) (qeQ (qc 0) qd)) (qf (zw (qT qbQ QF (qu (qc 0) qd) qd (qK _)) (qf (qI 2 DY.nd (UR (qu (qc 0) qd) (qc 1))) (qf (QI (RW (qu (qc 0) qd) (qc 1)) (qeQ (qc 0) qd)) (qm (qr (qc 2))))) qN) (qm (qr (UR (RW (qh F_law_mix hr rfl (qa (qh F_law_mix hr rfl (qa (qu (qc 0) qd) (qa (qu (qc 0) qd) qe))) (qa (qx (qu (qc 0) qd) qd) qe))) qd) (qc 1))))))) read
abbrev jH:Stmt:=top 28
abbrev YS:List Str:=["_law_left_here","_law_wide","_law_rows","_law_columns"]
abbrev YF:List Str:=["_law_left_here"]
def JL:FnScope YS YF (qi jH):=⟨rfl,rfl,rfl,by decide +kernel,rfl,by decide +kernel,by decide +kernel⟩
def C7 {S_law_pick:Sp3} (F:Fun K "_law_sides" "_law_sides" jH f fd) (bd:zm K fd YF []) (hm:mg "_law_sides" = some (.ref f)) (F_law_pick:Fn3 P w K mg base k "_law_pick" S_law_pick)  
  (read:Rd sp 1 (Bk.ZR S_law_pick) YS):Fn3 P w K mg base (k+1) "_law_sides" sp:=
 qO (t3:=(Bk.ZR S_law_pick)) F JL bd hm (λcdv A outer s H E hr=>(qf (qI 1 JL.nd (qu (zp (qa qd (qa qd (qa qd (qa qd qe))))) (qh F_law_pick hr rfl (qa (qc 0) (qa qd qe))))) (qf (Z8 (i:=2) (j:=3) rfl JL.nd rfl rfl (by decide) rfl rfl (qa (qx qd (qh F_law_pick hr rfl (qa (qc 0) (qa (qc 1) qe)))) (qa (qx qd (qh F_law_pick hr rfl (qa (qc 0) (qa (qc 1) qe)))) qe))) (qm (qr (qu (zp (qa (qo (qa (qc 2) (qa (qc 3) qe))) (qa (qo (qa (qc 2) (qa (qc 3) qe))) (qa (qo (qa (qc 2) (qa (qc 3) qe))) (qa (qo (qa (qc 2) (qa (qc 2) qe))) qe))))) (qh F_law_pick hr rfl (qa (qc 0) (qa qd qe))))))))) read
abbrev QT:Stmt:=top 29
abbrev EM:List Str:=["_law_one","_law_other"]
abbrev DN:List Str:=["_law_one","_law_other"]
def WN:FnScope EM DN (qi QT):=⟨rfl,rfl,rfl,by decide +kernel,rfl,by decide +kernel,by decide +kernel⟩
def MN (F:Fun K "_law_gcd" "_law_gcd" QT f fd) (bd:zm K fd DN []) (hm:mg "_law_gcd" = some (.ref f))   
  (read:Rd sp 2 (Bk.Y7) EM):Fn3 P w K mg base (k+1) "_law_gcd" sp:=
 qO (t3:=(Bk.Y7)) F WN bd hm (λcdv A outer s H E hr=>(qf (qcp PassesOwn.never (qT qbQ QF (qc 1) qd (qK _)) (qm (Z8 (i:=0) (j:=1) rfl WN.nd rfl rfl (by decide) rfl rfl (qa (qc 1) (qa (UR (qc 0) (qc 1)) qe))))) (qm (qr (qc 0))))) read
abbrev j0:Stmt:=top 30
abbrev UG:List Str:=["_law_left_here","_law_rows","_law_columns","_law_banks","_law_wide"]
abbrev V0:List Str:=["_law_left_here"]
def jX:FnScope UG V0 (qi j0):=⟨rfl,rfl,rfl,by decide +kernel,rfl,by decide +kernel,by decide +kernel⟩
def SU {S_law_sides:Sp3} {S_law_pick:Sp3} (F:Fun K "_law_skew" "_law_skew" j0 f fd) (bd:zm K fd V0 []) (hm:mg "_law_skew" = some (.ref f)) (F_law_sides:Fn3 P w K mg base k "_law_sides" S_law_sides) (F_law_pick:Fn3 P w K mg base k "_law_pick" S_law_pick)  
  (read:Rd sp 1 (Bk.J1 S_law_sides S_law_pick) UG):Fn3 P w K mg base (k+1) "_law_skew" sp:=
 qO (t3:=(Bk.J1 S_law_sides S_law_pick)) F jX bd hm (λcdv A outer s H E hr=>(qf (QI (qh F_law_sides hr rfl (qa (qc 0) qe)) (jz rfl (qy (qw (i:=1) (jX.nd)) (qy (qw (i:=2) (jX.nd)) jB)))) (qf (qI 3 jX.nd (qx qd (qh F_law_pick hr rfl (qa (qc 0) (qa (qu (zp (qa qd (qa qd (qa qd (qa qd qe))))) (qh F_law_pick hr rfl (qa (qc 0) (qa qd qe)))) qe))))) (qf (qI 4 jX.nd (qu (zp (qa (qc 3) (qa qd (qa qd qe)))) (qh F_law_pick hr rfl (qa (qc 0) (qa qd qe))))) (qm (qr (qo (qa qC (qa (qc 1) (qa (qc 2) (qa (qc 3) (qa (qh F_law_pick hr rfl (qa (qc 0) (qa (qc 4) qe))) (qa (qh F_law_pick hr rfl (qa (qc 0) (qa (qc 4) qe))) qe))))))))))))) read
abbrev jt:Stmt:=top 31
abbrev YR:List Str:=["_law_left_here","_law_rows","_law_columns","_law_banks","_law_places","_law_turn"]
abbrev YI:List Str:=["_law_left_here"]
def zM:FnScope YR YI (qi jt):=⟨rfl,rfl,rfl,by decide +kernel,rfl,by decide +kernel,by decide +kernel⟩
def RN {S_law_sides:Sp3} {S_law_pick:Sp3} {S_law_gcd:Sp3} (F:Fun K "_law_rests" "_law_rests" jt f fd) (bd:zm K fd YI []) (hm:mg "_law_rests" = some (.ref f)) (F_law_sides:Fn3 P w K mg base k "_law_sides" S_law_sides) (F_law_pick:Fn3 P w K mg base k "_law_pick" S_law_pick) (F_law_gcd:Fn3 P w K mg base k "_law_gcd" S_law_gcd)  (m_range:mg "range" = none)
  (read:Rd sp 1 (Bk.ZQ S_law_sides S_law_pick S_law_gcd) YR):Fn3 P w K mg base (k+1) "_law_rests" sp:=
 qO (t3:=(Bk.ZQ S_law_sides S_law_pick S_law_gcd)) F zM bd hm (λcdv A outer s H E hr=>(qf (QI (qh F_law_sides hr rfl (qa (qc 0) qe)) (jz rfl (qy (qw (i:=1) (zM.nd)) (qy (qw (i:=2) (zM.nd)) jB)))) (qf (qI 3 zM.nd (qx qd (qh F_law_pick hr rfl (qa (qc 0) (qa (qu (zp (qa qd (qa qd (qa qd qe)))) (qh F_law_pick hr rfl (qa (qc 0) (qa qd qe)))) qe))))) (qf (qI 4 zM.nd (qx (QA (RW (zV (QA (qc 1)) (qc 2)) (qc 3))) (qh F_law_pick hr rfl (qa (qc 0) (qa qd qe))))) (qf (YB PassesOwn.never rfl (qQ rfl m_range (qa qd qe) (h1:=by intro _ _ _ h;simpa [qb,qg] using h)) (qw (i:=5) (zM.nd)) (qm (zw (qT qbQ QF (qh F_law_gcd hr rfl (qa (qc 3) (qa (qc 4) qe))) qd (qK _)) (qm (qI 4 zM.nd (qx (qc 4) qd))) qN))) (qm (qr (qo (qa qC (qa (qc 1) (qa (qc 2) (qa (qc 3) (qa (qc 4) qe))))))))))))) read
abbrev j5:Stmt:=top 32
abbrev WJ:List Str:=["_law_left_here","_law_most","_law_high","_law_low","_law_masks","_law_wide"]
abbrev V5:List Str:=["_law_left_here","_law_most"]
def ZD:FnScope WJ V5 (qi j5):=⟨rfl,rfl,rfl,by decide +kernel,rfl,by decide +kernel,by decide +kernel⟩
def S4 {S_law_pick:Sp3} (F:Fun K "_law_bits" "_law_bits" j5 f fd) (bd:zm K fd V5 []) (hm:mg "_law_bits" = some (.ref f)) (F_law_pick:Fn3 P w K mg base k "_law_pick" S_law_pick)  (m_range:mg "range" = none) (m_tuple:mg "tuple" = none)
  (read:Rd sp 2 (Bk.JR S_law_pick) WJ):Fn3 P w K mg base (k+1) "_law_bits" sp:=
 qO (t3:=(Bk.JR S_law_pick)) F ZD bd hm (λcdv A outer s H E hr=>(qf (Z8 (i:=2) (j:=3) rfl ZD.nd rfl rfl (by decide) rfl rfl (qa (qh F_law_pick hr rfl (qa (qc 0) (qa (qx (qc 1) qd) qe))) (qa (qh F_law_pick hr rfl (qa (qc 0) (qa (qx (qc 1) qd) qe))) qe))) (qf (VO 4 ["_law_t","_law_left_here"] [none,some 0] rfl ZD.nd (qQ rfl m_range (qa (qh F_law_pick hr rfl (qa (qc 0) (qa qd qe))) qe) (h1:=by intro _ _ _ h;simpa [qb,qg] using h)) (λ_ _ _=>(jgn 0)) (λ_ _ _=>zF) (λ_ _ _=>(qh F_law_pick hr rfl (qa (qc 1) (qa qd qe)))) (by kernel_rfl) (by kernel_rfl) rfl rfl) (qf (qI 5 ZD.nd (qu (zp (qa qd (qa qd (qa qd (qa qd (qa qd (qa qd (qa qd (qa qd (qa qd qe)))))))))) (qx (qc 2) (qc 3)))) (qm (qr (qo (qa qC (qa (qc 2) (qa (qc 3) (qa (qX zf jE rfl m_tuple PyProof.Rows.boot_tuple (qa (J7 ["_law_mask","_law_wide"] [none,some 5] rfl (ZW (qc 4)) (λ_ _ _=>(jgn 0)) (λ_ _ _=>zF) (λ_ _ _=>(UR (qc 0) (qc 1))) (by kernel_rfl) (by kernel_rfl)) qe)) qe))))))))))) read
abbrev jC:Stmt:=top 33
abbrev DE:List Str:=["_law_left_here","_law_rows","_law_columns","_law_banks","_law_cells_here"]
abbrev YM:List Str:=["_law_left_here"]
def jD:FnScope DE YM (qi jC):=⟨rfl,rfl,rfl,by decide +kernel,rfl,by decide +kernel,by decide +kernel⟩
def SF {S_law_sides:Sp3} {S_law_pick:Sp3} (F:Fun K "_law_table" "_law_table" jC f fd) (bd:zm K fd YM []) (hm:mg "_law_table" = some (.ref f)) (F_law_sides:Fn3 P w K mg base k "_law_sides" S_law_sides) (F_law_pick:Fn3 P w K mg base k "_law_pick" S_law_pick)  (m_range:mg "range" = none) (m_tuple:mg "tuple" = none)
  (read:Rd sp 1 (Bk.ZB S_law_sides S_law_pick) DE):Fn3 P w K mg base (k+1) "_law_table" sp:=
 qO (t3:=(Bk.ZB S_law_sides S_law_pick)) F jD bd hm (λcdv A outer s H E hr=>(qf (QI (qh F_law_sides hr rfl (qa (qc 0) qe)) (jz rfl (qy (qw (i:=1) (jD.nd)) (qy (qw (i:=2) (jD.nd)) jB)))) (qf (qI 3 jD.nd (qx qd (qh F_law_pick hr rfl (qa (qc 0) (qa (qu (zp (qa qd (qa qd (qa qd qe)))) (qh F_law_pick hr rfl (qa (qc 0) (qa qd qe)))) qe))))) (qf (VO 4 ["_law_i","_law_left_here","_law_banks","_law_columns"] [none,some 0,some 3,some 2] rfl jD.nd (qQ rfl m_range (qa (qc 1) qe) (h1:=by intro _ _ _ h;simpa [qb,qg] using h)) (λ_ _ _=>(jgn 0)) (λ_ _ _=>zF) (λ_ _ _=>(qX zf jE rfl m_tuple PyProof.Rows.boot_tuple (qa (J7 ["_law_j","_law_left_here","_law_banks"] [none,some 1,some 2] rfl (qQ rfl m_range (qa (qc 3) qe) (h1:=by intro _ _ _ h;simpa [qb,qg] using h)) (λ_ _ _=>(jgn 0)) (λ_ _ _=>zF) (λ_ _ _=>(qh F_law_pick hr rfl (qa (qc 1) (qa (qc 2) qe)))) (by kernel_rfl) (by kernel_rfl)) qe))) (by kernel_rfl) (by kernel_rfl) rfl rfl) (qm (qr (qo (qa qC (qa (qc 3) (qa (qX zf jE rfl m_tuple PyProof.Rows.boot_tuple (qa (qc 4) qe)) qe)))))))))) read
abbrev ju:Stmt:=top 34
abbrev EJ:List Str:=["_law_left_here","_law_rows","_law_columns","_law_banks","_law_way","_law_high","_law_low","_law_masks","_law_wide","_law_places","_law_turn","_law_cells_here"]
abbrev YO:List Str:=["_law_left_here"]
def qM:FnScope EJ YO (qi ju):=⟨rfl,rfl,rfl,by decide +kernel,rfl,by decide +kernel,by decide +kernel⟩
def RI {S_law_pick:Sp3} {S_law_gcd:Sp3} (F:Fun K "_law_small" "_law_small" ju f fd) (bd:zm K fd YO []) (hm:mg "_law_small" = some (.ref f)) (F_law_pick:Fn3 P w K mg base k "_law_pick" S_law_pick) (F_law_gcd:Fn3 P w K mg base k "_law_gcd" S_law_gcd)  (m_range:mg "range" = none) (m_tuple:mg "tuple" = none)
  (read:Rd sp 1 (Bk.ZP S_law_pick S_law_gcd) EJ):Fn3 P w K mg base (k+1) "_law_small" sp:=
 qO (t3:=(Bk.ZP S_law_pick S_law_gcd)) F qM bd hm (λcdv A outer s H E hr=>(qf (QI (qo (qa (qx qd (qh F_law_pick hr rfl (qa (qc 0) (qa qd qe)))) (qa (qx qd (qh F_law_pick hr rfl (qa (qc 0) (qa qd qe)))) (qa (qx qd (qh F_law_pick hr rfl (qa (qc 0) (qa qd qe)))) qe)))) (jz rfl (qy (qw (i:=1) (qM.nd)) (qy (qw (i:=2) (qM.nd)) (qy (qw (i:=3) (qM.nd)) jB))))) (qf (qI 4 qM.nd (qh F_law_pick hr rfl (qa (qc 0) (qa qd qe)))) (qf (zw (qT (zv hr.units) qU (qc 4) qd (qK _)) (qm (qr (qo (qa qC (qa (qc 1) (qa (qc 2) (qa (qc 3) (qa (qh F_law_pick hr rfl (qa (qc 0) (qa (qc 3) qe))) (qa (qh F_law_pick hr rfl (qa (qc 0) (qa qd qe))) qe))))))))) qN) (qf (zw (qT (zv hr.units) qU (qc 4) qd (qK _)) (qf (Z8 (i:=5) (j:=6) rfl qM.nd rfl rfl (by decide) rfl rfl (qa (qh F_law_pick hr rfl (qa (qc 0) (qa qd qe))) (qa (qh F_law_pick hr rfl (qa (qc 0) (qa qd qe))) qe))) (qf (VO 7 ["_law_t","_law_left_here"] [none,some 0] rfl qM.nd (qQ rfl m_range (qa (qh F_law_pick hr rfl (qa (qc 0) (qa qd qe))) qe) (h1:=by intro _ _ _ h;simpa [qb,qg] using h)) (λ_ _ _=>(jgn 0)) (λ_ _ _=>zF) (λ_ _ _=>(qh F_law_pick hr rfl (qa (qc 1) (qa qd qe)))) (by kernel_rfl) (by kernel_rfl) rfl rfl) (qf (qI 8 qM.nd (qu (zp (qa qd (qa qd (qa qd (qa qd (qa qd qe)))))) (qx (qc 5) (qc 6)))) (qm (qr (qo (qa qC (qa (qc 5) (qa (qc 6) (qa (qX zf jE rfl m_tuple PyProof.Rows.boot_tuple (qa (J7 ["_law_mask","_law_wide"] [none,some 8] rfl (ZW (qc 7)) (λ_ _ _=>(jgn 0)) (λ_ _ _=>zF) (λ_ _ _=>(UR (qc 0) (qc 1))) (by kernel_rfl) (by kernel_rfl)) qe)) qe)))))))))) qN) (qf (zw (qT (zv hr.units) qU (qc 4) qd (qK _)) (qf (qI 9 qM.nd (qx (QA (RW (zV (QA (qc 1)) (qc 2)) (qc 3))) (qh F_law_pick hr rfl (qa (qc 0) (qa qd qe))))) (qf (YB PassesOwn.never rfl (qQ rfl m_range (qa qd qe) (h1:=by intro _ _ _ h;simpa [qb,qg] using h)) (qw (i:=10) (qM.nd)) (qm (zw (qT qbQ QF (qh F_law_gcd hr rfl (qa (qc 3) (qa (qc 9) qe))) qd (qK _)) (qm (qI 9 qM.nd (qx (qc 9) qd))) qN))) (qm (qr (qo (qa qC (qa (qc 1) (qa (qc 2) (qa (qc 3) (qa (qc 9) qe)))))))))) qN) (qf (VO 11 ["_law_i","_law_left_here","_law_banks","_law_columns"] [none,some 0,some 3,some 2] rfl qM.nd (qQ rfl m_range (qa (qc 1) qe) (h1:=by intro _ _ _ h;simpa [qb,qg] using h)) (λ_ _ _=>(jgn 0)) (λ_ _ _=>zF) (λ_ _ _=>(qX zf jE rfl m_tuple PyProof.Rows.boot_tuple (qa (J7 ["_law_j","_law_left_here","_law_banks"] [none,some 1,some 2] rfl (qQ rfl m_range (qa (qc 3) qe) (h1:=by intro _ _ _ h;simpa [qb,qg] using h)) (λ_ _ _=>(jgn 0)) (λ_ _ _=>zF) (λ_ _ _=>(qh F_law_pick hr rfl (qa (qc 1) (qa (qc 2) qe)))) (by kernel_rfl) (by kernel_rfl)) qe))) (by kernel_rfl) (by kernel_rfl) rfl rfl) (qm (qr (qo (qa qC (qa (qc 3) (qa (qX zf jE rfl m_tuple PyProof.Rows.boot_tuple (qa (qc 11) qe)) qe))))))))))))) read
abbrev zU:Stmt:=top 35
abbrev ZO:List Str:=["_law_left_here","_law_way","_law_inner","_law_some"]
abbrev ZJ:List Str:=["_law_left_here"]
def jq:FnScope ZO ZJ (qi zU):=⟨rfl,rfl,rfl,by decide +kernel,rfl,by decide +kernel,by decide +kernel⟩
def WA {S_law_pick:Sp3} {S_law_skew:Sp3} {S_law_rests:Sp3} {S_law_bits:Sp3} {S_law_table:Sp3} {S_law_small:Sp3} (F:Fun K "_law_dealing" "_law_dealing" zU f fd) (bd:zm K fd ZJ []) (hm:mg "_law_dealing" = some (.ref f)) (F_law_pick:Fn3 P w K mg base k "_law_pick" S_law_pick) (F_law_skew:Fn3 P w K mg base k "_law_skew" S_law_skew) (F_law_rests:Fn3 P w K mg base k "_law_rests" S_law_rests) (F_law_bits:Fn3 P w K mg base k "_law_bits" S_law_bits) (F_law_table:Fn3 P w K mg base k "_law_table" S_law_table) (F_law_small:Fn3 P w K mg base k "_law_small" S_law_small)  
  (read:Rd sp 1 (Bk.jO S_law_pick S_law_skew S_law_rests S_law_bits S_law_table S_law_small) ZO):Fn3 P w K mg base (k+1) "_law_dealing" sp:=
 qO (t3:=(Bk.jO S_law_pick S_law_skew S_law_rests S_law_bits S_law_table S_law_small)) F jq bd hm (λcdv A outer s H E hr=>(qf (qI 1 jq.nd (qh F_law_pick hr rfl (qa (qc 0) (qa qd qe)))) (qf (zw (qT SX QF (qc 1) qd (qK _)) (qm (qr (qh F_law_skew hr rfl (qa (qc 0) qe)))) qN) (qf (zw (qT (zv hr.units) qU (qc 1) qd (qK _)) (qm (qr (qh F_law_rests hr rfl (qa (qc 0) qe)))) qN) (qf (zw (qT (zv hr.units) qU (qc 1) qd (qK _)) (qm (qr (qh F_law_bits hr rfl (qa (qc 0) (qa qd qe))))) qN) (qf (zw (qT (zv hr.units) qU (qc 1) qd (qK _)) (qm (qr (qh F_law_table hr rfl (qa (qc 0) qe)))) qN) (qf (zw (qT (zv hr.units) qU (qc 1) qd (qK _)) (qf (qI 2 jq.nd (qo (qa qC (qa (qo (qa qC (qa (qx qd (qh F_law_pick hr rfl (qa (qc 0) (qa qd qe)))) (qa qd (qa qd (qa qd (qa qd qe))))))) (qa (qo (qa qC (qa qd (qa (qo (qa (qo (qa qd (qa qd qe))) qe)) qe)))) qe))))) (qf (qI 3 jq.nd (zp (qa (qo (qa qC (qa (qc 2) (qa (qh F_law_small hr rfl (qa (qc 0) qe)) qe)))) (qa (qo (qa qC (qa (qh F_law_small hr rfl (qa (qc 0) qe)) (qa (qc 2) qe)))) qe)))) (qf (YY (ES (qc 3) (qa (qo (qa qC (qa (qo (qa qC (qa qd (qa qd (qa qd (qa qd (qa qd qe))))))) (qa (qo (qa qC (qa qd (qa qd (qa qd (qa qd qe)))))) qe)))) qe))) (qf (YY (ES (qc 3) (qa (qo (qa qC (qa (qo (qa qC (qa qd (qa qd (qa qd (qa qd qe)))))) (qa (qo (qa qC (qa qd (qa qd (qa qd (qa qd (qa qd qe))))))) qe)))) qe))) (qm (qr (qu (qc 3) (qh F_law_pick hr rfl (qa (qc 0) (qa qd qe)))))))))) qN) (qm (qr (qo (qa qC (qa (qh F_law_small hr rfl (qa (qc 0) qe)) (qa (qh F_law_small hr rfl (qa (qc 0) qe)) qe))))))))))))) read
abbrev j3:Stmt:=top 36
abbrev WO:List Str:=["_law_dealing_here","_law_two","_law_one","_law_other"]
abbrev UL:List Str:=["_law_dealing_here"]
def YV:FnScope WO UL (qi j3):=⟨rfl,rfl,rfl,by decide +kernel,rfl,by decide +kernel,by decide +kernel⟩
def J0 (S_law_size:Sp3):TS3:=(qv (qY (tb3 (o3 (in3 false) (o3 ix3 (v3 0) (c3 (.int 0))) (qP (qb (c3 (.str "skew")) (qb (c3 (.str "rests")) qg))))) (qH (D6 (v3 0) (sp3 (c3 (.int 1))) (sp3 (c3 (.int 4))))) qt) (qv (qY (tb3 (o3 (zL false) (o3 ix3 (v3 0) (c3 (.int 0))) (c3 (.str "bits")))) (qv (qJ (ja (qb (c3 (.int 1)) (qb (c3 (.int 2)) (qb (c3 (.int 4)) (qb (c3 (.int 8)) (qb (c3 (.int 16)) (qb (c3 (.int 32)) qg))))))) (gn3 1)) (qH (qP (qb (o3 ix3 (v3 1) (o3 ix3 (v3 0) (c3 (.int 1)))) (qb (o3 ix3 (v3 1) (o3 ix3 (v3 0) (c3 (.int 2)))) (qb (o3 ix3 (v3 1) (cb3 YA (qb (o3 ix3 (v3 0) (c3 (.int 3))) qg))) qg)))))) qt) (qv (qY (tb3 (o3 (zL false) (o3 ix3 (v3 0) (c3 (.int 0))) (c3 (.str "table")))) (qH (qP (qb (cb3 YA (qb (o3 ix3 (v3 0) (c3 (.int 2))) qg)) (qb (cb3 YA (qb (o3 ix3 (o3 ix3 (v3 0) (c3 (.int 2))) (c3 (.int 0))) qg)) (qb (o3 ix3 (v3 0) (c3 (.int 1))) qg))))) qt) (qv (QS 2 3 (qb (cb3 S_law_size (qb (o3 ix3 (v3 0) (c3 (.int 1))) qg)) (qb (cb3 S_law_size (qb (o3 ix3 (v3 0) (c3 (.int 2))) qg)) qg))) (qH (cb3 q0 (qb (lc3 (qbD (qb (v3 2) (qb (v3 3) qg))) (zl 2 (qp (gn3 0) (qp (gn3 1) zn))) tt3 (o3 (iC JD (·*·)) (v3 0) (v3 1)) [none,none]) qg)))))))
def YU {S_law_size:Sp3} (F:Fun K "_law_size" "_law_size" j3 f fd) (bd:zm K fd UL []) (hm:mg "_law_size" = some (.ref f)) (F_law_size:Fn3 P w K mg base k "_law_size" S_law_size)  (m_len:mg "len" = none) (m_zip:mg "zip" = none) (m_tuple:mg "tuple" = none)
  (read:Rd sp 1 (J0 S_law_size) WO):Fn3 P w K mg base (k+1) "_law_size" sp:=
 qO (t3:=(J0 S_law_size)) F YV bd hm (λcdv A outer s H E hr=>(qf (zw (qT qbc qem (qu (qc 0) qd) (qo (qa qC (qa qC qe))) (by with_unfolding_all rfl)) (qm (qr (KT (qc 0) (XU qd) (XU qd)))) qN) (qf (zw (qT (zv hr.units) qU (qu (qc 0) qd) qC (qK _)) (qf (qI 1 YV.nd (zp (qa qd (qa qd (qa qd (qa qd (qa qd (qa qd qe)))))))) (qm (qr (qo (qa (qu (qc 1) (qu (qc 0) qd)) (qa (qu (qc 1) (qu (qc 0) qd)) (qa (qu (qc 1) (qW jp QQ rfl m_len PySem.boot_len (qa (qu (qc 0) qd) qe))) qe))))))) qN) (qf (zw (qT (zv hr.units) qU (qu (qc 0) qd) qC (qK _)) (qm (qr (qo (qa (qW jp QQ rfl m_len PySem.boot_len (qa (qu (qc 0) qd) qe)) (qa (qW jp QQ rfl m_len PySem.boot_len (qa (qu (qu (qc 0) qd) qd) qe)) (qa (qu (qc 0) qd) qe)))))) qN) (qf (Z8 (i:=2) (j:=3) rfl YV.nd rfl rfl (by decide) rfl rfl (qa (qh F_law_size hr rfl (qa (qu (qc 0) qd) qe)) (qa (qh F_law_size hr rfl (qa (qu (qc 0) qd) qe)) qe))) (qm (qr (qX zf jE rfl m_tuple PyProof.Rows.boot_tuple (qa (J7 ["_law_x","_law_y"] [none,none] rfl (qhq rfl m_zip (qa (qc 2) (qa (qc 3) qe))) (λ_ _ _=>(jz rfl (qy (jgn 0) (qy (jgn 1) jB)))) (λ_ _ _=>zF) (λ_ _ _=>(zV (qc 0) (qc 1))) (by kernel_rfl) (by kernel_rfl)) qe))))))))) read
abbrev j6:Stmt:=top 37
abbrev UI:List Str:=["_law_left_here"]
abbrev V2:List Str:=["_law_left_here"]
def S9:FnScope UI V2 (qi j6):=⟨rfl,rfl,rfl,by decide +kernel,rfl,by decide +kernel,by decide +kernel⟩
def T9 {S_law_pick:Sp3} (F:Fun K "_law_many" "_law_many" j6 f fd) (bd:zm K fd V2 []) (hm:mg "_law_many" = some (.ref f)) (F_law_pick:Fn3 P w K mg base k "_law_pick" S_law_pick)  
  (read:Rd sp 1 (Bk.JT S_law_pick) UI):Fn3 P w K mg base (k+1) "_law_many" sp:=
 qO (t3:=(Bk.JT S_law_pick)) F S9 bd hm (λcdv A outer s H E hr=>(qm (qr (qx qd (qh F_law_pick hr rfl (qa (qc 0) (qa (qu (zp (qa qd (qa qd (qa qd (qa qd (qa qd (qa qd (qa qd (qa qd qe))))))))) (qh F_law_pick hr rfl (qa (qc 0) (qa qd qe)))) qe))))))) read
abbrev jU:Stmt:=top 38
abbrev UN:List Str:=["_law_left_here","_law_way","_law_lying","_law_high","_law_wide","_law_down","_law_along","_law_pairs","_law_far","_law_turn","_law_pair"]
abbrev V7:List Str:=["_law_left_here"]
def zK:FnScope UN V7 (qi jU):=⟨rfl,rfl,rfl,by decide +kernel,rfl,by decide +kernel,by decide +kernel⟩
def TB {S_law_pick:Sp3} {S_law_many:Sp3} (F:Fun K "_law_walk" "_law_walk" jU f fd) (bd:zm K fd V7 []) (hm:mg "_law_walk" = some (.ref f)) (F_law_pick:Fn3 P w K mg base k "_law_pick" S_law_pick) (F_law_many:Fn3 P w K mg base k "_law_many" S_law_many)  (m_int:mg "int" = none) (m_range:mg "range" = none) (m_tuple:mg "tuple" = none)
  (read:Rd sp 1 (Bk.J3 S_law_pick S_law_many) UN):Fn3 P w K mg base (k+1) "_law_walk" sp:=
 qO (t3:=(Bk.J3 S_law_pick S_law_many)) F zK bd hm (λcdv A outer s H E hr=>(qf (qI 1 zK.nd (qh F_law_pick hr rfl (qa (qc 0) (qa qd qe)))) (qf (zw (qT SX QF (qc 1) qd (qK _)) (qm (qr (qo (qa (qu (zp (qa qC (qa qC (qa qC (qa qC qe))))) (qc 1)) (qa (qh F_law_many hr rfl (qa (qc 0) qe)) qe))))) qN) (qf (zw (qT SX QF (qc 1) qd (qK _)) (qf (Z8 (i:=2) (j:=3) rfl zK.nd rfl rfl (by decide) rfl rfl (qa (qh F_law_pick hr rfl (qa (qc 0) (qa qd qe))) (qa (qx qd (qh F_law_pick hr rfl (qa (qc 0) (qa qd qe)))) qe))) (qf (qI 4 zK.nd (qx qd (qh F_law_pick hr rfl (qa (qc 0) (qa (RW qd (qc 3)) qe))))) (qm (qr (qu (zp (qa (qo (qa qC (qa (qc 3) (qa (qc 4) qe)))) (qa (qo (qa qC (qa (qc 4) (qa (qc 3) qe)))) qe))) (qc 2)))))) qN) (qf (zw (qT SX QF (qc 1) qd (qK _)) (qf (Z8 (i:=5) (j:=6) rfl zK.nd rfl rfl (by decide) rfl rfl (qa (VP (qh F_law_pick hr rfl (qa (qc 0) (qa qd qe))) qd) (qa (VP (qh F_law_pick hr rfl (qa (qc 0) (qa qd qe))) qd) qe))) (qf (zw (qT (zv hr.units) qU (qh F_law_pick hr rfl (qa (qc 0) (qa qd qe))) qd (qK _)) (qm (qr (qo (qa qC (qa (zV qd (qc 5)) (qa (qx (zV qd (qc 6)) (qX Y8 CB rfl m_int PyProof.Rows.boot_int (qa (JH (YC (zv hr.units) qU (qc 5) qd (qK _)) (VG (YC (zv hr.units) qU (qc 6) qd (qK _)))) qe))) (qa (qx qd (qh F_law_pick hr rfl (qa (qc 0) (qa qd qe)))) qe))))))) qN) (qm (qr (qo (qa qC (qa (qc 5) (qa (qx (qc 6) (qX Y8 CB rfl m_int PyProof.Rows.boot_int (qa (JH (YC (zv hr.units) qU (qc 5) qd (qK _)) (VG (YC (zv hr.units) qU (qc 6) qd (qK _)))) qe))) (qa (qh F_law_many hr rfl (qa (qc 0) qe)) qe))))))))) qN) (qf (Z8 (i:=7) (j:=8) rfl zK.nd rfl rfl (by decide) rfl rfl (qa (zp qe) (qa (qx qd (zV qd (qX Y8 CB rfl m_int PyProof.Rows.boot_int (qa (YC (zv hr.units) qU (qh F_law_pick hr rfl (qa (qc 0) (qa qd qe))) qd (qK _)) qe)))) qe))) (qf (YB PassesOwn.never rfl (qQ rfl m_range (qa (qh F_law_many hr rfl (qa (qc 0) qe)) qe) (h1:=by intro _ _ _ h;simpa [qb,qg] using h)) (qw (i:=9) (zK.nd)) (qf (qI 10 zK.nd (qo (qa (zV (qc 8) (VP (qh F_law_pick hr rfl (qa (qc 0) (qa qd qe))) qd)) (qa (zV (qc 8) (VP (qh F_law_pick hr rfl (qa (qc 0) (qa qd qe))) qd)) qe)))) (qm (zw (qT (SG hr.units) TZ (qc 10) (qc 7) (by with_unfolding_all rfl)) (qm (YY (ES (qc 7) (qa (qc 10) qe)))) qN)))) (qm (qr (qo (qa qC (qa (qX zf jE rfl m_tuple PyProof.Rows.boot_tuple (qa (qc 7) qe)) qe)))))))))))) read
abbrev jv:Stmt:=top 39
abbrev ZV:List Str:=["_law_walk_here","_law_found","_law_p","_law_down","_law_along"]
abbrev YX:List Str:=["_law_walk_here"]
def jw:FnScope ZV YX (qi jv):=⟨rfl,rfl,rfl,by decide +kernel,rfl,by decide +kernel,by decide +kernel⟩
def RY (F:Fun K "_law_cells" "_law_cells" jv f fd) (bd:zm K fd YX []) (hm:mg "_law_cells" = some (.ref f))   (m_list:mg "list" = none) (m_range:mg "range" = none)
  (read:Rd sp 1 (Bk.Q9) ZV):Fn3 P w K mg base (k+1) "_law_cells" sp:=
 qO (t3:=(Bk.Q9)) F jw bd hm (λcdv A outer s H E hr=>(qf (zw (qT (zv hr.units) qU (qu (qc 0) qd) qC (qK _)) (qm (qr (qX JB XO rfl m_list PyProof.Rows.boot_list (qa (qu (qc 0) qd) qe)))) qN) (qf (zw (qT (zv hr.units) qU (qu (qc 0) qd) qC (qK _)) (qf (qI 1 jw.nd (zp qe)) (qf (YB PassesOwn.never rfl (qQ rfl m_range (qa (qu (qc 0) qd) qe) (h1:=by intro _ _ _ h;simpa [qb,qg] using h)) (qw (i:=2) (jw.nd)) (qm (YY (EK (qc 1) (qa (J7 ["_law_q","_law_p"] [none,some 2] rfl (qQ rfl m_range (qa (qu (qc 0) qd) qe) (h1:=by intro _ _ _ h;simpa [qb,qg] using h)) (λ_ _ _=>(jgn 0)) (λ_ _ _=>zF) (λ_ _ _=>(qo (qa (qc 1) (qa (qc 0) qe)))) (by kernel_rfl) (by kernel_rfl)) qe))))) (qm (qr (qc 1))))) qN) (qf (QI (qf0 (DK (qo (qa qd (qa qd qe))) (DK (qo (qa qd (qa qd qe))) (DK (qo (qa qd (qa qd qe))) (DK (qo (qa qd (qa (QA qd) qe))) (DK (KT (qc 0) (XU qd) (XU qd)) qgQ))))) (qu (qc 0) qd)) (jz rfl (qy (qw (i:=3) (jw.nd)) (qy (qw (i:=4) (jw.nd)) jB)))) (qm (qr (J7 ["_law_t","_law_down","_law_along"] [none,some 3,some 4] rfl (qQ rfl m_range (qa (qu (qc 0) (QA qd)) qe) (h1:=by intro _ _ _ h;simpa [qb,qg] using h)) (λ_ _ _=>(jgn 0)) (λ_ _ _=>zF) (λ_ _ _=>(qo (qa (zV (qc 0) (qc 1)) (qa (zV (qc 0) (qc 2)) qe)))) (by kernel_rfl) (by kernel_rfl)))))))) read
abbrev jc:Stmt:=top 40
abbrev QE:List Str:=["_law_dealing_here","_law_walk_here","_law_rows","_law_columns","_law_banks","_law_cells_here","_law_downs","_law_alongs","_law_found","_law_i"]
abbrev JG:List Str:=["_law_dealing_here","_law_walk_here"]
def zd:FnScope QE JG (qi jc):=⟨rfl,rfl,rfl,by decide +kernel,rfl,by decide +kernel,by decide +kernel⟩
def XB {S_law_size:Sp3} {S_law_cells:Sp3} (F:Fun K "_law_starts" "_law_starts" jc f fd) (bd:zm K fd JG []) (hm:mg "_law_starts" = some (.ref f)) (F_law_size:Fn3 P w K mg base k "_law_size" S_law_size) (qR:Fn3 P w K mg base k "_law_cells" S_law_cells)  (m_min:mg "min" = none) (m_max:mg "max" = none) (m_range:mg "range" = none)
  (read:Rd sp 2 (Bk.QG S_law_size S_law_cells) QE):Fn3 P w K mg base (k+1) "_law_starts" sp:=
 qO (t3:=(Bk.QG S_law_size S_law_cells)) F zd bd hm (λcdv A outer s H E hr=>(qf (QI (qh F_law_size hr rfl (qa (qc 0) qe)) (jz rfl (qy (qw (i:=2) (zd.nd)) (qy (qw (i:=3) (zd.nd)) (qy (qw (i:=4) (zd.nd)) jB))))) (qf (qI 5 zd.nd (qh qR hr rfl (qa (qc 1) qe))) (qf (Z8 (i:=6) (j:=7) rfl zd.nd rfl rfl (by decide) rfl rfl (qa (J7 ["_law_p","_law_q"] [none,none] rfl (ZW (qc 5)) (λ_ _ _=>(jz rfl (qy (jgn 0) (qy (jgn 1) jB)))) (λ_ _ _=>zF) (λ_ _ _=>(qc 0)) (by kernel_rfl) (by kernel_rfl)) (qa (J7 ["_law_p","_law_q"] [none,none] rfl (ZW (qc 5)) (λ_ _ _=>(jz rfl (qy (jgn 0) (qy (jgn 1) jB)))) (λ_ _ _=>zF) (λ_ _ _=>(qc 1)) (by kernel_rfl) (by kernel_rfl)) qe))) (qf (qI 8 zd.nd (zp qe)) (qf (YB PassesOwn.never rfl (CY rfl m_range (qa (QA (qW (SA rfl) K2 rfl m_min PyProof.Rows.boot_min (qa (qc 6) qe))) (qa (VP (qc 2) (qW (RZ rfl) LF rfl m_max PyProof.Rows.boot_max (qa (qc 6) qe))) qe)) (h1:=by intro _ _ _ h;simpa [qb,qg] using h)) (qw (i:=9) (zd.nd)) (qm (YY (EK (qc 8) (qa (J7 ["_law_j","_law_i"] [none,some 9] rfl (CY rfl m_range (qa (QA (qW (SA rfl) K2 rfl m_min PyProof.Rows.boot_min (qa (qc 7) qe))) (qa (VP (qc 3) (qW (RZ rfl) LF rfl m_max PyProof.Rows.boot_max (qa (qc 7) qe))) qe)) (h1:=by intro _ _ _ h;simpa [qb,qg] using h)) (λ_ _ _=>(jgn 0)) (λ_ _ _=>zF) (λ_ _ _=>(qo (qa (qc 1) (qa (qc 0) qe)))) (by kernel_rfl) (by kernel_rfl)) qe))))) (qm (qr (qc 8))))))))) read
abbrev jb:Stmt:=top 41
abbrev QC:List Str:=["_law_dealing_here","_law_walk_here","_law_start","_law_caught","_law_told","error","_law_others"]
abbrev JE:List Str:=["_law_dealing_here","_law_walk_here","_law_start"]
def ze:FnScope QC JE (qi jb):=⟨rfl,rfl,rfl,by decide +kernel,rfl,by decide +kernel,by decide +kernel⟩
def jx (S_words_of:Sp3) (Sx_words_of:Spx):TS3:=(qv (qJ (qP (qb (c3 .non) (qb (c3 .non) qg))) (zl 2 (qp (gn3 3) (qp (gn3 4) zn)))) (qv (qoR 5 [63] (qJ (cb3 S_words_of (qb (v3 0) (qb (v3 1) (qb (v3 2) qg)))) (gn3 4)) (qgv Sx_words_of (qb (v3 0) (qb (v3 1) (qb (v3 2) qg)))) (qJ (v3 5) (gn3 3))) (qv (qY (tb3 (o3 (CQ false) (v3 3) (c3 .non))) (qH (v3 4)) qt) (qv (qJ (qgr [(none,false),(some 63,false)] (v3 3)) (gn3 6)) (qv (qY (or3 (UT (tb3 (qgr [(none,false),(some 63,true)] (v3 3)))) (or3 (tb3 (v3 6)) (UT (tb3 (qgr [(none,false),(some 63,true)] (v3 3)))))) (qH (c3 (.str "other"))) qt) (qH (c3 (.str "no start"))))))))
def CA {S_words_of:Sp3} {Sx_words_of:Spx} (F:Fun K "_law_answer" "_law_answer" jb f fd) (bd:zm K fd JE []) (hm:mg "_law_answer" = some (.ref f)) (zx:Fn3 P w K mg base k "words_of" S_words_of) (Fx_words_of:Fnx P w K mg base k "words_of" Sx_words_of) (m_BankError:mg "BankError" = some (.ref 38)) (b_BankError:ExC base 38 [.ref 38,.type "ValueError",.type "Exception",.type "BaseException",.type "object"]) (c_BankError:∀ C∈[63],Ct base 38 C) (m_isinstance:mg "isinstance" = none) (m_BadRow:mg "BadRow" = some (.ref 161)) (m_BadText:mg "BadText" = some (.ref 123)) (m_Clash:mg "Clash" = some (.ref 99)) (m_NoAsk:mg "NoAsk" = some (.ref 142)) (m_NoOrder:mg "NoOrder" = some (.ref 87)) (m_NotSquare:mg "NotSquare" = some (.ref 111)) (m_NoWalk:mg "NoWalk" = some (.ref 75)) (m_NoWord:mg "NoWord" = some (.ref 51)) (x_0:XD K [.ref 161,.ref 123,.ref 99,.ref 142,.ref 87,.ref 111,.ref 75,.ref 51] [(none,false),(some 63,false)]) (m_ValueError:mg "ValueError" = none) (x_1:XD K [.type "ValueError"] [(none,false),(some 63,true)]) (m_NoStart:mg "NoStart" = some (.ref 63)) (x_2:XD K [.ref 63] [(none,false),(some 63,true)])
  (read:Rd sp 3 (jx S_words_of Sx_words_of) QC):Fn3 P w K mg base (k+1) "_law_answer" sp:=
 qO (t3:=(jx S_words_of Sx_words_of)) F ze bd hm (λcdv A outer s H E hr=>(qf (QI (qo (qa RP (qa RP qe))) (jz rfl (qy (qw (i:=3) (ze.nd)) (qy (qw (i:=4) (ze.nd)) jB)))) (qf (qgS (i:=5) [63] rfl rfl rfl rfl m_BankError b_BankError (by kernel_rfl) c_BankError ze.nd rfl rfl rfl (qm (qI 4 ze.nd (qh zx hr rfl (qa (qc 0) (qa (qc 1) (qa (qc 2) qe)))))) (qhK 4 ze.nd (qgs Fx_words_of hr rfl (λ_ _ _=>(qa (qc 0) (qa (qc 1) (qa (qc 2) qe)))))) (λ_=>(qm (qI 3 ze.nd (qc 5))))) (qf (zw (qT qlg qfq (qc 3) RP (qK _)) (qm (qr (qc 4))) qN) (qf (qI 6 ze.nd (qfW (qc 3) rfl m_isinstance (.cons (ZM rfl m_BadRow) rfl (.cons (ZM rfl m_BadText) rfl (.cons (ZM rfl m_Clash) rfl (.cons (ZM rfl m_NoAsk) rfl (.cons (ZM rfl m_NoOrder) rfl (.cons (ZM rfl m_NotSquare) rfl (.cons (ZM rfl m_NoWalk) rfl (.cons (ZM rfl m_NoWord) rfl .nil)))))))) (by decide) x_0)) (qf (zw (jpt (qfg (DA (JF (qeI (qc 3) rfl m_isinstance (ZM rfl m_NoStart) x_2))) (qfg (JF (qc 6)) (qeT (DA (JF (qeI (qc 3) rfl m_isinstance (qkr rfl m_ValueError L3.qfC) x_1))))))) (qm (qr qC)) qN) (qm (qr qC)))))))) read
abbrev jA:Stmt:=top 42
abbrev jY:List Str:=["_law_left_here","_law_some","_law_found","_law_turn","_law_i","_law_j"]
abbrev YN:List Str:=["_law_left_here","_law_some"]
def zq:FnScope jY YN (qi jA):=⟨rfl,rfl,rfl,by decide +kernel,rfl,by decide +kernel,by decide +kernel⟩
def ZI (S_law_pick:Sp3):TS3:=(qv (qJ (ja (qb (qP (qb (c3 (.int 0)) (qb (c3 (.int 0)) qg))) (qb (qP (qb (u3 JP (c3 (.int 1))) (qb (c3 (.int 0)) qg))) (qb (qP (qb (c3 (.int 0)) (qb (c3 (.int 99)) qg))) (qb (qP (qb (u3 JP (c3 (.int 20))) (qb (u3 JP (c3 (.int 20))) qg))) (qb (c3 .non) (qb (qP qg) (qb (qP (qb (c3 (.int 0)) qg)) (qb (qP (qb (c3 (.int 0)) (qb (c3 (.int 0)) (qb (c3 (.int 0)) qg)))) (qb (ja (qb (c3 (.int 0)) (qb (c3 (.int 0)) qg))) (qb (c3 (.str "00")) (qb (qP (qb (c3 (.bl true)) (qb (c3 (.int 0)) qg))) qg)))))))))))) (gn3 2)) (qv (qJ (o3 za (v3 2) (ja (qb (qP (qb (c3 (.int 0)) (qb (c3 (.bl true)) qg))) (qb (qP (qb (c3 (.int 0)) (qb (c3 (.bl false)) qg))) (qb (qP (qb (c3 (.int 0)) (qb (c3 .non) qg))) qg))))) (gn3 2)) (qv (WF (zz (qb (o3 (iC JD (·*·)) (c3 (.int 6)) (cb3 UV (qb (o3 (zL true) (v3 1) (ja qg)) qg))) qg)) (gn3 3) (qv (qJ (o3 ix3 (v3 1) (cb3 S_law_pick (qb (v3 0) (qb (cb3 YA (qb (v3 1) qg)) qg)))) (zl 2 (qp (gn3 4) (qp (gn3 5) zn)))) (qJ (o3 za (v3 2) (ja (qb (qP (qb (v3 4) (qb (v3 5) qg))) (qb (o3 ix3 (ja (qb (qP (qb (o3 za (v3 4) (c3 (.int 1))) (qb (v3 5) qg))) (qb (qP (qb (v3 4) (qb (o3 za (v3 5) (c3 (.int 1))) qg))) (qb (qP (qb (o3 (iI (·-·)) (v3 4) (c3 (.int 1))) (qb (v3 5) qg))) (qb (qP (qb (v3 4) (qb (o3 (iI (·-·)) (v3 5) (c3 (.int 1))) qg))) qg))))) (cb3 S_law_pick (qb (v3 0) (qb (c3 (.int 4)) qg)))) qg)))) (gn3 2)))) (qv (qY (tb3 (o3 (zL true) (v3 1) (ja qg))) (qJ (o3 za (v3 2) (ja (qb (o3 ix3 (v3 1) (c3 (.int 0))) (qb (o3 ix3 (v3 1) (u3 JP (c3 (.int 1)))) (qb (qP (qb (o3 ix3 (o3 ix3 (v3 1) (u3 JP (c3 (.int 1)))) (c3 (.int 0))) (qb (o3 za (o3 ix3 (o3 ix3 (v3 1) (u3 JP (c3 (.int 1)))) (c3 (.int 1))) (c3 (.int 1))) qg))) (qb (qP (qb (o3 (iI (·-·)) (o3 ix3 (o3 ix3 (v3 1) (c3 (.int 0))) (c3 (.int 0))) (c3 (.int 1))) (qb (o3 ix3 (o3 ix3 (v3 1) (c3 (.int 0))) (c3 (.int 1))) qg))) qg)))))) (gn3 2)) qt) (qH (v3 2))))))
def CV {S_law_pick:Sp3} (F:Fun K "_law_asked" "_law_asked" jA f fd) (bd:zm K fd YN []) (hm:mg "_law_asked" = some (.ref f)) (F_law_pick:Fn3 P w K mg base k "_law_pick" S_law_pick)  (m_int:mg "int" = none) (m_range:mg "range" = none) (m_len:mg "len" = none)
  (read:Rd sp 2 (ZI S_law_pick) jY):Fn3 P w K mg base (k+1) "_law_asked" sp:=
 qO (t3:=(ZI S_law_pick)) F zq bd hm (λcdv A outer s H E hr=>(qf (qI 2 zq.nd (zp (qa (qo (qa qd (qa qd qe))) (qa (qo (qa (QA qd) (qa qd qe))) (qa (qo (qa qd (qa qd qe))) (qa (qo (qa (QA qd) (qa (QA qd) qe))) (qa RP (qa (qo qe) (qa (qo (qa qd qe)) (qa (qo (qa qd (qa qd (qa qd qe)))) (qa (zp (qa qd (qa qd qe))) (qa qC (qa (qo (qa X6 (qa qd qe))) qe))))))))))))) (qf (qI 2 zq.nd (qx (qc 2) (zp (qa (qo (qa qd (qa X6 qe))) (qa (qo (qa qd (qa X6 qe))) (qa (qo (qa qd (qa RP qe))) qe)))))) (qf (YB PassesOwn.never rfl (qQ rfl m_range (qa (zV qd (qX Y8 CB rfl m_int PyProof.Rows.boot_int (qa (YC (NK hr.units) S6 (qc 1) (zp qe) (qK _)) qe))) qe) (h1:=by intro _ _ _ h;simpa [qb,qg] using h)) (qw (i:=3) (zq.nd)) (qf (QI (qu (qc 1) (qh F_law_pick hr rfl (qa (qc 0) (qa (qW jp QQ rfl m_len PySem.boot_len (qa (qc 1) qe)) qe)))) (jz rfl (qy (qw (i:=4) (zq.nd)) (qy (qw (i:=5) (zq.nd)) jB)))) (qm (qI 2 zq.nd (qx (qc 2) (zp (qa (qo (qa (qc 4) (qa (qc 5) qe))) (qa (qu (zp (qa (qo (qa (qx (qc 4) qd) (qa (qc 5) qe))) (qa (qo (qa (qc 4) (qa (qx (qc 5) qd) qe))) (qa (qo (qa (VP (qc 4) qd) (qa (qc 5) qe))) (qa (qo (qa (qc 4) (qa (VP (qc 5) qd) qe))) qe))))) (qh F_law_pick hr rfl (qa (qc 0) (qa qd qe)))) qe)))))))) (qf (zw (qT (NK hr.units) S6 (qc 1) (zp qe) (qK _)) (qm (qI 2 zq.nd (qx (qc 2) (zp (qa (qu (qc 1) qd) (qa (qu (qc 1) (QA qd)) (qa (qo (qa (qu (qu (qc 1) (QA qd)) qd) (qa (qx (qu (qu (qc 1) (QA qd)) qd) qd) qe))) (qa (qo (qa (VP (qu (qu (qc 1) qd) qd) qd) (qa (qu (qu (qc 1) qd) qd) qe))) qe)))))))) qN) (qm (qr (qc 2)))))))) read
abbrev Z7:Stmt:=top 43
abbrev U9:List Str:=["_law_found","_law_due","_law_numbers","_law_one"]
abbrev XC:List Str:=["_law_found","_law_due"]
def DJ:FnScope U9 XC (qi Z7):=⟨rfl,rfl,rfl,by decide +kernel,rfl,by decide +kernel,by decide +kernel⟩
def U8:TS3:=(qv (qY (tb3 (YL (λt=>z9 t "str") (v3 1))) (qH (zT (YL (λt=>z9 t "str") (v3 0)) (o3 (zL false) (v3 0) (v3 1)))) qt) (qv (qY (or3 (UT (tb3 (YL (λt=>z9 t "list") (v3 0)))) (tb3 (o3 (zL true) (v3 0) (v3 1)))) (qH (c3 (.bl false))) qt) (qv (qJ (ja qg) (gn3 2)) (qv (WF (QP (v3 0)) (gn3 3) (zZ (bm3 DM (v3 2) (qb (cb3 QM (qb (v3 3) qg)) qg)))) (qH (zT (cb3 WM (qb (lc3 (QP (v3 0)) (gn3 0) tt3 (YL (λt=>z9 t "tuple") (v3 0)) [none]) qg)) (o3 (in3 true) (c3 (.bl true)) (lc3 (QP (v3 2)) (gn3 0) tt3 (YL (λt=>z9 t "bool") (v3 0)) [none]))))))))
def NM (F:Fun K "_law_is" "_law_is" Z7 f fd) (bd:zm K fd XC []) (hm:mg "_law_is" = some (.ref f))   (m_isinstance:mg "isinstance" = none) (m_str:mg "str" = none) (m_list:mg "list" = none) (m_bool:mg "bool" = none) (m_tuple:mg "tuple" = none) (m_all:mg "all" = none)
  (read:Rd sp 2 (U8) U9):Fn3 P w K mg base (k+1) "_law_is" sp:=
 qO (t3:=(U8)) F DJ bd hm (λcdv A outer s H E hr=>(qf (zw (JF (JN (qc 1) rfl m_isinstance rfl m_str PyProof.Rows.boot_str)) (qm (qr (JH (JN (qc 0) rfl m_isinstance rfl m_str PyProof.Rows.boot_str) (VG (YC (zv hr.units) qU (qc 0) (qc 1) (qK _)))))) qN) (qf (zw (jpt (qfg (DA (JF (JN (qc 0) rfl m_isinstance rfl m_list PyProof.Rows.boot_list))) (qeT (qT (NK hr.units) S6 (qc 0) (qc 1) (qK _))))) (qm (qr X6)) qN) (qf (qI 2 DJ.nd (zp qe)) (qf (YB PassesOwn.never rfl (ZW (qc 0)) (qw (i:=3) (DJ.nd)) (qm (YY (EK (qc 2) (qa (qX JB XO rfl m_list PyProof.Rows.boot_list (qa (qc 3) qe)) qe))))) (qm (qr (JH (qW (J9 rfl) qba rfl m_all PyProof.Rows.boot_all (qa (J7 ["_law_one"] [none] rfl (ZW (qc 0)) (λ_ _ _=>(jgn 0)) (λ_ _ _=>zF) (λ_ _ _=>(JN (qc 0) rfl m_isinstance rfl m_tuple PyProof.Rows.boot_tuple)) (by kernel_rfl) (by kernel_rfl)) qe)) (VG (YC RM qem X6 (J7 ["_law_n"] [none] rfl (ZW (qc 2)) (λ_ _ _=>(jgn 0)) (λ_ _ _=>zF) (λ_ _ _=>(JN (qc 0) rfl m_isinstance rfl m_bool PyProof.Rows.boot_bool)) (by kernel_rfl) (by kernel_rfl)) (by with_unfolding_all rfl))))))))))) read
abbrev Z5:Stmt:=top 44
abbrev qbT:List Str:=["_law_script","_law_k","_law_left_here","_law_dealing_here","_law_walk_here","_law_cells_here","_law_some","_law_turn","_law_start","_law_due","_law_plain","_law_found"]
abbrev qiI:List Str:=["_law_script"]
def JM:FnScope qbT qiI (qi Z5):=⟨rfl,rfl,rfl,by decide +kernel,rfl,by decide +kernel,by decide +kernel⟩
def qfI (S_law_left:Sp3) (S_law_dealing:Sp3) (S_law_walk:Sp3) (S_law_cells:Sp3) (S_law_starts:Sp3) (S_law_asked:Sp3) (S_law_answer:Sp3) (S_law_is:Sp3):TS3:=(qv (WF (zz (qb (o3 za (c3 (.int 1)) (cb3 XM (qb (c3 (.int 6)) (qb (cb3 YA (qb (v3 0) qg)) qg)))) qg)) (gn3 1) (qv (qJ (cb3 S_law_left (qb (v3 0) (qb (v3 1) qg))) (gn3 2)) (qv (QS 3 4 (qb (cb3 S_law_dealing (qb (v3 2) qg)) (qb (cb3 S_law_walk (qb (v3 2) qg)) qg))) (qv (QS 5 6 (qb (cb3 S_law_cells (qb (v3 4) qg)) (qb (cb3 S_law_starts (qb (v3 3) (qb (v3 4) qg))) qg))) (WF (zz (qb (c3 (.int 2)) qg)) (gn3 7) (WF (QP (cb3 S_law_asked (qb (v3 2) (qb (v3 6) qg)))) (gn3 8) (qv (qJ (c3 (.str "no start")) (gn3 9)) (qv (qJ (zT (YL (λt=>z9 t "tuple") (v3 8)) (o3 (qfU true) (c3 (.bl true)) (lc3 (QP (v3 8)) (gn3 0) tt3 (YL (λt=>z9 t "bool") (v3 0)) [none]))) (gn3 10)) (qv (qY (CC (tb3 (v3 10)) (tb3 (o3 (qfU false) (v3 8) (v3 6)))) (qJ (lc3 (QP (v3 5)) (zl 2 (qp (gn3 0) (qp (gn3 1) zn))) tt3 (qP (qb (o3 za (o3 ix3 (v3 2) (c3 (.int 0))) (v3 0)) (qb (o3 za (o3 ix3 (v3 2) (c3 (.int 1))) (v3 1)) qg))) [none,none,some 8]) (gn3 9)) qt) (qv (qJ (cb3 S_law_answer (qb (v3 3) (qb (v3 4) (qb (v3 8) qg)))) (gn3 11)) (qv (qY (UT (tb3 (cb3 S_law_is (qb (v3 11) (qb (v3 9) qg))))) (qH (c3 (.bl false))) qt) (qY (tb3 (YL (λt=>z9 t "list") (v3 11))) (zZ (qgJ qgc (v3 11))) qt)))))))))))) (qH (c3 (.bl true))))
def qha {S_law_left:Sp3} {S_law_dealing:Sp3} {S_law_walk:Sp3} {S_law_cells:Sp3} {S_law_starts:Sp3} {S_law_asked:Sp3} {S_law_answer:Sp3} {S_law_is:Sp3} (F:Fun K "law" "law" Z5 f fd) (F_law_left:Fn3 P w K mg base k "_law_left" S_law_left) (F_law_dealing:Fn3 P w K mg base k "_law_dealing" S_law_dealing) (F_law_walk:Fn3 P w K mg base k "_law_walk" S_law_walk) (qR:Fn3 P w K mg base k "_law_cells" S_law_cells) (zo:Fn3 P w K mg base k "_law_starts" S_law_starts) (F_law_asked:Fn3 P w K mg base k "_law_asked" S_law_asked) (qE:Fn3 P w K mg base k "_law_answer" S_law_answer) (jN:Fn3 P w K mg base k "_law_is" S_law_is)  (m_len:mg "len" = none) (m_min:mg "min" = none) (m_range:mg "range" = none) (m_isinstance:mg "isinstance" = none) (m_bool:mg "bool" = none) (m_tuple:mg "tuple" = none) (m_list:mg "list" = none)
  (read:Rd sp 1 (qfI S_law_left S_law_dealing S_law_walk S_law_cells S_law_starts S_law_asked S_law_answer S_law_is) qbT):FnOk P w K mg base CX0 (k+1) f fd qiI (lSp K sp):=
 qcc (t3:=(qfI S_law_left S_law_dealing S_law_walk S_law_cells S_law_starts S_law_asked S_law_answer S_law_is)) F JM (λcdv A outer s H E hr=>(qf (YB PassesOwn.never rfl (qQ rfl m_range (qa (qx qd (qW (qal rfl) qgE rfl m_min PyProof.Rows.boot_min (qa qd (qa (qW jp QQ rfl m_len PySem.boot_len (qa (qc 0) qe)) qe)))) qe) (h1:=by intro _ _ _ h;simpa [qb,qg] using h)) (qw (i:=1) (JM.nd)) (qf (qI 2 JM.nd (qh F_law_left hr rfl (qa (qc 0) (qa (qc 1) qe)))) (qf (Z8 (i:=3) (j:=4) rfl JM.nd rfl rfl (by decide) rfl rfl (qa (qh F_law_dealing hr rfl (qa (qc 2) qe)) (qa (qh F_law_walk hr rfl (qa (qc 2) qe)) qe))) (qf (Z8 (i:=5) (j:=6) rfl JM.nd rfl rfl (by decide) rfl rfl (qa (qh qR hr rfl (qa (qc 4) qe)) (qa (qh zo hr rfl (qa (qc 3) (qa (qc 4) qe))) qe))) (qm (YB PassesOwn.never rfl (qQ rfl m_range (qa qd qe) (h1:=by intro _ _ _ h;simpa [qb,qg] using h)) (qw (i:=7) (JM.nd)) (qm (YB PassesOwn.never rfl (ZW (qh F_law_asked hr rfl (qa (qc 2) (qa (qc 6) qe)))) (qw (i:=8) (JM.nd)) (qf (qI 9 JM.nd qC) (qf (qI 10 JM.nd (JH (JN (qc 8) rfl m_isinstance rfl m_tuple PyProof.Rows.boot_tuple) (VG (YC (SG hr.units) TZ X6 (J7 ["_law_one"] [none] rfl (ZW (qc 8)) (λ_ _ _=>(jgn 0)) (λ_ _ _=>zF) (λ_ _ _=>(JN (qc 0) rfl m_isinstance rfl m_bool PyProof.Rows.boot_bool)) (by kernel_rfl) (by kernel_rfl)) (by with_unfolding_all rfl))))) (qf (zw (jpt (qip (JF (qc 10)) (qfi (qT (qhd hr.units) TZ (qc 8) (qc 6) (by with_unfolding_all rfl))))) (qm (VO 9 ["_law_p","_law_q","_law_start"] [none,none,some 8] rfl JM.nd (ZW (qc 5)) (λ_ _ _=>(jz rfl (qy (jgn 0) (qy (jgn 1) jB)))) (λ_ _ _=>zF) (λ_ _ _=>(qo (qa (qx (qu (qc 2) qd) (qc 0)) (qa (qx (qu (qc 2) qd) (qc 1)) qe)))) (by kernel_rfl) (by kernel_rfl) rfl rfl)) qN) (qf (qI 11 JM.nd (qh qE hr rfl (qa (qc 3) (qa (qc 4) (qa (qc 8) qe))))) (qf (zw (DA (JF (qh jN hr rfl (qa (qc 11) (qa (qc 9) qe))))) (qm (qr X6)) qN) (qm (zw (JF (JN (qc 11) rfl m_isinstance rfl m_list PyProof.Rows.boot_list)) (qm (YY (qbB (qc 11)))) qN))))))))))))))) (qm (qr X6)))) read
end K15
namespace K15
open PySem L2 L3 Pu
def jo:PuS (Bk.ZT):=(CS (DC (MT (λt=>z9 t "int") (bV 0)) (qlC (MT (λt=>z9 t "bool") (bV 0)))))
def qV:List PyData->Option PyData:=Pu.run jo.f 1 1 1000000000 false
def RQ:Rd (PSp qV false) 1 (Bk.ZT) ZN:=jZ jo ZN 1 1000000000 false
def Z6 {x0:PyData}:qV [x0]=WZ false (jo.f 1000000000 [.sh x0]):=id rfl
def JA:PuS (Bk.VX (PSp qV false)):=(CS (DC (MT (λt=>z9 t "tuple") (bV 0)) (DC (bO (qah false) (zR qoq (qj (bV 0) zc)) (zC 2)) (DC (zR (Q7 qV false) (qj (bO Z1 (bV 0) (zC 0)) zc)) (zR (Q7 qV false) (qj (bO Z1 (bV 0) (zC 1)) zc))))))
def qS:List PyData->Option PyData:=Pu.run JA.f 1 1 1000000000 false
def MG:Rd (PSp qS false) 1 (Bk.VX (PSp qV false)) Q4:=jZ JA Q4 1 1000000000 false
def W9 {x0:PyData}:qS [x0]=WZ false (JA.f 1000000000 [.sh x0]):=id rfl
def jR:PuS (Bk.VM (PSp qS false) (Bk.Q2 3)):=(DQ (sIf (qgM (bTb (zR (Q7 qS false) (qj (bV 1) zc)))) (CS (bBl false)) DX) (DQ (qaw (zR (fSz 2) (qj (bV 0) zc)) (M0 3 (jS (gN 2) (jS (gN 3) (jS (gN 4) MZ)))) [true] ⟨rfl⟩) (CS (DC (bCh (opB λi j=>decide (i<=j)) (opB λi j=>decide (i<j)) (zC 0) (bO Z1 (bV 1) (zC 0)) (bV 2)) (bCh (opB λi j=>decide (i<=j)) (opB λi j=>decide (i<j)) (zC 0) (bO Z1 (bV 1) (zC 1)) (bV 3))))))
def jy:List PyData->Option PyData:=Pu.run jR.f 2 5 1000000000 false
def LY:Rd (PSp jy false) 2 (Bk.VM (PSp qS false) (Bk.Q2 3)) JC:=jZ jR JC 2 1000000000 false
def MJ {x0 x1:PyData}:jy [x0,x1]=WZ false (jR.f 1000000000 [.sh x0,.sh x1,.un,.un,.un]):=id rfl
def VR:PuS (Bk.VE (PSp Pv.zO true)):=(CS (bLc (N2 (zR (Q7 Pv.zO true) (qj (bV 0) zc))) (M0 2 (jS (gN 0) (jS (gN 1) MZ))) bTt (YZ (qj (bO RJ (bO Z1 (bV 2) (zC 0)) (bV 0)) (qj (bO RJ (bO Z1 (bV 2) (zC 1)) (bV 1)) zc)) ⟨rfl⟩) [none,none,some 1] ⟨rfl⟩))
def zk:List PyData->Option PyData:=Pu.run VR.f 2 2 1000000000 true
def LR:Rd (PSp zk true) 2 (Bk.VE (PSp Pv.zO true)) VI:=jZ VR VI 2 1000000000 true
def LP {x0 x1:PyData}:zk [x0,x1]=WZ true (VR.f 1000000000 [.sh x0,.sh x1]):=id rfl
def QW:PuS (Bk.JZ (PSp zk true) (PSp jy false) (PSp qS false)):=(CS (DC (zR (Q7 qS false) (qj (bV 2) zc)) (zR qnF (qj (bLc (N2 (zR (Q7 zk true) (qj (bV 1) (qj (bV 2) zc)))) (gN 0) bTt (zR (Q7 jy false) (qj (bV 1) (qj (bV 0) zc))) [none,some 0] ⟨rfl⟩) zc))))
def qL:List PyData->Option PyData:=Pu.run QW.f 3 3 1000000000 false
def TK:Rd (PSp qL false) 3 (Bk.JZ (PSp zk true) (PSp jy false) (PSp qS false)) JX:=jZ QW JX 3 1000000000 false
def DP {x0 x1 x2:PyData}:qL [x0,x1,x2]=WZ false (QW.f 1000000000 [.sh x0,.sh x1,.sh x2]):=id rfl
def Q6:PuS (Bk.J2 (PSp qL false) (PSp zk true)):=(DQ (sIf (qgM (bTb (zR (Q7 qL false) (qj (bV 0) (qj (bV 1) (qj (bV 2) zc)))))) qpK DX) (CS (zR (Q7 zk true) (qj (bV 1) (qj (bV 2) zc)))))
def zx:List PyData->Option PyData:=Pu.run Q6.f 3 3 1000000000 true
def T8:Rd (PSp zx true) 3 (Bk.J2 (PSp qL false) (PSp zk true)) zX:=jZ Q6 zX 3 1000000000 true
def EZ {x0 x1 x2:PyData}:zx [x0,x1,x2]=WZ true (Q6.f 1000000000 [.sh x0,.sh x1,.sh x2]):=id rfl
def JU:PzS (λdx=>ZC (PSp qL false) dx):=(qph (zIf (qgM (bTb (zR (Q7 qL false) (qj (bV 0) (qj (bV 1) (qj (bV 2) zc)))))) (qdE 63 (qj (qbk "from there some cell is no word of the table") zc) ⟨rfl⟩) (zP DX)) qpz)
def jP:List PyData->Option Addr:=Pu.qnf JU.f 3 3 1000000000
def TN:∀ ts G dx,PXp jP ts G dx->ts.length=3/\ZC (PSp qL false) dx { nx:=λ_ _=>False,rt:=λ_ _=>False } (qk zX ts) G:=qe0 JU zX 3 1000000000
def RX {x0 x1 x2:PyData}:jP [x0,x1,x2]=qon (JU.f 1000000000 [.sh x0,.sh x1,.sh x2]):=id rfl
def zJ:PuS (Bk.Q9):=(DQ (sIf (bTb (bO (qah false) (bO Z1 (bV 0) (zC 0)) (qbk "cells"))) (CS (zR qih (qj (bO Z1 (bV 0) (zC 1)) zc))) DX) (DQ (sIf (bTb (bO (qah false) (bO Z1 (bV 0) (zC 0)) (qbk "block"))) (DQ (qgI (MU zc ⟨rfl⟩) 1 [] ⟨rfl⟩) (DQ (qmi (MW (qj (bO Z1 (bV 0) (zC 1)) zc)) (gN 2) (qmn (bLc (MW (qj (bO Z1 (bV 0) (zC 2)) zc)) (gN 0) bTt (YZ (qj (bV 1) (qj (bV 0) zc)) ⟨rfl⟩) [none,some 2] ⟨rfl⟩) 1 [true,false,true] ⟨rfl⟩) [true] ⟨rfl⟩) (qgt 1))) DX) (DQ (qaw (qkm ["row","column","slant","back","step"] (qj (YZ (qj (zC 0) (qj (zC 1) zc)) ⟨rfl⟩) (qj (YZ (qj (zC 1) (qj (zC 0) zc)) ⟨rfl⟩) (qj (YZ (qj (zC 1) (qj (zC 1) zc)) ⟨rfl⟩) (qj (YZ (qj (zC 1) (qj (qa0 (zC 1)) zc)) ⟨rfl⟩) (qj (bSl (bV 0) (bSp (zC 1)) (bSp (zC 3))) zc))))) (bO Z1 (bV 0) (zC 0))) (M0 2 (jS (gN 3) (jS (gN 4) MZ))) [true] ⟨rfl⟩) (CS (bLc (MW (qj (bO Z1 (bV 0) (qa0 (zC 1))) zc)) (gN 0) bTt (YZ (qj (bO (opC JD (·*·)) (bV 0) (bV 1)) (qj (bO (opC JD (·*·)) (bV 0) (bV 2)) zc)) ⟨rfl⟩) [none,some 3,some 4] ⟨rfl⟩)))))
def qR:List PyData->Option PyData:=Pu.run zJ.f 1 5 1000000000 true
def C8:Rd (PSp qR true) 1 (Bk.Q9) ZV:=jZ zJ ZV 1 1000000000 true
def R4 {x0:PyData}:qR [x0]=WZ true (zJ.f 1000000000 [.sh x0,.un,.un,.un,.un]):=id rfl
def j9:PuS (Bk.QG (Bk.j4 3) (PSp qR true)):=(DQ (qaw (zR (qo8 2) (qj (bV 0) zc)) (M0 3 (jS (gN 2) (jS (gN 3) (jS (gN 4) MZ)))) [true] ⟨rfl⟩) (DQ (qgI (zR (Q7 qR true) (qj (bV 1) zc)) 5 [false,true] ⟨rfl⟩) (DQ (qpc (qj (bLc (N2 (bV 5)) (M0 2 (jS (gN 0) (jS (gN 1) MZ))) bTt (bV 0) [none,none] ⟨rfl⟩) (qj (bLc (N2 (bV 5)) (M0 2 (jS (gN 0) (jS (gN 1) MZ))) bTt (bV 1) [none,none] ⟨rfl⟩) zc)) 6 7 [false,false,false,false,false,true] ⟨rfl⟩) (DQ (qgI (MU zc ⟨rfl⟩) 8 [] ⟨rfl⟩) (DQ (qmi (MW (qj (qa0 (zR qgb (qj (bV 6) zc))) (qj (bO (opI (·-·)) (bV 2) (zR qf4 (qj (bV 6) zc))) zc))) (gN 9) (qmn (bLc (MW (qj (qa0 (zR qgb (qj (bV 7) zc))) (qj (bO (opI (·-·)) (bV 3) (zR qf4 (qj (bV 7) zc))) zc))) (gN 0) bTt (YZ (qj (bV 1) (qj (bV 0) zc)) ⟨rfl⟩) [none,some 9] ⟨rfl⟩) 8 [false,false,false,true,false,false,false,true,false,true] ⟨rfl⟩) [false,false,true,false,false,false,true] ⟨rfl⟩) (qgt 8))))))
def zo:List PyData->Option PyData:=Pu.run j9.f 2 10 1000000000 true
def XF:Rd (PSp zo true) 2 (Bk.QG (Bk.j4 3) (PSp qR true)) QE:=jZ j9 QE 2 1000000000 true
def CO {x0 x1:PyData}:zo [x0,x1]=WZ true (j9.f 1000000000 [.sh x0,.sh x1,.un,.un,.un,.un,.un,.un,.un,.un]):=id rfl
def qE:List PyData->Option PyData:=λds=>match zx ds with|some d=>some d|none=>(jP ds).bind λC=>if C=63 then some (.str "no start") else none
def QN:=((SS (qk5 (eO Z1 (eOf (bV 1)) (eDr qfY (aOf (qj (zR qoq (qj (bV 1) zc)) zc)))) (M0 2 (jS (gN 4) (jS (gN 5) MZ))) [false,true] ⟨rfl⟩ ⟨rfl⟩) (qbC (eO RD (eOf (bV 2)) (qo4 (qar (eOf (YZ (qj (bV 4) (qj (bV 5) zc)) ⟨rfl⟩)) (qar (eO Z1 (eOf (MU (qj (YZ (qj (bO RJ (bV 4) (zC 1)) (qj (bV 5) zc)) ⟨rfl⟩) (qj (YZ (qj (bV 4) (qj (bO RJ (bV 5) (zC 1)) zc)) ⟨rfl⟩) (qj (YZ (qj (bO (opI (·-·)) (bV 4) (zC 1)) (qj (bV 5) zc)) ⟨rfl⟩) (qj (YZ (qj (bV 4) (qj (bO (opI (·-·)) (bV 5) (zC 1)) zc)) ⟨rfl⟩) zc)))) ⟨rfl⟩)) (eDr qfY (aOf (qj (zC 4) zc)))) (aOf zc))) ⟨rfl⟩)) 2 [false,false,true,false,true,true] ⟨rfl⟩ ⟨rfl⟩)):PwS 0 _)
def ZG:PwS 0 (K15.ZI Bk.qA):=(SS (qbC (eOf (MU (qj (YZ (qj (zC 0) (qj (zC 0) zc)) ⟨rfl⟩) (qj (YZ (qj (qa0 (zC 1)) (qj (zC 0) zc)) ⟨rfl⟩) (qj (YZ (qj (zC 0) (qj (zC 99) zc)) ⟨rfl⟩) (qj (YZ (qj (qa0 (zC 20)) (qj (qa0 (zC 20)) zc)) ⟨rfl⟩) (qj qoj (qj (YZ zc ⟨rfl⟩) (qj (YZ (qj (zC 0) zc) ⟨rfl⟩) (qj (YZ (qj (zC 0) (qj (zC 0) (qj (zC 0) zc))) ⟨rfl⟩) (qj (MU (qj (zC 0) (qj (zC 0) zc)) ⟨rfl⟩) (qj (qbk "00") (qj (YZ (qj (bBl true) (qj (zC 0) zc)) ⟨rfl⟩) zc))))))))))) ⟨rfl⟩)) 2 [] ⟨rfl⟩ ⟨rfl⟩) (SS (qbC (eOf (bO RD (bV 2) (MU (qj (YZ (qj (zC 0) (qj (bBl true) zc)) ⟨rfl⟩) (qj (YZ (qj (zC 0) (qj (bBl false) zc)) ⟨rfl⟩) (qj (YZ (qj (zC 0) (qj qoj zc)) ⟨rfl⟩) zc))) ⟨rfl⟩))) 2 [false,false,true] ⟨rfl⟩ ⟨rfl⟩) (SS (qmm (iOf (MW (qj (bO (opC JD (·*·)) (zC 6) (zR qo5 (qj (bO (qah true) (bV 1) (MU zc ⟨rfl⟩)) zc))) zc))) (gN 3) QN [false,true] ⟨rfl⟩ ⟨rfl⟩) (SS (wIf (cOf (bTb (bO (qah true) (bV 1) (MU zc ⟨rfl⟩)))) (qbC (eOf (bO RD (bV 2) (MU (qj (bO Z1 (bV 1) (zC 0)) (qj (bO Z1 (bV 1) (qa0 (zC 1))) (qj (YZ (qj (bO Z1 (bO Z1 (bV 1) (qa0 (zC 1))) (zC 0)) (qj (bO RJ (bO Z1 (bO Z1 (bV 1) (qa0 (zC 1))) (zC 1)) (zC 1)) zc)) ⟨rfl⟩) (qj (YZ (qj (bO (opI (·-·)) (bO Z1 (bO Z1 (bV 1) (zC 0)) (zC 0)) (zC 1)) (qj (bO Z1 (bO Z1 (bV 1) (zC 0)) (zC 1)) zc)) ⟨rfl⟩) zc)))) ⟨rfl⟩))) 2 [false,true,true] ⟨rfl⟩ ⟨rfl⟩) NV) (qlD 2)))))
def jk:Wm:=qoM ZG 2 6 true
def RC:Rd (DSp jk.W true) 2 (K15.ZI Bk.qA) jY:=qfP ZG jY 2 true
def RA {x0:PyData} {n:Nat} {Q:QD}:jk.W [x0] n Q=(2=2/\ZG.w [.un,.sh x0,.un,.un,.un,.un] n (qmI true Q)):=id rfl
def VT:PuS (K15.U8):=(DQ (sIf (bTb (MT (λt=>z9 t "str") (bV 1))) (CS (DC (MT (λt=>z9 t "str") (bV 0)) (bO (qah false) (bV 0) (bV 1)))) DX) (DQ (sIf (bOr (qgM (bTb (MT (λt=>z9 t "list") (bV 0)))) (bTb (bO (qah true) (bV 0) (bV 1)))) (CS (bBl false)) DX) (DQ (qgI (MU zc ⟨rfl⟩) 2 [] ⟨rfl⟩) (DQ (qmi (N2 (bV 0)) (gN 3) (qmn (zR qih (qj (bV 3) zc)) 2 [false,false,false,true] ⟨rfl⟩) [true] ⟨rfl⟩) (CS (DC (zR qnF (qj (bLc (N2 (bV 0)) (gN 0) bTt (MT (λt=>z9 t "tuple") (bV 0)) [none] ⟨rfl⟩) zc)) (bO (qo2 true) (bBl true) (bLc (N2 (bV 2)) (gN 0) bTt (MT (λt=>z9 t "bool") (bV 0)) [none] ⟨rfl⟩))))))))
def jN:List PyData->Option PyData:=Pu.run VT.f 2 4 1000000000 false
def NL:Rd (PSp jN false) 2 (K15.U8) U9:=jZ VT U9 2 1000000000 false
def SJ {x0 x1:PyData}:jN [x0,x1]=WZ false (VT.f 1000000000 [.sh x0,.sh x1,.un,.un]):=id rfl
def qmX (S_law_dealing:Sp3) (S_law_walk:Sp3) (S_law_cells:Sp3) (S_law_starts:Sp3) (S_law_asked:Sp3) (S_law_answer:Sp3) (S_law_is:Sp3):TS3:=(qv (QS 3 4 (qb (cb3 S_law_dealing (qb (v3 2) qg)) (qb (cb3 S_law_walk (qb (v3 2) qg)) qg))) (qv (QS 5 6 (qb (cb3 S_law_cells (qb (v3 4) qg)) (qb (cb3 S_law_starts (qb (v3 3) (qb (v3 4) qg))) qg))) (WF (zz (qb (c3 (.int 2)) qg)) (gn3 7) (WF (QP (cb3 S_law_asked (qb (v3 2) (qb (v3 6) qg)))) (gn3 8) (qv (qJ (c3 (.str "no start")) (gn3 9)) (qv (qJ (zT (YL (λt=>z9 t "tuple") (v3 8)) (o3 (qfU true) (c3 (.bl true)) (lc3 (QP (v3 8)) (gn3 0) tt3 (YL (λt=>z9 t "bool") (v3 0)) [none]))) (gn3 10)) (qv (qY (CC (tb3 (v3 10)) (tb3 (o3 (qfU false) (v3 8) (v3 6)))) (qJ (lc3 (QP (v3 5)) (zl 2 (qp (gn3 0) (qp (gn3 1) zn))) tt3 (qP (qb (o3 za (o3 ix3 (v3 2) (c3 (.int 0))) (v3 0)) (qb (o3 za (o3 ix3 (v3 2) (c3 (.int 1))) (v3 1)) qg))) [none,none,some 8]) (gn3 9)) qt) (qv (qJ (cb3 S_law_answer (qb (v3 3) (qb (v3 4) (qb (v3 8) qg)))) (gn3 11)) (qv (qY (UT (tb3 (cb3 S_law_is (qb (v3 11) (qb (v3 9) qg))))) (qH (c3 (.bl false))) qt) (qY (tb3 (YL (λt=>z9 t "list") (v3 11))) (zZ (qgJ qgc (v3 11))) qt))))))))))
def U5:=((SS (qbC (eOf (qbk "no start")) 9 [] ⟨rfl⟩ ⟨rfl⟩) (SS (qbC (eOf (DC (MT (λt=>z9 t "tuple") (bV 8)) (bO (qfH true) (bBl true) (bLc (N2 (bV 8)) (gN 0) bTt (MT (λt=>z9 t "bool") (bV 0)) [none] ⟨rfl⟩)))) 10 [false,false,false,false,false,false,false,false,true] ⟨rfl⟩ ⟨rfl⟩) (SS (wIf (cOf (qo3 (bTb (bV 10)) (bTb (bO (qfH false) (bV 8) (bV 6))))) (qbC (eOf (bLc (N2 (bV 5)) (M0 2 (jS (gN 0) (jS (gN 1) MZ))) bTt (YZ (qj (bO RJ (bO Z1 (bV 2) (zC 0)) (bV 0)) (qj (bO RJ (bO Z1 (bV 2) (zC 1)) (bV 1)) zc)) ⟨rfl⟩) [none,none,some 8] ⟨rfl⟩)) 9 [false,false,false,false,false,true,false,false,true] ⟨rfl⟩ ⟨rfl⟩) NV) (SS (qbC (eOf (zR (Q7 qE true) (qj (bV 3) (qj (bV 4) (qj (bV 8) zc))))) 11 [false,false,false,true,true,false,false,false,true] ⟨rfl⟩ ⟨rfl⟩) (SS (wIf (cOf (qgM (bTb (zR (Q7 jN false) (qj (bV 11) (qj (bV 9) zc)))))) (qoD (eOf (bBl false))) NV) (wIf (cOf (bTb (MT (λt=>z9 t "list") (bV 11)))) (qoT 11) NV)))))):PwS 2 _)
def X9:=((qmm (iS (eDr (dSp jk true) (aOf (qj (bV 6) zc)))) (gN 8) U5 [false,false,false,false,false,false,true] ⟨rfl⟩ ⟨rfl⟩):PwS 2 _)
def qbE:PwS 2 (qmX Bk.jr Bk.ZF (PSp qR true) (PSp zo true) (DSp jk.W true) (PSp qE true) (PSp jN false)):=(SS (qmJ (qar (eDr KR (aOf zc)) (qar (eDr qio (aOf zc)) (aOf zc))) 3 4 [] ⟨rfl⟩ ⟨rfl⟩) (SS (qmJ (aOf (qj (zR (Q7 qR true) (qj (bV 4) zc)) (qj (zR (Q7 zo true) (qj (bV 3) (qj (bV 4) zc))) zc))) 5 6 [false,false,false,true,true] ⟨rfl⟩ ⟨rfl⟩) (qmm (iOf (MW (qj (zC 2) zc))) (gN 7) X9 [] ⟨rfl⟩ ⟨rfl⟩)))
def qiV (h:∀ k:Nat,k<=60->qbE.w [.un,.sh (.int k),.un,.un,.un,.un,.un,.un,.un,.un,.un,.un] 0 okW):Rd WY 1 (K15.qfI Bk.ZU Bk.jr Bk.ZF (PSp qR true) (PSp zo true) (DSp jk.W true) (PSp qE true) (PSp jN false)) qbT:=qcl qbE qbT 6 9 ⟨by decide,by decide⟩ rfl h
end K15
namespace K15
open PySem L2 L3 Bk
def qb2 {d:Nat} (h:d<=5):L2.atI [T.int 1,.int 2,.int 4,.int 8,.int 16,.int 32] (d:Int)=some (.int (2 ^ d)):=by
 have:d=0\/d=1\/d=2\/d=3\/d=4\/d=5:=by omega
 rcases this with rfl|rfl|rfl|rfl|rfl|rfl<;>rfl
def SB {s l1 l2:Str} {xs:List T} {R S:TS3} {d:Ends3} {τ:St3} {G:Gp} (hτ:τ[0]?=some (some (T.tup (.str s::xs)))):qv (qY (tb3 (o3 (in3 false) (o3 ix3 (v3 0) (c3 (.int 0))) (qP (qb (c3 (.str l1)) (qb (c3 (.str l2)) qg))))) R qt) S d τ G=(if s=l1\/s=l2 then R { d with nx:=S d } τ G else S d τ G):=by
 have s2:[T.str l1,T.str l2].length<=sizeLine:=by simp [sizeLine_eq]
 simp only [qv,qY,tb3,o3,v3,hτ,c3,L3.ixT,ND,qP,qb,qg,in3,qt];by_cases e1:s=l1
 ·subst e1;simp [jh,eqF,sizeLine_eq]
 ·have e1':¬ l1=s:=λz=>e1 z.symm;by_cases e2:s=l2
  ·subst e2;simp [jh,eqF,sizeLine_eq]
  ·have e2':¬ l2=s:=λz=>e2 z.symm;simp [jh,eqF,sizeLine_eq,e1,e2,e1',e2']
def YW (n:Nat):∀ ts G q,j4 (n+1) ts G q->ts.length=1/\J0 (j4 n) (SO q) (qk ["_law_dealing_here","_law_two","_law_one","_law_other"] ts) G:=by
 rintro ts G q ⟨d,rfl,hd,ok,h⟩;refine ⟨rfl,?_⟩;have h0:=h G Ex.refl;unfold J0;cases d with
 |skew r c b x y=>
  show qv _ _ _ [some (.tup [.str "skew",.int r,.int c,.int b,.int x,.int y]),none,none,none] G;rw [SB rfl,if_pos (.inl rfl)];simp [sl3,qH,D6,sp3,v3,c3,L3.U0,HT.sIx];exact h0
 |rests r c b x=>
  show qv _ _ _ [some (.tup [.str "rests",.int r,.int c,.int b,.int x]),none,none,none] G;rw [SB rfl,if_pos (.inr rfl)];simp [sl3,qH,D6,sp3,v3,c3,L3.U0,HT.sIx];exact h0
 |bits hh l ms=>
  obtain ⟨k1,k2,k3,_⟩:=ok;show qv _ _ _ [some (.tup [.str "bits",.int hh,.int l,.tup (ms.map T.int)]),none,none,none] G;rw [SB rfl,if_neg (by decide),DL rfl,if_pos rfl];simp [qv,qJ,gn3,qH,VV,qY,zZ,WL,qt,v3,c3,o3,u3,JP,L3.ixT,L3.ixR,za,iI,iC,iB,zL,zt,CQ,tb3,CC,or3,UT,zT,LD,Z2,if3,ch3,cb3,qb,qg,YL,tyT,z9,qP,ja,D6,np3,sp3,zl,qp,zn,jT,WC,QS,qk,bm3,EU,DM,YA,CN,XM,LJ,UV,q0,QM,WM,KD,KM,U0,HT.sIx,zG,in3,jh,eqF,gu,sizeLine_eq,getElem?_cons_zero,getElem?_cons_succ];intro p hp;have ix:∀ k:Nat,k<=5->L2.atI [T.int 1,.int 2,.int 4,.int 8,.int 16,.int 32] (k:Int)=some (.int (2 ^ k)):=λk hk=>qb2 hk;simp [qv,qJ,gn3,qH,VV,qY,zZ,WL,qt,v3,c3,o3,u3,JP,L3.ixT,L3.ixR,za,iI,iC,iB,zL,zt,CQ,tb3,CC,or3,UT,zT,LD,Z2,if3,ch3,cb3,qb,qg,YL,tyT,z9,qP,ja,D6,np3,sp3,zl,qp,zn,jT,WC,QS,qk,bm3,EU,DM,YA,CN,XM,LJ,UV,q0,QM,WM,KD,KM,U0,HT.sIx,zG,in3,jh,eqF,gu,sizeLine_eq,getElem?_cons_zero,getElem?_cons_succ,ND,qbw,qe1,qn2,ix hh (by omega),ix l (by omega),ix ms.length (by omega)];exact h _ (QB hp)
 |table b cells=>
  have L:=Dl.lims ok;obtain ⟨k1,k2,k3,k4,c,k5,k6,k7⟩:=ok;cases cells with
  |nil=>simp at k3
  |cons row cells=>
   show qv _ _ _ [some (.tup [.str "table",.int b,.tup (qbi row::cells.map qbi)]),none,none,none] G;rw [SB rfl,if_neg (by decide),DL rfl,if_neg (by decide),DL rfl,if_pos rfl];simp [qbi,ND,qbw,qe1,qv,qJ,gn3,qH,VV,qY,zZ,WL,qt,v3,c3,o3,u3,JP,L3.ixT,L3.ixR,za,iI,iC,iB,zL,zt,CQ,tb3,CC,or3,UT,zT,LD,Z2,if3,ch3,cb3,qb,qg,YL,tyT,z9,qP,ja,D6,np3,sp3,zl,qp,zn,jT,WC,QS,qk,bm3,EU,DM,YA,CN,XM,LJ,UV,q0,QM,WM,KD,KM,U0,HT.sIx,zG,in3,jh,eqF,gu,sizeLine_eq,getElem?_cons_zero,getElem?_cons_succ];simpa [CZ,Dl.R,Dl.C,Dl.B] using h0
 |joined d e=>
  have Ld:=Dl.lims ok.1;have Le:=Dl.lims ok.2.1;have:1<=n:=by simp [Dl.dep] at hd;omega
  obtain ⟨m,rfl⟩:∃ m,n=m+1:=⟨n-1,by omega⟩
  show qv _ _ _ [some (.tup [.str "joined",d.t,e.t]),none,none,none] G;rw [SB rfl,if_neg (by decide),DL rfl,if_neg (by decide),DL rfl,if_neg (by decide)];refine zN λnx1 q1=>?_;simp only [QS,qb,qg,cb3,o3,v3,c3,L3.ixT,qbw,qe1,getElem?_cons_zero];refine ⟨d,rfl,by simp [Dl.dep] at hd;omega,ok.1,λG1 E1=>?_⟩;refine ⟨e,rfl,by simp [Dl.dep] at hd;omega,ok.2.1,λG2 E2=>?_⟩;simp;rw [q1];have e1:=Le.r1;have e2:=Le.r2;have e3:=Le.c1;have e4:=Le.c2;have e5:=Le.b1;have e6:=Le.b2;simp [CZ,lc3,qbD,YK,qbj,WR,tt3,cap,qv,qJ,gn3,qH,VV,qY,zZ,WL,qt,v3,c3,o3,u3,JP,L3.ixT,L3.ixR,za,iI,iC,iB,zL,zt,CQ,tb3,CC,or3,UT,zT,LD,Z2,if3,ch3,cb3,qb,qg,YL,tyT,z9,qP,ja,D6,np3,sp3,zl,qp,zn,jT,WC,QS,qk,bm3,EU,DM,YA,CN,XM,LJ,UV,q0,QM,WM,KD,KM,L2.atI,ixN,U0,HT.sIx,zG,in3,jh,eqF,gu,sizeLine_eq,getElem?_cons_zero,getElem?_cons_succ];refine ⟨cm (by omega) (by omega),cm (by omega) (by omega),cm (by omega) (by omega),λp hp=>?_⟩;exact h _ ((E1.trans E2).trans (QB hp))
end K15
namespace K15
open PySem L2 L3 Pu Pv
open Bk (Wk Dl Dr jF ji)
def s1:z9 "int" "int" = true:=rfl
def s2:z9 "int" "bool" = false:=rfl
def s3:z9 "tuple" "tuple" = true:=rfl
def t2:((1+1:Nat):Int)=2:=rfl
def qhs {i:Int}:qV [.int i]=some (.bool true):=by
 rw [Z6]
 try simp only [Pu.pwA,jo,s1,s2]
def qir {p:Int×Int}:qS [pD p]=some (.bool true):=by
 rw [W9]
 try simp only [Pu.pwA,JA,pD,s3,t2,qhs]
def inT (d:Dl) (p:Int×Int):Prop:=Bk.Inn d p.1 p.2
def inW (d:Dl) (p:Int×Int):Bool:=(decide (0<=p.1)&&decide (p.1<d.R))&&(decide (0<=p.2)&&decide (p.2<d.C))
def qjq {d:Dl} {p:Int×Int} (h:inW d p=true):inT d p:=by
 simp only [inW,Bool.and_eq_true,decide_eq_true_eq] at h;exact ⟨h.1.1,h.1.2,h.2.1,h.2.2⟩
def qjQ {d:Dl} {p:Int×Int} (h:inT d p):inW d p=true:=by
 obtain ⟨h1,h2,h3,h4⟩:=h;simp only [inW,Bool.and_eq_true,decide_eq_true_eq];exact ⟨⟨h1,h2⟩,h3,h4⟩
def qob {d:Dl} {p:Int×Int} (hp:d.dep<=2) (ok:d.Ok):jy [dlD d,pD p]=some (.bool (inW d p)):=by
 have sz:=qlK (n:=2) hp ok;have e:=qir (p:=p);rw [MJ];simp only [pD] at e;unfold inW;by_cases h1:0<=p.1
 ·by_cases h2:p.1<d.R
  ·by_cases h3:0<=p.2
   ·try simp only [Pu.pwA,jR,pD,e,qbz,sz,siz,h1,h2,h3,decide_true,Bool.true_and]
   ·try simp only [Pu.pwA,jR,pD,e,qbz,sz,siz,h1,h2,h3,decide_true,decide_false,Bool.true_and,Bool.false_and]
  ·try simp only [Pu.pwA,jR,pD,e,qbz,sz,siz,h1,h2,decide_true,decide_false,Bool.true_and,Bool.false_and]
 ·try simp only [Pu.pwA,jR,pD,e,qbz,sz,siz,h1,decide_false,Bool.false_and]
def bk (d:Dl) (p:Int×Int):Int:=d.bank p.1 p.2
def sh (s:Int×Int) (cs:List (Int×Int)):List (Int×Int):=cs.map λp=>(s.1+p.1,s.2+p.2)
def qoO {w:Wk} {s:Int×Int} (ok:Big w):zk [Wk.d w,pD s]=some (.list ((sh s w.pc).map pD)):=by
 have hl:=qa8 ok;rw [LP]
 try simp only [Pu.pwA,VR,W4 ok]
 rw [QV (ds:=w.pc.map pD) (fs:=(sh s w.pc).map pD)]
 ·try simp only [Pu.pwA]
 ·try simp only [Pu.pwA,W4 ok]
 ·rw [sh,map_map];refine jd λp hp=>?_
  try simp only [Pu.pwA,Y6,pD,Function.comp_def]
 ·simp [sh];omega
def isS (d:Dl) (w:Wk) (s:Int×Int):Bool:=(sh s w.pc).all (inW d)
def qg0 {d:Dl} {w:Wk} {s:Int×Int} (hp:d.dep<=2) (okd:d.Ok) (ok:Big w):qL [dlD d,Wk.d w,pD s]=some (.bool (isS d w s)):=by
 have hl:=qa8 ok;rw [DP]
 try simp only [Pu.pwA,QW,qir]
 rw [QV (ds:=(sh s w.pc).map pD) (fs:=((sh s w.pc).map (inW d)).map PyData.bool)]
 ·try simp only [Pu.pwA,LN]
  rw [List.all_map];rfl
 ·try simp only [Pu.pwA,qoO ok]
 ·rw [map_map];refine jd λq hq=>?_
  try simp only [Pu.pwA,Y6,qob hp okd,Function.comp_def]
 ·simp [sh];omega
def qdh {d:Dl} {w:Wk} {s:Int×Int} (h:isS d w s=true):∀ q∈sh s w.pc,inT d q:=λq hq=>qjq (List.all_eq_true.mp h q hq)
def qeL {d:Dl} {w:Wk} {s:Int×Int} (h:∀ q∈sh s w.pc,inT d q):isS d w s=true:=List.all_eq_true.mpr λq hq=>qjQ (h q hq)
def qpI {d:Dl} {w:Wk} {s:Int×Int} (hp:d.dep<=2) (okd:d.Ok) (ok:Big w) (h:∀ q∈sh s w.pc,inT d q):zx [dlD d,Wk.d w,pD s]=some (.list ((sh s w.pc).map pD)):=by
 rw [EZ]
 try simp only [Pu.pwA,Q6,qg0 hp okd ok,qeL h,qoO ok]
end K15
namespace K15
open PySem L2 L3 Pu Pv
open Bk (Wk Dl Dr jF ji VW lnD lnA)
def TY {i:Nat} {es ds:List PyData} {ρ:Rho} (h:slot ρ i=some ds) (hl:ds.length+es.length<=16777216):qit i (.list es) ρ=some (.nx (ρ.set i (.ow (ds++es)))):=by unfold qit;rw [h];simp only [Option.bind_some];exact zA hl
def qfl {s:Str} {m:Int}:slD (.tuple [.str s,.int m]) (some 1) (some 3)=some (.tuple [.int m]):=SY (by simp [HT.sIx])
def qgy {s:Str} {u v m:Int}:slD (.tuple [.str s,.int u,.int v,.int m]) (some 1) (some 3)=some (.tuple [.int u,.int v]):=SY (by simp [HT.sIx])
def qn3 {x y:PyData}:L2.atI [x,y] (-1)=some y:=rfl
def qoa {x y z w:PyData}:L2.atI [x,y,z,w] (-1)=some w:=rfl
def qoV {w:Wk} (ok:Big w):qR [Wk.d w]=some (.list (w.pc.map pD)):=by
 rw [R4];cases w with
 |cells ps=>
  try simp only [Pu.pwA,zJ,Wk.d,eq_self,Wk.pc]
 |block h v=>
  obtain ⟨h1,h2⟩:=ok
  try simp (disch:=omega) only [Pu.pwA,zJ,Wk.d,eq_self,L3.YD,Wk.pc,qbl,Int.toNat_natCast]
  rw [Option.bind_assoc];refine TU (Q:=λo=>WZ true o=_) (QU 0 h) (λi ρ=>∃ s2 s3 s4,ρ=[.sh (Wk.d (.block h v)),.ow ((ji i v).map pD),s2,s3,s4]) ⟨_,_,_,rfl⟩ ?_ ?_
  ·rintro i x ρ hx ⟨s2,s3,s4,rfl⟩;obtain ⟨hi,rfl⟩:=qbZ hx
   try simp only [Pu.pwA,Wk.d]
   rw [QV (ds:=(QU 0 v).map PyData.int) (fs:=((List.range v).map λ(q:Nat)=>((i:Int),(q:Int))).map pD)]
   rotate_left
   ·try simp (disch:=omega) only [Pu.pwA,qbl,Int.toNat_natCast]
   ·unfold QU;rw [map_map,map_map];refine jd λq hq=>?_
    try simp only [Pu.pwA,Y6,pD,Int.zero_add,Function.comp_def]
   ·simp;omega
   try simp only [Pu.pwA]
   rw [TY (ds:=(ji i v).map pD) rfl (by
    have:=Nat.mul_le_mul (show i<=1000 by omega) h2;rw [length_map,Bk.VL,length_map,length_map,length_range];omega)]
   try simp only [Pu.pwA]
   rw [Bk.W7,List.map_append];exact ⟨_,_,_,rfl⟩
  ·rintro ρ ⟨s2,s3,s4,rfl⟩;rw [VF]
   try simp only [Pu.pwA]
 |step d a m=>
  obtain ⟨h1,h2,h3⟩:=ok;have e5:qbL ["row","column","slant","back","step"] [.tuple [.int 0,.int 1],.tuple [.int 1,.int 0],.tuple [.int 1,.int 1],.tuple [.int 1,.int (-1)],.tuple [.int d,.int a]] "step" = some (.tuple [.int d,.int a]):=rfl
  try simp only [Pu.pwA,zJ,Wk.d,L3.VY,L3.VS,Wk.pc,qgy,e5]
  rw [QV (ds:=(QU 0 m).map PyData.int) (fs:=(jF d a m).map pD)]
  ·try simp only [Pu.pwA]
  ·try simp (disch:=omega) only [Pu.pwA,qoa,qbl,Int.toNat_natCast]
  ·unfold jF QU;rw [map_map,map_map];refine jd λt ht=>?_;have:=mem_range.mp ht
   try simp (disch:=omega) only [Pu.pwA,Y6,pD,XT,Int.zero_add,Function.comp_def]
  ·simp [jF];omega
 |line k m=>
  obtain ⟨h1,h2⟩:=ok;have key:∀ (d a:Int),(-1000<=d/\d<=1000)->(-1000<=a/\a<=1000)->∀ s:Str,Str.ofString "cells" ≠ s->Str.ofString "block" ≠ s->qbL ["row","column","slant","back","step"] [.tuple [.int 0,.int 1],.tuple [.int 1,.int 0],.tuple [.int 1,.int 1],.tuple [.int 1,.int (-1)],.tuple [.int (m:Int)]] s=some (.tuple [.int d,.int a])->WZ true (zJ.f 1000000000 [.sh (.tuple [.str s,.int (m:Int)]),.un,.un,.un,.un])=some (.list ((jF d a m).map pD)):=by
   intro d a hd ha s n1 n2 e5;have n1':¬ s=Str.ofString "cells" := λz=>n1 z.symm;have n2':¬ s=Str.ofString "block" := λz=>n2 z.symm
   try simp only [Pu.pwA,zJ,n1',n2',qfl,e5]
   rw [QV (ds:=(QU 0 m).map PyData.int) (fs:=(jF d a m).map pD)]
   ·try simp only [Pu.pwA]
   ·try simp (disch:=omega) only [Pu.pwA,qn3,qbl,Int.toNat_natCast]
   ·unfold jF QU;rw [map_map,map_map];refine jd λt ht=>?_;have:=mem_range.mp ht
    try simp (disch:=omega) only [Pu.pwA,Y6,pD,XT,Int.zero_add,Function.comp_def]
   ·simp [jF];omega
  have:(k=0\/k=1\/k=2\/k=3):=by omega
  rcases this with rfl|rfl|rfl|rfl
  ·exact key 0 1 (by omega) (by omega) "row" (by decide) (by decide) rfl
  ·exact key 1 0 (by omega) (by omega) "column" (by decide) (by decide) rfl
  ·exact key 1 1 (by omega) (by omega) "slant" (by decide) (by decide) rfl
  ·exact key 1 (-1) (by omega) (by omega) "back" (by decide) (by decide) rfl
def qd8 {i j:Nat} {m:List Bool} {x y:List PyData} {ρ:Rho}:qd5 i j m [.list x,.list y] ρ=some (.nx (((dm m ρ).set i (.sh (.list x))).set j (.sh (.list y)))):=id rfl
def qnh {d:Dl} {w:Wk} (hp:d.dep<=2) (okd:d.Ok) (ok:Big w) (hc:Cb w.pc):zo [dlD d,Wk.d w]=some (.list ((stI d.R d.C w.pc).map pD)):=by
 have hl:=qa8 ok;have l:=Dl.lims okd;have:=l.r1;have:=l.r2;have:=l.c1;have:=l.c2;obtain ⟨⟨h1,h2,h3⟩,⟨h4,h5,h6⟩⟩:=hc.lim;rw [CO]
 try simp only [Pu.pwA,j9,qhN,qlK (n:=2) hp okd,siz,qoV ok]
 rw [QV (ds:=w.pc.map pD) (fs:=(dn w.pc).map PyData.int) rfl (by
  rw [dn,map_map];refine jd λp hp=>?_
  try simp only [Pu.pwA,Y6,pD,Function.comp_def]) (by simp [dn];omega)]
 try simp only [Pu.pwA]
 rw [QV (ds:=w.pc.map pD) (fs:=(al w.pc).map PyData.int) rfl (by
  rw [al,map_map];refine jd λp hp=>?_
  try simp only [Pu.pwA,Y6,pD,Function.comp_def]) (by simp [al];omega)]
 try simp only [Pu.pwA]
 have n1:dn w.pc≠[]:=by simp [dn,hc.ne]
 have n2:al w.pc≠[]:=by simp [al,hc.ne]
 try simp (disch:=omega) only [Pu.pwA,qd8,qhc n1,qhS n1,qoF]
 have row:∀ i:Int,(QU (-(mn (al w.pc))) (d.C-mx (al w.pc) - -(mn (al w.pc))).toNat).length<=4096:=λi=>by rw [VF];omega
 have rows:(QU (-(mn (dn w.pc))) (d.R-mx (dn w.pc) - -(mn (dn w.pc))).toNat).length<=4096:=by rw [VF];omega
 have fl:∀ i,(((QU (-(mn (dn w.pc))) (d.R-mx (dn w.pc) - -(mn (dn w.pc))).toNat).take i).flatMap λi=>(QU (-(mn (al w.pc))) (d.C-mx (al w.pc) - -(mn (al w.pc))).toNat).map λj=>(i,j)).length<=i*4096:=λi=>by
  rw [KG];exact Nat.mul_le_mul (by rw [List.length_take];omega) (row 0)
 refine TU (Q:=λo=>WZ true o=_) (QU (-(mn (dn w.pc))) (d.R-mx (dn w.pc) - -(mn (dn w.pc))).toNat) (λi ρ=>∃ s9,ρ=[.sh (dlD d),.sh (Wk.d w),.sh (.int d.R),.sh (.int d.C),.sh (.int d.B),.sh (.list (w.pc.map pD)),.sh (.list ((dn w.pc).map PyData.int)),.sh (.list ((al w.pc).map PyData.int)),.ow ((((QU (-(mn (dn w.pc))) (d.R-mx (dn w.pc) - -(mn (dn w.pc))).toNat).take i).flatMap λi=>(QU (-(mn (al w.pc))) (d.C-mx (al w.pc) - -(mn (al w.pc))).toNat).map λj=>(i,j)).map pD),s9]) ⟨_,rfl⟩ ?_ ?_
 ·rintro i x ρ hx ⟨s9,rfl⟩;have hi:=(List.getElem?_eq_some_iff.mp hx).1
  try simp only [Pu.pwA]
  rw [QV (ds:=(QU (-(mn (al w.pc))) (d.C-mx (al w.pc) - -(mn (al w.pc))).toNat).map PyData.int) (fs:=((QU (-(mn (al w.pc))) (d.C-mx (al w.pc) - -(mn (al w.pc))).toNat).map λj=>(x,j)).map pD)]
  rotate_left
  ·try simp (disch:=omega) only [Pu.pwA,qhc n2,qhS n2,qoF]
  ·rw [map_map];refine jd λq hq=>?_
   try simp only [Pu.pwA,Y6,pD,Function.comp_def]
  ·rw [length_map,length_map];have:=row 0;omega
  try simp only [Pu.pwA]
  rw [TY rfl (by
   rw [length_map,length_map,length_map];have a:=fl i;have b:=row 0;have:=Nat.mul_le_mul (show i<=4095 by omega) (Nat.le_refl 4096);omega)]
  try simp only [Pu.pwA]
  rw [List.take_add_one,hx,Option.toList_some,List.flatMap_append,List.map_append];exact ⟨.sh (.int x),by simp⟩
 ·rintro ρ ⟨s9,rfl⟩;rw [List.take_length]
  try simp only [Pu.pwA]
  rfl
def qnL {R C:Int} {cs:List (Int×Int)} {s:Int×Int} (h:s∈stI R C cs) {p:Int×Int} (hp:p∈cs):(0<=s.1+p.1/\s.1+p.1<R)/\(0<=s.2+p.2/\s.2+p.2<C):=by
 obtain ⟨i,hi,h⟩:=List.mem_flatMap.mp h;obtain ⟨j,hj,rfl⟩:=mem_map.mp h;have a:=KB hi;have b:=KB hj;have m1:=LV (show p.1∈dn cs from mem_map.mpr ⟨p,hp,rfl⟩);have m2:=qbH (show p.1∈dn cs from mem_map.mpr ⟨p,hp,rfl⟩);have m3:=LV (show p.2∈al cs from mem_map.mpr ⟨p,hp,rfl⟩);have m4:=qbH (show p.2∈al cs from mem_map.mpr ⟨p,hp,rfl⟩);simp only;omega
def qm8 {d:Dl} {cs:List (Int×Int)} {s:Int×Int} (h:s∈stI d.R d.C cs):∀ q∈sh s cs,inT d q:=λq hq=>by
 obtain ⟨p,hp,rfl⟩:=mem_map.mp hq;obtain ⟨⟨h1,h2⟩,h3,h4⟩:=qnL h hp;exact ⟨h1,h2,h3,h4⟩
def XS {t:Nat} {u:Int} (h:t<=16) (hu:-16<=u/\u<=16):-256<=(t:Int)*u/\(t:Int)*u<=256:=by
 have a:(t:Int)*u<=(t:Int)*16:=Int.mul_le_mul_of_nonneg_left hu.2 (Int.natCast_nonneg _);have b:(t:Int)*(-16)<=(t:Int)*u:=Int.mul_le_mul_of_nonneg_left hu.1 (Int.natCast_nonneg _);omega
def qkW {w:Wk} (ok:w.Ok):Cb w.pc:=by
 have h:=Bk.qaT ok;refine ⟨λe=>by rw [e] at h;simp at h,λp hp=>?_⟩;cases w with
 |cells ps=>have:=ok.2.2.2 p hp;omega
 |block h v=>
  obtain ⟨i,hi,hq⟩:=List.mem_flatMap.mp hp;obtain ⟨j,hj,rfl⟩:=mem_map.mp hq;have:=mem_range.mp hi;have:=mem_range.mp hj;obtain ⟨_,_,h3,h4,_⟩:=ok;simp only;omega
 |step u v m=>
  obtain ⟨t,ht,rfl⟩:=mem_map.mp hp;have:=mem_range.mp ht;obtain ⟨h1,h2,h3,h4⟩:=ok;have b1:=XS (t:=t) (u:=u) (by omega) h1;have b2:=XS (t:=t) (u:=v) (by omega) h2;simp only;omega
 |line k m=>
  obtain ⟨t,ht,rfl⟩:=mem_map.mp hp;have:=mem_range.mp ht;obtain ⟨h1,h2,h3⟩:=ok;have b0:(-16<=Bk.lnD k/\Bk.lnD k<=16)/\(-16<=Bk.lnA k/\Bk.lnA k<=16):=by
   match k,h1 with
   |0,_=>decide
   |1,_=>decide
   |2,_=>decide
   |3,_=>decide
  have b1:=XS (t:=t) (u:=Bk.lnD k) (by omega) b0.1;have b2:=XS (t:=t) (u:=Bk.lnA k) (by omega) b0.2;simp only;omega
def SQ {n:Bool} {ps:List (Int×Int)}:eqD n (.list (ps.map pD)) (.list [])=some (.bool (if n then !decide (ps=[]) else decide (ps=[]))):=by
 have dp:∀ ps:List (Int×Int),CT (ps.map pD)<=1:=λps=>by
  induction ps with
  |nil=>simp [CT]
  |cons p ps ih=>simp only [map_cons,CT,pD,dpt];omega
 have h:qaX (.list (ps.map pD)) (.list [])=none:=rfl;unfold eqD;rw [h];simp only;rw [zA (by have:=dp ps;simp only [dpt];omega)];cases ps<;>simp [zH,QJ]
end K15
namespace K15
open PySem L2 L3 Pu Pv
open Bk (Wk Dl)
def qfr {ds:List PyData} {d:PyData} (h:qE ds=some d):ds.length=3:=by
 by_cases c:ds.length=3
 ·exact c
 ·have e1:zx ds=none:=if_neg c;have e2:jP ds=none:=if_neg c;unfold qE at h;rw [e1,e2] at h;cases h
def XV:Rd (PSp qE true) 3 (jx (PSp zx true) (PXp jP)) QC:=by
 rintro ts G q ⟨D,ds,d,hs,hd,hf,h⟩;have hl:=qfr hf;have tl:ts.length=3:=hs.length.trans hl
 match ts,tl with
 |[t0,t1,t2],_=>
 refine ⟨rfl,?_⟩;show jx _ _ _ [some t0,some t1,some t2,none,none,none,none] G;unfold jx;simp only [qv,qJ,qP,qb,c3,qg,zl,qp,gn3,zn,set_cons_succ,set_cons_zero];refine ⟨by decide,rfl,?_⟩;unfold qE at hf;cases e:zx ds with
 |some d'=>
  rw [e] at hf;cases hf;refine .inl ?_;simp only [qJ,cb3,qb,v3,qg,getElem?_cons_zero,getElem?_cons_succ];refine ⟨D,ds,_,hs,hd,e,λx G' E hx hn=>?_⟩;simp only [qv,qY,tb3,o3,CQ,v3,c3,gn3,qH,set_cons_succ,set_cons_zero,getElem?_cons_zero,getElem?_cons_succ];exact h x G' E hx hn
 |none=>
  rw [e] at hf;obtain ⟨C,e2,hf⟩:=obb hf;split at hf
  ·rename_i hC;subst hC;cases hf;refine .inr ?_;simp only [qgv,qb,v3,qg,getElem?_cons_zero,getElem?_cons_succ];refine ⟨D,ds,63,hs,hd,e2,λG' E=>⟨by decide,λex hex=>?_⟩⟩;have gx:gu G' ex (.exn 63) ex=some (.exn 63):=qq;have E2:Ex G (gu G' ex (.exn 63)):=E.trans (QB hex);simp only [qv,qJ,qY,tb3,o3,CQ,v3,c3,gn3,qH,qt,qgr,exT,gx,set_cons_succ,set_cons_zero,getElem?_cons_zero,getElem?_cons_succ];have l1:List.lookup (some (63:Addr)) [(none,false),(some 63,false)]=some false:=rfl;have l2:List.lookup (some (63:Addr)) [(none,false),(some 63,true)]=some true:=rfl;simp only [or3,UT,tb3,qgr,exT,gx,l1,l2,v3,getElem?_cons_zero,getElem?_cons_succ,Bool.false_eq_true,if_false,Bool.not_true,Bool.not_false];exact h _ _ E2 (.str _) λ_=>.inl rfl
  ·cases hf
def s4:z9 "str" "str" = true:=rfl
def s5:z9 "list" "list" = true:=rfl
def s6:z9 "str" "list" = false:=rfl
def s7:z9 "list" "str" = false:=rfl
def qpB {x y z:PyData} (h:qL [x,y,z]=some (.bool false)):zx [x,y,z]=none/\jP [x,y,z]=some 63:=by
 constructor
 ·rw [EZ]
  try simp only [Pu.pwA,Q6,h]
  rfl
 ·rw [RX]
  try simp only [Pu.pwA,JU,qjC,qnx,qb9,qlk,Option.map_some,Option.bind_some,h]
def ql6 {x y z:PyData} (h:qL [x,y,z]=some (.bool false)):qE [x,y,z]=some (.str "no start"):=by
 obtain ⟨h1,h2⟩:=qpB h;unfold qE;rw [h1,h2];rfl
def qpF {d:Dl} {w:Wk} {s:Int×Int} (hp:d.dep<=2) (okd:d.Ok) (ok:Big w) (h:∀ q∈sh s w.pc,inT d q):qE [dlD d,Wk.d w,pD s]=some (.list ((sh s w.pc).map pD)):=by
 unfold qE;rw [qpI hp okd ok h]
def qnU {x y z:PyData} (h:qS [z]=some (.bool false)):qL [x,y,z]=some (.bool false):=by
 rw [DP]
 try simp only [Pu.pwA,QW,h]
def odd:List PyData:=[.none,.tuple [],.tuple [.int 0],.tuple [.int 0,.int 0,.int 0],.list [.int 0,.int 0],.str "00",.tuple [.bool true,.int 0],.tuple [.int 0,.bool true],.tuple [.int 0,.bool false],.tuple [.int 0,.none]]
def Ask (x:PyData):Prop:=(∃ p:Int×Int,x=pD p)\/x∈odd
def qnq {b:Bool}:qV [.bool b]=some (.bool false):=by
 have e1:z9 "bool" "int" = true:=rfl;have e2:z9 "bool" "bool" = true:=rfl;rw [Z6]
 try simp only [Pu.pwA,jo,e1,e2,Bool.not_true]
def qnQ:qV [.none]=some (.bool false):=by
 have e1:z9 "NoneType" "int" = false:=rfl;rw [Z6]
 try simp only [Pu.pwA,jo,e1]
def NN {x:PyData} (h:x∈odd):qS [x]=some (.bool false):=by
 have e1:z9 "NoneType" "tuple" = false:=rfl;have e2:z9 "list" "tuple" = false:=rfl;have e3:z9 "str" "tuple" = false:=rfl;have n0:decide (((0:Nat):Int)=2)=false:=rfl;have n1:decide (((1:Nat):Int)=2)=false:=rfl;have n3:decide (((1+1+1:Nat):Int)=2)=false:=rfl;simp only [odd,mem_cons,not_mem_nil,or_false] at h;rcases h with rfl|rfl|rfl|rfl|rfl|rfl|rfl|rfl|rfl|rfl
 all_goals (rw [W9];try simp only [Pu.pwA,JA,e1,e2,e3,s3,t2,qhs,qnq,qnQ,n0,n1,n3])
def qd3 {xs:List PyData} (h:∀ p:Int×Int,zH (pD p) (.tuple xs)=some false):∀ ps:List (Int×Int),CU (.tuple xs) (ps.map pD)=some false
 |[]=>rfl
 |p::ps=>by
  rw [map_cons,CU,h p,qd3 h ps];rfl
def CP {xs:List PyData} {ps:List (Int×Int)} (hd:dpt (.tuple xs)<=40) (h:∀ p:Int×Int,zH (pD p) (.tuple xs)=some false):qf3 false (.tuple xs) (.list (ps.map pD))=some (.bool false):=by
 refine (zA λy hy=>?_).trans ?_
 ·obtain ⟨p,_,rfl⟩:=mem_map.mp hy;simp [pD,dpt,CT]
 ·rw [qd3 h];rfl
def LM {k l:Int}:∀ ps:List (Int×Int),CU (.tuple [.int k,.int l]) (ps.map pD)=some (decide ((k,l)∈ps))
 |[]=>rfl
 |p::ps=>by
  have e:zH (pD p) (.tuple [.int k,.int l])=some (decide (p=(k,l))):=by
   obtain ⟨a,b⟩:=p;simp only [pD,zH,QJ];by_cases c1:a=k<;>by_cases c2:b=l<;>simp [c1,c2]
  rw [map_cons,CU,e,LM ps];simp only;congr 1;by_cases c:p=(k,l)
  ·subst c;simp
  ·have:¬ (k,l)=p:=λz=>c z.symm;by_cases c2:(k,l)∈ps<;>simp [c,c2,this]
def qaq {k l:Int} {ps:List (Int×Int)}:qf3 false (.tuple [.int k,.int l]) (.list (ps.map pD))=some (.bool (decide ((k,l)∈ps))):=by
 refine (zA λy hy=>?_).trans ?_
 ·obtain ⟨p,_,rfl⟩:=mem_map.mp hy;simp [pD,dpt,CT]
 ·rw [LM];rfl
def qlF {d:Dl} {w:Wk} {s:Int×Int} (hc:Cb w.pc) (h:isS d w s=true):s∈stI d.R d.C w.pc:=by
 have hin:=qdh h;have n1:dn w.pc≠[]:=by simp [dn,hc.ne]
 have n2:al w.pc≠[]:=by simp [al,hc.ne]
 have key:∀ p∈w.pc,(0<=s.1+p.1/\s.1+p.1<d.R)/\(0<=s.2+p.2/\s.2+p.2<d.C):=λp hp=>by
  obtain ⟨h1,h2,h3,h4⟩:=hin _ (mem_map.mpr ⟨p,hp,rfl⟩);exact ⟨⟨h1,h2⟩,h3,h4⟩
 obtain ⟨p1,m1,e1⟩:=mem_map.mp (WK n1);obtain ⟨p2,m2,e2⟩:=mem_map.mp (W2 n1);obtain ⟨p3,m3,e3⟩:=mem_map.mp (WK n2);obtain ⟨p4,m4,e4⟩:=mem_map.mp (W2 n2);have e1:p1.1=mn (dn w.pc):=e1;have e2:p2.1=mx (dn w.pc):=e2;have e3:p3.2=mn (al w.pc):=e3;have e4:p4.2=mx (al w.pc):=e4;have k1:=key p1 m1;have k2:=key p2 m2;have k3:=key p3 m3;have k4:=key p4 m4;unfold Pv.stI;refine List.mem_flatMap.mpr ⟨s.1,mem_map.mpr ⟨(s.1+mn (dn w.pc)).toNat,mem_range.mpr (by omega),by omega⟩,mem_map.mpr ⟨s.2,mem_map.mpr ⟨(s.2+mn (al w.pc)).toNat,mem_range.mpr (by omega),by omega⟩,rfl⟩⟩
def qfD {d:Dl} {w:Wk} {s:Int×Int} (hc:Cb w.pc):decide (s∈stI d.R d.C w.pc)=isS d w s:=by
 rw [Bool.eq_iff_iff,decide_eq_true_eq];exact ⟨λh=>qeL (qm8 h),qlF hc⟩
def qf9 {n:Bool} {ps:List (Int×Int)}:eqD n (.list (ps.map pD)) (.list (ps.map pD))=some (.bool (if n then false else true)):=by
 have dp:∀ ps:List (Int×Int),CT (ps.map pD)<=1:=λps=>by
  induction ps with
  |nil=>simp [CT]
  |cons p ps ih=>simp only [map_cons,CT,pD,dpt];omega
 have pe:∀ ps:List (Int×Int),QJ (ps.map pD) (ps.map pD)=some true:=λps=>by
  induction ps with
  |nil=>rfl
  |cons p ps ih=>simp [QJ,zH,pD,ih]
 have h:qaX (.list (ps.map pD)) (.list (ps.map pD))=none:=rfl;unfold eqD;rw [h];simp only;rw [zA (by have:=dp ps;simp only [dpt];omega)];simp [zH,pe]
def K1:jN [.str "no start",.str "no start"]=some (.bool true):=by
 rw [SJ]
 try simp only [Pu.pwA,VT,s4,decide_true]
def s3':z9 "tuple" "tuple" = true:=rfl
def qh9 {ps:List (Int×Int)} (hl:ps.length<=1000):jN [.list (ps.map pD),.list (ps.map pD)]=some (.bool true):=by
 have e1:=qf9 (n:=true) (ps:=ps);rw [SJ]
 try simp only [Pu.pwA,VT,s5,s7,e1,Bool.not_true]
 refine TU (Q:=λo=>WZ false o=_) ps (λi ρ=>∃ (ns:List Int) (s3:Sl),ρ=[.sh (.list (ps.map pD)),.sh (.list (ps.map pD)),.ow (ns.map PyData.int),s3]/\ns.length<=2*i) ⟨[],_,rfl,by simp⟩ ?_ ?_
 ·rintro i x ρ hx ⟨ns,s3,rfl,hn⟩;have hi:=(List.getElem?_eq_some_iff.mp hx).1
  try simp only [Pu.pwA,pD]
  rw [TY (ds:=ns.map PyData.int) rfl (by simp;omega)]
  try simp only [Pu.pwA]
  exact ⟨ns++[x.1,x.2],_,by simp only [List.map_append,map_cons,List.map_nil];rfl,by simp;omega⟩
 ·rintro ρ ⟨ns,s3,rfl,hn⟩
  try simp only [Pu.pwA]
  rw [QV (ds:=ps.map pD) (fs:=(ps.map λ_=>true).map PyData.bool)]
  ·try simp only [Pu.pwA,LN]
   have a1:ps.all (id∘λ_=>true)=true:=by simp
   try simp only [List.all_map]
   rw [QV (ds:=ns.map PyData.int) (fs:=(ns.map λ_=>PyData.bool false))]
   ·have a2:inD true (.bool true) (.list (ns.map λ_=>PyData.bool false))=some (.bool true):=by
     refine (zA ⟨rfl,by simp [SZ]⟩).trans ?_;simp [qgg]
    try simp only [Pu.pwA,a1,a2]
   ·try simp only [Pu.pwA]
   ·refine jd λn hn'=>?_
    try simp only [Pu.pwA,Y6,s2,Function.comp_def]
   ·simp;omega
  ·try simp only [Pu.pwA]
  ·rw [map_map];refine jd λp hp'=>?_
   try simp only [Pu.pwA,Y6,pD,s3',Function.comp_def]
  ·simp;omega
def D7 (p:Int×Int):Ask (pD p):=.inl ⟨p,rfl⟩
def qpU {ps:List (Int×Int)} {n:Nat} {Q:QD} (hl:ps.length<=16777216) (hn:n<800000) (h:∀ xs m,(∀ x∈xs,Ask x)->xs.length<=100->m<=n+12->Q (.list xs) m):jk.W [.list (ps.map pD)] n Q:=by
 rw [RA];refine ⟨rfl,?_⟩;unfold ZG;refine EH λY1 h1=>?_
 try simp only [Pu.pwA]
 rw [h1];refine EH λY2 h2=>?_;have c1:qfn (.list [PyData.tuple [.int 0,.int 0],.tuple [.int (-1),.int 0],.tuple [.int 0,.int 99],.tuple [.int (-20),.int (-20)],.none,.tuple [],.tuple [.int 0],.tuple [.int 0,.int 0,.int 0],.list [.int 0,.int 0],.str "00",.tuple [.bool true,.int 0]]) (.list [.tuple [.int 0,.bool true],.tuple [.int 0,.bool false],.tuple [.int 0,.none]])=some (.list [PyData.tuple [.int 0,.int 0],.tuple [.int (-1),.int 0],.tuple [.int 0,.int 99],.tuple [.int (-20),.int (-20)],.none,.tuple [],.tuple [.int 0],.tuple [.int 0,.int 0,.int 0],.list [.int 0,.int 0],.str "00",.tuple [.bool true,.int 0],.tuple [.int 0,.bool true],.tuple [.int 0,.bool false],.tuple [.int 0,.none]]):=qa7 (by simp)
 try simp only [Pu.pwA,c1]
 rw [h2];have a0:∀ x∈[PyData.tuple [.int 0,.int 0],.tuple [.int (-1),.int 0],.tuple [.int 0,.int 99],.tuple [.int (-20),.int (-20)],.none,.tuple [],.tuple [.int 0],.tuple [.int 0,.int 0,.int 0],.list [.int 0,.int 0],.str "00",.tuple [.bool true,.int 0],.tuple [.int 0,.bool true],.tuple [.int 0,.bool false],.tuple [.int 0,.none]],Ask x:=by
  intro x hx;simp only [mem_cons,not_mem_nil,or_false] at hx;rcases hx with rfl|rfl|rfl|rfl|rfl|rfl|rfl|rfl|rfl|rfl|rfl|rfl|rfl|rfl
  ·exact D7 (0,0)
  ·exact D7 (-1,0)
  ·exact D7 (0,99)
  ·exact D7 (-20,-20)
  all_goals exact .inr (by simp [odd])
 have l0:([PyData.tuple [.int 0,.int 0],.tuple [.int (-1),.int 0],.tuple [.int 0,.int 99],.tuple [.int (-20),.int (-20)],.none,.tuple [],.tuple [.int 0],.tuple [.int 0,.int 0,.int 0],.list [.int 0,.int 0],.str "00",.tuple [.bool true,.int 0],.tuple [.int 0,.bool true],.tuple [.int 0,.bool false],.tuple [.int 0,.none]]).length=14:=rfl;generalize [PyData.tuple [.int 0,.int 0],.tuple [.int (-1),.int 0],.tuple [.int 0,.int 99],.tuple [.int (-20),.int (-20)],.none,.tuple [],.tuple [.int 0],.tuple [.int 0,.int 0,.int 0],.list [.int 0,.int 0],.str "00",.tuple [.bool true,.int 0],.tuple [.int 0,.bool true],.tuple [.int 0,.bool false],.tuple [.int 0,.none]]=x0 at *;by_cases es:ps=[]
 ·subst es;have en:eqD true (.list []) (.list [])=some (.bool false):=SQ (ps:=[]);have r0:QU 0 ((6:Int)*0).toNat=[]:=rfl;refine qat (λρ' m=>m<=n/\ρ'=[.un,.sh (.list []),.ow x0,.un,.un,.un]) ?_ ?_
  ·try simp (disch:=omega) only [Pu.pwA,en,XT,qbl,r0,List.map_nil,qc2]
   exact ⟨Nat.le_refl _,rfl⟩
  ·rintro ρ' m ⟨hm,rfl⟩;refine EH λY4 h4=>?_
   try simp (disch:=omega) only [Pu.pwA,en]
   rw [h4]
   try simp only [Pu.pwA]
   exact ⟨m,Nat.le_refl _,h x0 m a0 (by omega) (by omega)⟩
 ·have p0:0<ps.length:=List.length_pos_iff.mpr es;refine qat (λρ' m=>m<=n+12/\∃ (xs:List PyData) (s3 s4 s5:Sl),ρ'=[.un,.sh (.list (ps.map pD)),.ow xs,s3,s4,s5]/\(∀ x∈xs,Ask x)/\xs.length<=26) ?_ ?_
  ·try simp (disch:=omega) only [Pu.pwA,SQ,es,decide_false,Bool.not_false,XT,qbl]
   refine XX (QU 0 (6*1:Int).toNat) QN.mn (λi ρ m=>m<=n+2*i/\∃ (xs:List PyData) (s3 s4 s5:Sl),ρ=[.un,.sh (.list (ps.map pD)),.ow xs,s3,s4,s5]/\(∀ x∈xs,Ask x)/\xs.length<=14+2*i) ⟨by omega,x0,_,_,_,rfl,a0,by omega⟩ ?_ ?_
   ·rintro i x ρ m hx ⟨hm,xs,s3,s4,s5,rfl,ha,hl'⟩;have hi:i<6:=(List.getElem?_eq_some_iff.mp hx).1;refine ⟨_,rfl,?_⟩;unfold QN;refine EH λY5 h5=>?_
    try simp only [Pu.pwA,length_map]
    refine ⟨by omega,by omega,λt t0 t1=>?_⟩;obtain ⟨j,rfl⟩:=Int.eq_ofNat_of_zero_le t0;have hj:j<ps.length:=by omega
    have ai:L2.atI (ps.map pD) (j:Int)=some (pD ps[j]):=by
     rw [atN (by simpa using hj),getElem?_map,getElem?_eq_getElem hj];rfl
    generalize ps[j]=s at *
    try simp only [Pu.pwA,ai,pD]
    rw [h5]
    try simp only [Pu.pwA]
    refine ⟨by omega,by omega,λe e0 e4=>?_⟩;have key:∀ v:Int×Int,∃ v_1,qfn (PyData.list xs) (PyData.list [PyData.tuple [PyData.int s.fst,PyData.int s.snd],.tuple [.int v.1,.int v.2]])=some v_1/\m+1+1<=n+2*(i+1)/\∃ xs_1 s3 s4 s5,qbh [false,false,true,false,true,true] true 2 v_1 [Sl.un,Sl.sh (PyData.list (List.map pD ps)),Sl.ow xs,Sl.sh (PyData.int x),Sl.sh (PyData.int s.fst),Sl.sh (PyData.int s.snd)]=[Sl.un,Sl.sh (PyData.list (List.map pD ps)),Sl.ow xs_1,s3,s4,s5]/\(∀ (x:PyData),x∈xs_1->Ask x)/\xs_1.length<=14+2*(i+1):=λv=>
     ⟨_,qa7 (by simp;omega),by omega,_,_,_,_,rfl,λy hy=>by
      rcases List.mem_append.mp hy with hy|hy
      ·exact ha y hy
      ·simp only [mem_cons,not_mem_nil,or_false] at hy;rcases hy with rfl|rfl
       ·exact D7 s
       ·exact D7 v,by simp;omega⟩
    have c4:e=0\/e=1\/e=2\/e=3:=by omega
    rcases c4 with rfl|rfl|rfl|rfl
    ·exact ⟨_,rfl,key (s.1+1,s.2)⟩
    ·exact ⟨_,rfl,key (s.1,s.2+1)⟩
    ·exact ⟨_,rfl,key (s.1-1,s.2)⟩
    ·exact ⟨_,rfl,key (s.1,s.2-1)⟩
   ·rintro ρ m ⟨hm,xs,s3,s4,s5,rfl,ha,hl'⟩;have e6:(QU 0 (6*1:Int).toNat).length=6:=rfl;simp only [qc2];exact ⟨by omega,xs,_,_,_,rfl,ha,by omega⟩
  ·rintro ρ' m ⟨hm,xs,s3,s4,s5,rfl,ha,hx⟩;refine EH λY4 h4=>?_;have ai:L2.atI (ps.map pD) 0=some (pD ps[0]):=by
    have:=atN (xs:=ps.map pD) (k:=0) (by simpa using p0);rw [getElem?_map,getElem?_eq_getElem p0] at this;exact this
   have az:L2.atI (ps.map pD) (-1)=some (pD (ps[ps.length-1])):=by
    have:=qj3 (xs:=ps.map pD) (j:=1) (by omega) (by simp;omega);rw [length_map,getElem?_map,getElem?_eq_getElem (by omega)] at this;exact this
   generalize ps[0]=a at *;generalize ps[ps.length-1]=z at *;have cl:qfn (.list xs) (.list [.tuple [.int a.1,.int a.2],.tuple [.int z.1,.int z.2],.tuple [.int z.1,.int (z.2+1)],.tuple [.int (a.1-1),.int a.2]])=some (.list (xs++[.tuple [.int a.1,.int a.2],.tuple [.int z.1,.int z.2],.tuple [.int z.1,.int (z.2+1)],.tuple [.int (a.1-1),.int a.2]])):=qa7 (by simp;omega)
   try simp (disch:=omega) only [Pu.pwA,SQ,es,decide_false,Bool.not_false,ai,az,pD,cl]
   rw [h4]
   try simp only [Pu.pwA]
   refine ⟨m,Nat.le_refl _,h (xs++[.tuple [.int a.1,.int a.2],.tuple [.int z.1,.int z.2],.tuple [.int z.1,.int (z.2+1)],.tuple [.int (a.1-1),.int a.2]]) m (λx hx'=>?_) (by simp;omega) hm⟩;rcases List.mem_append.mp hx' with hx'|hx'
   ·exact ha x hx'
   ·simp only [mem_cons,not_mem_nil,or_false] at hx';rcases hx' with rfl|rfl|rfl|rfl
    ·exact D7 a
    ·exact D7 z
    ·exact D7 (z.1,z.2+1)
    ·exact D7 (a.1-1,a.2)
def qhe {i j:Nat} {m:List Bool} {d:Dl} {w:Wk} {ρ:Rho}:qd5 i j m [dlD d,Wk.d w] ρ=some (.nx (((dm m ρ).set i (.sh (dlD d))).set j (.sh (Wk.d w)))):=by
 cases d<;>cases w<;>rfl
def isB:PyData->Bool
 |.bool _=>true
 |_=>false
def Sm (y:PyData):Prop:=(∃ i,y=.int i)\/(∃ b,y=.bool b)\/y=.none
def qnB {y:PyData} (h:Sm y):((tyD y).map λt=>PyData.bool (z9 t "bool"))=some (.bool (isB y)):=by
 rcases h with ⟨i,rfl⟩|⟨b,rfl⟩|rfl<;>rfl
def qgX:∀ bs:List Bool,CU (.bool true) (bs.map PyData.bool)=some (bs.any id)
 |[]=>rfl
 |b::bs=>by
  rw [map_cons,CU,qgX bs];cases b<;>simp [zH]
def qgR {bs:List Bool}:qf3 true (.bool true) (.list (bs.map PyData.bool))=some (.bool (!(bs.any id))):=by
 refine (zA λy hy=>?_).trans ?_
 ·obtain ⟨b,_,rfl⟩:=mem_map.mp hy;simp [dpt]
 ·rw [qgX];rfl
def qfy {x:PyData} (h:Ask x):(∃ xs:List PyData,x=.tuple xs/\(∀ y∈xs,Sm y)/\xs.length<=3)\/(x=.none\/x=.list [.int 0,.int 0]\/x=.str "00"):=by
 rcases h with ⟨p,rfl⟩|h
 ·exact .inl ⟨[.int p.1,.int p.2],rfl,by simp [Sm],by simp⟩
 ·simp only [odd,mem_cons,not_mem_nil,or_false] at h;rcases h with rfl|rfl|rfl|rfl|rfl|rfl|rfl|rfl|rfl|rfl
  ·exact .inr (.inl rfl)
  ·exact .inl ⟨_,rfl,by simp [Sm],by simp⟩
  ·exact .inl ⟨_,rfl,by simp [Sm],by simp⟩
  ·exact .inl ⟨_,rfl,by simp [Sm],by simp⟩
  ·exact .inr (.inr (.inl rfl))
  ·exact .inr (.inr (.inr rfl))
  ·exact .inl ⟨_,rfl,by simp [Sm],by simp⟩
  ·exact .inl ⟨_,rfl,by simp [Sm],by simp⟩
  ·exact .inl ⟨_,rfl,by simp [Sm],by simp⟩
  ·exact .inl ⟨_,rfl,by simp [Sm],by simp⟩
def qi5 {x:PyData} (h:x∈odd) {xs:List PyData} (e:x=.tuple xs) (hb:(xs.map isB).any id=false) (ps:List (Int×Int)):qf3 false (.tuple xs) (.list (ps.map pD))=some (.bool false):=by
 subst e;simp only [odd,mem_cons,not_mem_nil,or_false,PyData.tuple.injEq,reduceCtorEq,false_or] at h;rcases h with rfl|rfl|rfl|rfl|rfl|rfl|rfl
 ·exact CP (by simp [dpt,CT]) λp=>rfl
 ·exact CP (by simp [dpt,CT]) λp=>by simp [pD,zH,QJ]
 ·exact CP (by simp [dpt,CT]) λp=>by simp [pD,zH,QJ]
 ·cases hb
 ·cases hb
 ·cases hb
 ·exact CP (by simp [dpt,CT]) λp=>by simp [pD,zH,QJ]
abbrev ro (d:Dl) (w:Wk) (k:Nat) (s7 s8 s9 s10 s11:Sl):Rho:=[.un,.sh (.int k),.un,.sh (dlD d),.sh (Wk.d w),.sh (.list (w.pc.map pD)),.sh (.list ((stI d.R d.C w.pc).map pD)),s7,s8,s9,s10,s11]
section
variable {d:Dl} {w:Wk} {k:Nat} {x:PyData} {s7 s9 s10 s11:Sl} {n:Nat} {Q:QO}
def item (hp:d.dep<=2) (okd:d.Ok) (hw:w.Ok) (hx:Ask x) (hQ:∀ s8 s9 s10 s11,Q (.nx (ro d w k s7 s8 s9 s10 s11)) n):U5.w (ro d w k s7 (.sh x) s9 s10 s11) n Q:=by
 have cb:=qkW hw;have big:=qeC hw;have pl:=Bk.qaT hw;unfold U5 ro;unfold ro at hQ;refine EH λY1 h1=>?_
 try simp only [Pu.pwA]
 rw [h1];refine EH λY2 h2=>?_;rcases qfy hx with ⟨xs,rfl,hs,hl⟩|ho
 ·have lc:lcF (λρ=>(vw ρ 8).bind qbY) (lcH (λd=>some [(0,d)]) (λx=>some true) λρ=>(vw ρ 0).bind λd=>Option.map (λt=>PyData.bool (z9 t "bool")) (tyD d)) [none] [Sl.un,.sh (.int k),.un,.sh (dlD d),.sh (Wk.d w),.sh (.list (w.pc.map pD)),.sh (.list ((stI d.R d.C w.pc).map pD)),s7,.sh (.tuple xs),.sh (.str "no start"),s10,s11]=some (.list ((xs.map isB).map PyData.bool)):=by
   refine QV (ds:=xs) (fs:=(xs.map isB).map PyData.bool) ?_ ?_ ?_
   ·try simp only [Pu.pwA]
   ·have e0:xs=xs.map id:=by simp
    rw [map_map]
    conv=>lhs;rw [e0]
    refine jd λy hy=>?_
    try simp only [Pu.pwA,Y6,qnB (hs y hy),id,Function.comp_def]
   ·simp;omega
  try simp only [Pu.pwA,s3,lc,qgR]
  rw [h2];refine EH λY3 h3=>?_;cases hb:(xs.map isB).any id with
  |true=>
   try simp only [Pu.pwA,Bool.not_true]
   rw [h3];have no:qS [.tuple xs]=some (.bool false):=by
    rcases hx with ⟨p,e⟩|h
    ·cases e;cases hb
    ·exact NN h
   try simp only [Pu.pwA,ql6 (qnU no),K1,s6,Bool.not_true]
   exact hQ _ _ _ _
  |false=>
   rcases hx with ⟨p,e⟩|h
   ·cases e;have im:=qaq (k:=p.1) (l:=p.2) (ps:=stI d.R d.C w.pc);rw [show decide ((p.1,p.2)∈Pv.stI d.R d.C w.pc)=isS d w p from qfD cb] at im;cases c:isS d w p with
    |true=>
     rw [c] at im
     try simp only [Pu.pwA,Bool.not_false,im]
     have an:=qpF hp okd big (qdh c);have lc2:(sh p w.pc).length<=1000:=by simp [sh];omega
     refine ⟨_,QV (ds:=w.pc.map pD) (fs:=(sh p w.pc).map pD) ?_ ?_ ?_,?_⟩
     ·try simp only [Pu.pwA]
     ·rw [sh,map_map];refine jd λq hq=>?_
      try simp only [Pu.pwA,Y6,pD,Function.comp_def]
     ·simp [sh];omega
     ·rw [h3];simp only [pD] at an;have fl:=qh9 lc2
      try simp only [Pu.pwA,an,fl,s5,Bool.not_true,qj6,pD]
      exact hQ _ _ _ _
    |false=>
     rw [c] at im;have iss:=qg0 (s:=p) hp okd big;rw [c] at iss
     try simp only [Pu.pwA,Bool.not_false,im]
     rw [h3];have an:=ql6 iss;simp only [pD] at an
     try simp only [Pu.pwA,an,K1,s6,Bool.not_true]
     exact hQ _ _ _ _
   ·have im:=qi5 h rfl hb (stI d.R d.C w.pc)
    try simp only [Pu.pwA,Bool.not_false,im]
    rw [h3]
    try simp only [Pu.pwA,ql6 (qnU (NN h)),K1,s6,Bool.not_true]
    exact hQ _ _ _ _
 ·have no:qS [x]=some (.bool false):=NN (by rcases ho with rfl|rfl|rfl<;>simp [odd]);have an:=ql6 (x:=dlD d) (y:=Wk.d w) (qnU no);have pf:∃ t,tyD x=some t/\z9 t "tuple" = false:=by rcases ho with rfl|rfl|rfl<;>exact ⟨_,rfl,rfl⟩
  obtain ⟨ty,e1,e2⟩:=pf
  try simp only [Pu.pwA,e1,e2]
  rw [h2];refine EH λY3 h3=>?_
  try simp only [Pu.pwA]
  rw [h3]
  try simp only [Pu.pwA,an,K1,s6,Bool.not_true]
  exact hQ _ _ _ _
end
def qhn:∀ k:Nat,k<=60->qbE.w [.un,.sh (.int k),.un,.un,.un,.un,.un,.un,.un,.un,.un,.un] 0 okW:=by
 intro k hk;unfold qbE;refine EH λY1 h1=>?_
 try simp only [Pu.pwA]
 refine ⟨by omega,λd D dp=>⟨by omega,λw hw=>?_⟩⟩
 try simp only [Pu.pwA,qhe]
 rw [h1];have hR:=D.r2;have hC:=D.c2;have lm:=Dl.lims D.ok;have cb:=qkW hw;have big:=qeC hw;have pl:=Bk.qaT hw;have sl:=qfa (R:=d.R) (C:=d.C) cb lm.r2 lm.c2;refine EH λY2 h2=>?_
 try simp only [Pu.pwA,qoV big,qnh dp D.ok big cb,qd8]
 rw [h2]
 try simp (disch:=omega) only [Pu.pwA,qbl]
 refine XX (QU 0 (2:Int).toNat) X9.mn (λi ρ n=>n<=2000+12*i/\∃ s7 s8 s9 s10 s11,ρ=ro d w k s7 s8 s9 s10 s11) ⟨by omega,_,_,_,_,_,rfl⟩ ?_ ?_
 ·rintro i x ρ n hx ⟨hn,s7,s8,s9,s10,s11,rfl⟩;have hi:i<2:=(List.getElem?_eq_some_iff.mp hx).1;refine ⟨_,rfl,?_⟩;unfold X9 ro
  try simp only [Pu.pwA]
  refine qpU (by omega) (by omega) λxs m ha hl hm=>?_
  try simp only [Pu.pwA]
  have e0:xs=xs.map id:=by simp
  rw [e0];refine XX (f:=id) xs U5.mn (λ_ ρ n'=>n'<=m/\∃ s7 s8 s9 s10 s11,ρ=ro d w k s7 s8 s9 s10 s11) ⟨Nat.le_refl _,_,_,_,_,_,rfl⟩ ?_ ?_
  ·rintro j y ρ n' hy ⟨hn',s7,s8,s9,s10,s11,rfl⟩;refine ⟨_,rfl,?_⟩;have hy':=mem_of_getElem? hy;refine item dp D.ok hw (ha y hy') λa b c e=>⟨hn',_,_,_,_,_,rfl⟩
  ·rintro ρ n' ⟨hn',s7,s8,s9,s10,s11,rfl⟩;refine ⟨?_,_,_,_,_,_,rfl⟩;omega
 ·rintro ρ n ⟨hn,s7,s8,s9,s10,s11,rfl⟩
  trivial
end K15
namespace K15
open PySem L2 L3 Bk
abbrev qhE : Env := { scope := PySem.Challenge.pw_bankwalk_k15_words_of_walks.main.scope,locals := mainNs,globals := mainNs,cells := [],code := .ref 13,frame := some 14 }
abbrev qam : List Stmt := PySem.W.behindTheImports PySem.Challenge.pw_bankwalk_k15_words_of_walks
abbrev XA:Code:=.body qam qhE
abbrev qi9:List Frame:=[PySem.W.topFrame ⟨0,0,0,0⟩]
def zb:Obj:=Hd.oT []
def jI:Obj:=⟨.none,none,.fields #[],#[]⟩
def qmj:Obj:=Hd.oC [.str "<module>" 182,.str "<module>" 183,.str "/claim/cut.py" 184,.int (1) 0,.int (0) 0,.int (0) 0,.int (0) 0,.int (0) 0,.ref 11,.bool false,.int (181) 0,.ref 12,.none,.none,.none,.none,.int (185) 0,.int (1) 0,.str "/claim/cut.py" 186]
def qmb:Obj:=⟨.type "frame",none,.plain,#[some (.ref 13),some (.ref 3),some (.ref 3),none,some (.str "__main__" 164),none,some (.ref 0)]⟩
def qi2 (P:Params):Heap:=⟨Array.mk [PySem.W.boot_o_0 P,PySem.W.boot_o_1 P,PySem.W.boot_o_2 P,PySem.W.boot_o_3 P,PySem.W.boot_o_4 P,PySem.W.boot_o_5 P,PySem.W.boot_o_6 P,PySem.W.boot_o_7 P,PySem.W.boot_o_8 P,PySem.W.boot_o_9 P,PySem.W.boot_o_10 P,zb,jI,qmj,qmb],{ }⟩
def qkl (P:Params):PySem.W.BT:=(Hd.nd (PySem.W.boot_o_0 P) (Hd.nd (PySem.W.boot_o_1 P) (Hd.nd (PySem.W.boot_o_3 P) (Hd.lf (PySem.W.boot_o_7 P)) (Hd.lf zb)) (Hd.nd (PySem.W.boot_o_5 P) (Hd.lf (PySem.W.boot_o_9 P)) (Hd.lf qmj))) (Hd.nd (PySem.W.boot_o_2 P) (Hd.nd (PySem.W.boot_o_4 P) (Hd.lf (PySem.W.boot_o_8 P)) (Hd.lf jI)) (Hd.nd (PySem.W.boot_o_6 P) (Hd.lf (PySem.W.boot_o_10 P)) (Hd.lf qmb))))
set_option maxRecDepth 100000 in
set_option maxHeartbeats 0 in
def qlA (w : World) (os : OsState) : PySem.W.topGo treeTable PySem.Challenge.pw_bankwalk_k15_words_of_walks w 11 (some (Value.ref 6)) 12 ⟨PySem.W.boot_heap w.params,Array.mk [],PySem.W.boot_drawn,PySem.W.boot_toks,os⟩ (PySem.W.topStub PySem.Challenge.pw_bankwalk_k15_words_of_walks) = some (⟨qi2 w.params,#[],{ },187,os⟩,⟨denote treeTable XA,XA,⟨0,0,0,0⟩,qi9⟩) := by kernel_rfl
set_option maxRecDepth 100000 in
set_option maxHeartbeats 0 in
def qlE (w : World) (os : OsState) : PySem.W.segRun treeTable PySem.Challenge.pw_bankwalk_k15_words_of_walks w 11 (some (Value.ref 6)) 1 1 ⟨qi2 w.params,#[],{ },187,os⟩ (PySem.W.blockOf qam qhE XA ⟨0,0,0,0⟩ qi9) = some (.next,(⟨qkl w.params,15,{ },#[],{ },187,os⟩ : PySem.W.SharedT).abs,XA,⟨0,0,0,0⟩) := by kernel_rfl
def qpR (P:Params):Obj:=Hd.oD P 19 [(.str "__name__" 165,.str "bankwalk.errors" 203),(.str "__doc__" 166,.none),(.str "__package__" 167,.none),(.str "__loader__" 168,.builtin "__main__.__loader__#opaque"),(.str "__spec__" 169,.none),(.str "__annotations__" 170,.ref 6),(.str "__builtins__" 171,.ref 4),(.str "__file__" 173,.str "/claim/cut.py" 172),(.str "__cached__" 174,.none),(.str "is_number" 195,.ref 21),(.str "is_pair" 202,.ref 28),(.str "BankError" 222,.ref 38),(.str "NoWord" 238,.ref 51),(.str "NoStart" 254,.ref 63),(.str "NoWalk" 270,.ref 75),(.str "NoOrder" 286,.ref 87),(.str "Clash" 302,.ref 99),(.str "NotSquare" 318,.ref 111),(.str "BadText" 334,.ref 123)]
def qpX:Obj:=⟨.none,none,.fields #[.int (2) 0,.int (0) 0,.ref 20,.int (4) 0,.int (0) 0,.ref 27,.int (7) 0,.int (0) 0,.ref 34,.int (9) 0,.int (0) 0,.ref 47,.int (11) 0,.int (0) 0,.ref 59,.int (13) 0,.int (0) 0,.ref 71,.int (15) 0,.int (0) 0,.ref 83,.int (17) 0,.int (0) 0,.ref 95,.int (19) 0,.int (0) 0,.ref 107,.int (21) 0,.int (0) 0,.ref 119],#[]⟩
def qpd:Obj:=Hd.oN Q4 192
def qoH:Obj:=Hd.oG "is_number" jG
def qnY:Obj:=Hd.oK "is_number" 189 2 1 181 15 16 .none (.ref 17) (.ref 18) 19 193 194
def qgh:Obj:=Hd.oF "is_number" jG (.str "bankwalk.basics" 187) (.ref 20)
def qjv:Obj:=Hd.oN Q4 199
def qjU:Obj:=Hd.oG "is_pair" Q5
def qfe:Obj:=Hd.oK "is_pair" 196 4 1 181 22 23 .none (.ref 24) (.ref 25) 26 200 201
def qfZ:Obj:=Hd.oF "is_pair" Q5 (.str "bankwalk.basics" 187) (.ref 27)
def qjZ:Obj:=Hd.oT [.type "ValueError"]
def Z3:Obj:=⟨.type "builtin_function_or_method",none,.fields #[.builtin "type.__prepare__",.type "type"],#[]⟩
def qk7 (P:Params):Obj:=Hd.oD P 4 [(.str "__module__" 212,.str "bankwalk.errors" 203),(.str "__qualname__" 214,.str "BankError" 213),(.str "__firstlineno__" 216,.int (7) 215),(.str "__static_attributes__" 217,.ref 36)]
def qjg:Obj:=Hd.oC [.str "BankError" 207,.str "BankError" 208,.str "/claim/cut.py" 209,.int (7) 0,.int (0) 0,.int (0) 0,.int (0) 0,.int (0) 0,.ref 32,.bool false,.int (181) 0,.ref 33,.none,.none,.none,.none,.int (210) 0,.int (7) 0,.str "/claim/cut.py" 211]
def qjb:Obj:=⟨.type "frame",none,.plain,#[some (.ref 34),some (.ref 3),some (.ref 31),none,some (.str "bankwalk.errors" 203),none,some (.ref 0)]⟩
def qgH (P:Params):Obj:=Hd.oD P 3 [(.str "__module__" 212,.str "bankwalk.errors" 203),(.str "__firstlineno__" 216,.int (7) 215),(.str "__static_attributes__" 217,.ref 36),(.str "__weakref__" 219,.ref 39),(.str "__doc__" 220,.none)]
def qnV:Obj:=⟨.type "type",none,.cls ({ name:=Str.ofString "BankError",bases:=[Value.type "ValueError"],  mro:=    [Value.ref 38,Value.type "ValueError",Value.type "Exception",Value.type "BaseException",Value.type "object"],  ns:=37,qualname:=Str.ofString "BankError",  subclasses:=[Value.ref 51,Value.ref 63,Value.ref 75,Value.ref 87,Value.ref 99,Value.ref 111,Value.ref 123] }),#[some (.ref 29),none,some (.str "BankError" 205),some (.str "BankError" 213),some (.builtin "ValueError.__new__"),some (.bool true)]⟩
def qi0:Obj:=⟨.type "getset_descriptor",none,.fields #[.str "__weakref__" 218,.ref 38,.builtin "ExceptionGroup.__weakref__",.none],#[]⟩
def qiO:Obj:=⟨.type "super",none,.fields #[.ref 38,.ref 38,.ref 38],#[]⟩
def qkF:Obj:=⟨.type "builtin_function_or_method",none,.fields #[.builtin "object.__init_subclass__",.ref 38],#[]⟩
def J8:Obj:=Hd.oT [.ref 38]
def qhj (P:Params):Obj:=Hd.oD P 4 [(.str "__module__" 230,.str "bankwalk.errors" 203),(.str "__qualname__" 232,.str "NoWord" 231),(.str "__firstlineno__" 234,.int (9) 233),(.str "__static_attributes__" 235,.ref 49)]
def qlf:Obj:=Hd.oC [.str "NoWord" 225,.str "NoWord" 226,.str "/claim/cut.py" 227,.int (9) 0,.int (0) 0,.int (0) 0,.int (0) 0,.int (0) 0,.ref 45,.bool false,.int (181) 0,.ref 46,.none,.none,.none,.none,.int (228) 0,.int (9) 0,.str "/claim/cut.py" 229]
def qg6:Obj:=⟨.type "frame",none,.plain,#[some (.ref 47),some (.ref 3),some (.ref 44),none,some (.str "bankwalk.errors" 203),none,some (.ref 0)]⟩
def qh8 (P:Params):Obj:=Hd.oD P 2 [(.str "__module__" 230,.str "bankwalk.errors" 203),(.str "__firstlineno__" 234,.int (9) 233),(.str "__static_attributes__" 235,.ref 49),(.str "__doc__" 236,.none)]
def qfh:Obj:=⟨.type "type",none,.cls ({ name:=Str.ofString "NoWord",bases:=[Value.ref 38],  mro:=    [Value.ref 51,Value.ref 38,Value.type "ValueError",Value.type "Exception",Value.type "BaseException",      Value.type "object"],  ns:=50,qualname:=Str.ofString "NoWord" }),#[some (.ref 42),none,some (.str "NoWord" 223),some (.str "NoWord" 231),some (.builtin "ValueError.__new__"),some (.bool true)]⟩
def qkp:Obj:=⟨.type "super",none,.fields #[.ref 51,.ref 51,.ref 51],#[]⟩
def qi7:Obj:=⟨.type "builtin_function_or_method",none,.fields #[.builtin "object.__init_subclass__",.ref 51],#[]⟩
def qlW (P:Params):Obj:=Hd.oD P 4 [(.str "__module__" 246,.str "bankwalk.errors" 203),(.str "__qualname__" 248,.str "NoStart" 247),(.str "__firstlineno__" 250,.int (11) 249),(.str "__static_attributes__" 251,.ref 61)]
def qi8:Obj:=Hd.oC [.str "NoStart" 241,.str "NoStart" 242,.str "/claim/cut.py" 243,.int (11) 0,.int (0) 0,.int (0) 0,.int (0) 0,.int (0) 0,.ref 57,.bool false,.int (181) 0,.ref 58,.none,.none,.none,.none,.int (244) 0,.int (11) 0,.str "/claim/cut.py" 245]
def qj0:Obj:=⟨.type "frame",none,.plain,#[some (.ref 59),some (.ref 3),some (.ref 56),none,some (.str "bankwalk.errors" 203),none,some (.ref 0)]⟩
def qfj (P:Params):Obj:=Hd.oD P 2 [(.str "__module__" 246,.str "bankwalk.errors" 203),(.str "__firstlineno__" 250,.int (11) 249),(.str "__static_attributes__" 251,.ref 61),(.str "__doc__" 252,.none)]
def qgB:Obj:=⟨.type "type",none,.cls ({ name:=Str.ofString "NoStart",bases:=[Value.ref 38],  mro:=    [Value.ref 63,Value.ref 38,Value.type "ValueError",Value.type "Exception",Value.type "BaseException",      Value.type "object"],  ns:=62,qualname:=Str.ofString "NoStart" }),#[some (.ref 54),none,some (.str "NoStart" 239),some (.str "NoStart" 247),some (.builtin "ValueError.__new__"),some (.bool true)]⟩
def qlG:Obj:=⟨.type "super",none,.fields #[.ref 63,.ref 63,.ref 63],#[]⟩
def qkO:Obj:=⟨.type "builtin_function_or_method",none,.fields #[.builtin "object.__init_subclass__",.ref 63],#[]⟩
def qlU (P:Params):Obj:=Hd.oD P 4 [(.str "__module__" 262,.str "bankwalk.errors" 203),(.str "__qualname__" 264,.str "NoWalk" 263),(.str "__firstlineno__" 266,.int (13) 265),(.str "__static_attributes__" 267,.ref 73)]
def qhC:Obj:=Hd.oC [.str "NoWalk" 257,.str "NoWalk" 258,.str "/claim/cut.py" 259,.int (13) 0,.int (0) 0,.int (0) 0,.int (0) 0,.int (0) 0,.ref 69,.bool false,.int (181) 0,.ref 70,.none,.none,.none,.none,.int (260) 0,.int (13) 0,.str "/claim/cut.py" 261]
def qlu:Obj:=⟨.type "frame",none,.plain,#[some (.ref 71),some (.ref 3),some (.ref 68),none,some (.str "bankwalk.errors" 203),none,some (.ref 0)]⟩
def qlS (P:Params):Obj:=Hd.oD P 2 [(.str "__module__" 262,.str "bankwalk.errors" 203),(.str "__firstlineno__" 266,.int (13) 265),(.str "__static_attributes__" 267,.ref 73),(.str "__doc__" 268,.none)]
def qe2:Obj:=⟨.type "type",none,.cls ({ name:=Str.ofString "NoWalk",bases:=[Value.ref 38],  mro:=    [Value.ref 75,Value.ref 38,Value.type "ValueError",Value.type "Exception",Value.type "BaseException",      Value.type "object"],  ns:=74,qualname:=Str.ofString "NoWalk" }),#[some (.ref 66),none,some (.str "NoWalk" 255),some (.str "NoWalk" 263),some (.builtin "ValueError.__new__"),some (.bool true)]⟩
def qkh:Obj:=⟨.type "super",none,.fields #[.ref 75,.ref 75,.ref 75],#[]⟩
def qiJ:Obj:=⟨.type "builtin_function_or_method",none,.fields #[.builtin "object.__init_subclass__",.ref 75],#[]⟩
def qlb (P:Params):Obj:=Hd.oD P 4 [(.str "__module__" 278,.str "bankwalk.errors" 203),(.str "__qualname__" 280,.str "NoOrder" 279),(.str "__firstlineno__" 282,.int (15) 281),(.str "__static_attributes__" 283,.ref 85)]
def qhO:Obj:=Hd.oC [.str "NoOrder" 273,.str "NoOrder" 274,.str "/claim/cut.py" 275,.int (15) 0,.int (0) 0,.int (0) 0,.int (0) 0,.int (0) 0,.ref 81,.bool false,.int (181) 0,.ref 82,.none,.none,.none,.none,.int (276) 0,.int (15) 0,.str "/claim/cut.py" 277]
def qjx:Obj:=⟨.type "frame",none,.plain,#[some (.ref 83),some (.ref 3),some (.ref 80),none,some (.str "bankwalk.errors" 203),none,some (.ref 0)]⟩
def qjN (P:Params):Obj:=Hd.oD P 2 [(.str "__module__" 278,.str "bankwalk.errors" 203),(.str "__firstlineno__" 282,.int (15) 281),(.str "__static_attributes__" 283,.ref 85),(.str "__doc__" 284,.none)]
def qft:Obj:=⟨.type "type",none,.cls ({ name:=Str.ofString "NoOrder",bases:=[Value.ref 38],  mro:=    [Value.ref 87,Value.ref 38,Value.type "ValueError",Value.type "Exception",Value.type "BaseException",      Value.type "object"],  ns:=86,qualname:=Str.ofString "NoOrder" }),#[some (.ref 78),none,some (.str "NoOrder" 271),some (.str "NoOrder" 279),some (.builtin "ValueError.__new__"),some (.bool true)]⟩
def qjS:Obj:=⟨.type "super",none,.fields #[.ref 87,.ref 87,.ref 87],#[]⟩
def qja:Obj:=⟨.type "builtin_function_or_method",none,.fields #[.builtin "object.__init_subclass__",.ref 87],#[]⟩
def qkU (P:Params):Obj:=Hd.oD P 4 [(.str "__module__" 294,.str "bankwalk.errors" 203),(.str "__qualname__" 296,.str "Clash" 295),(.str "__firstlineno__" 298,.int (17) 297),(.str "__static_attributes__" 299,.ref 97)]
def qli:Obj:=Hd.oC [.str "Clash" 289,.str "Clash" 290,.str "/claim/cut.py" 291,.int (17) 0,.int (0) 0,.int (0) 0,.int (0) 0,.int (0) 0,.ref 93,.bool false,.int (181) 0,.ref 94,.none,.none,.none,.none,.int (292) 0,.int (17) 0,.str "/claim/cut.py" 293]
def qh0:Obj:=⟨.type "frame",none,.plain,#[some (.ref 95),some (.ref 3),some (.ref 92),none,some (.str "bankwalk.errors" 203),none,some (.ref 0)]⟩
def qho (P:Params):Obj:=Hd.oD P 2 [(.str "__module__" 294,.str "bankwalk.errors" 203),(.str "__firstlineno__" 298,.int (17) 297),(.str "__static_attributes__" 299,.ref 97),(.str "__doc__" 300,.none)]
def qfQ:Obj:=⟨.type "type",none,.cls ({ name:=Str.ofString "Clash",bases:=[Value.ref 38],  mro:=    [Value.ref 99,Value.ref 38,Value.type "ValueError",Value.type "Exception",Value.type "BaseException",      Value.type "object"],  ns:=98,qualname:=Str.ofString "Clash" }),#[some (.ref 90),none,some (.str "Clash" 287),some (.str "Clash" 295),some (.builtin "ValueError.__new__"),some (.bool true)]⟩
def qhA:Obj:=⟨.type "super",none,.fields #[.ref 99,.ref 99,.ref 99],#[]⟩
def qh6:Obj:=⟨.type "builtin_function_or_method",none,.fields #[.builtin "object.__init_subclass__",.ref 99],#[]⟩
def qkq (P:Params):Obj:=Hd.oD P 4 [(.str "__module__" 310,.str "bankwalk.errors" 203),(.str "__qualname__" 312,.str "NotSquare" 311),(.str "__firstlineno__" 314,.int (19) 313),(.str "__static_attributes__" 315,.ref 109)]
def qjT:Obj:=Hd.oC [.str "NotSquare" 305,.str "NotSquare" 306,.str "/claim/cut.py" 307,.int (19) 0,.int (0) 0,.int (0) 0,.int (0) 0,.int (0) 0,.ref 105,.bool false,.int (181) 0,.ref 106,.none,.none,.none,.none,.int (308) 0,.int (19) 0,.str "/claim/cut.py" 309]
def qiQ:Obj:=⟨.type "frame",none,.plain,#[some (.ref 107),some (.ref 3),some (.ref 104),none,some (.str "bankwalk.errors" 203),none,some (.ref 0)]⟩
def qkD (P:Params):Obj:=Hd.oD P 2 [(.str "__module__" 310,.str "bankwalk.errors" 203),(.str "__firstlineno__" 314,.int (19) 313),(.str "__static_attributes__" 315,.ref 109),(.str "__doc__" 316,.none)]
def qfX:Obj:=⟨.type "type",none,.cls ({ name:=Str.ofString "NotSquare",bases:=[Value.ref 38],  mro:=    [Value.ref 111,Value.ref 38,Value.type "ValueError",Value.type "Exception",Value.type "BaseException",      Value.type "object"],  ns:=110,qualname:=Str.ofString "NotSquare" }),#[some (.ref 102),none,some (.str "NotSquare" 303),some (.str "NotSquare" 311),some (.builtin "ValueError.__new__"),some (.bool true)]⟩
def qjj:Obj:=⟨.type "super",none,.fields #[.ref 111,.ref 111,.ref 111],#[]⟩
def qjG:Obj:=⟨.type "builtin_function_or_method",none,.fields #[.builtin "object.__init_subclass__",.ref 111],#[]⟩
def qin (P:Params):Obj:=Hd.oD P 4 [(.str "__module__" 326,.str "bankwalk.errors" 203),(.str "__qualname__" 328,.str "BadText" 327),(.str "__firstlineno__" 330,.int (21) 329),(.str "__static_attributes__" 331,.ref 121)]
def qjI:Obj:=Hd.oC [.str "BadText" 321,.str "BadText" 322,.str "/claim/cut.py" 323,.int (21) 0,.int (0) 0,.int (0) 0,.int (0) 0,.int (0) 0,.ref 117,.bool false,.int (181) 0,.ref 118,.none,.none,.none,.none,.int (324) 0,.int (21) 0,.str "/claim/cut.py" 325]
def qlt:Obj:=⟨.type "frame",none,.plain,#[some (.ref 119),some (.ref 3),some (.ref 116),none,some (.str "bankwalk.errors" 203),none,some (.ref 0)]⟩
def qhF (P:Params):Obj:=Hd.oD P 2 [(.str "__module__" 326,.str "bankwalk.errors" 203),(.str "__firstlineno__" 330,.int (21) 329),(.str "__static_attributes__" 331,.ref 121),(.str "__doc__" 332,.none)]
def qgm:Obj:=⟨.type "type",none,.cls ({ name:=Str.ofString "BadText",bases:=[Value.ref 38],  mro:=    [Value.ref 123,Value.ref 38,Value.type "ValueError",Value.type "Exception",Value.type "BaseException",      Value.type "object"],  ns:=122,qualname:=Str.ofString "BadText" }),#[some (.ref 114),none,some (.str "BadText" 319),some (.str "BadText" 327),some (.builtin "ValueError.__new__"),some (.bool true)]⟩
def qjc:Obj:=⟨.type "super",none,.fields #[.ref 123,.ref 123,.ref 123],#[]⟩
def qkx:Obj:=⟨.type "builtin_function_or_method",none,.fields #[.builtin "object.__init_subclass__",.ref 123],#[]⟩
def qj4 (P:Params):PySem.W.BT:=(Hd.nd (PySem.W.boot_o_0 P) (Hd.nd (PySem.W.boot_o_1 P) (Hd.nd (qpR P) (Hd.nd (PySem.W.boot_o_7 P) (Hd.nd zb (Hd.nd (qk7 P) (Hd.lf qgB) (Hd.lf qli)) (Hd.nd qlf (Hd.lf Z3) (Hd.lf qfX))) (Hd.nd jI (Hd.nd qi0 (Hd.lf qhC) (Hd.lf Z3)) (Hd.nd Z3 (Hd.lf qft) (Hd.lf qjI)))) (Hd.nd zb (Hd.nd qoH (Hd.nd qjb (Hd.lf Z3) (Hd.lf qfQ)) (Hd.nd qfh (Hd.lf qhO) (Hd.lf Z3))) (Hd.nd qfe (Hd.nd Z3 (Hd.lf qe2) (Hd.lf qjT)) (Hd.nd qi8 (Hd.lf Z3) (Hd.lf qgm))))) (Hd.nd (PySem.W.boot_o_5 P) (Hd.nd (PySem.W.boot_o_9 P) (Hd.nd qpd (Hd.nd jI (Hd.lf qkO) (Hd.lf zb)) (Hd.nd zb (Hd.lf zb) (Hd.lf qjG))) (Hd.nd zb (Hd.nd qkF (Hd.lf zb) (Hd.lf zb)) (Hd.nd zb (Hd.lf qja) (Hd.lf zb)))) (Hd.nd qmj (Hd.nd qgh (Hd.nd (qgH P) (Hd.lf zb) (Hd.lf qh6)) (Hd.nd qi7 (Hd.lf zb) (Hd.lf zb))) (Hd.nd qjZ (Hd.nd zb (Hd.lf qiJ) (Hd.lf zb)) (Hd.nd zb (Hd.lf zb) (Hd.lf qkx)))))) (Hd.nd (PySem.W.boot_o_2 P) (Hd.nd (PySem.W.boot_o_4 P) (Hd.nd (PySem.W.boot_o_8 P) (Hd.nd jI (Hd.nd zb (Hd.lf qlG) (Hd.lf qh0)) (Hd.nd qg6 (Hd.lf (qlb P)) (Hd.lf qjj))) (Hd.nd qjv (Hd.nd qiO (Hd.lf qlu) (Hd.lf (qkq P))) (Hd.nd (qlW P) (Hd.lf qjS) (Hd.lf qlt)))) (Hd.nd qpX (Hd.nd qnY (Hd.nd zb (Hd.lf (qlU P)) (Hd.lf qhA)) (Hd.nd qkp (Hd.lf qjx) (Hd.lf (qin P)))) (Hd.nd qfZ (Hd.nd (qhj P) (Hd.lf qkh) (Hd.lf qiQ)) (Hd.nd qj0 (Hd.lf (qkU P)) (Hd.lf qjc))))) (Hd.nd (PySem.W.boot_o_6 P) (Hd.nd (PySem.W.boot_o_10 P) (Hd.nd zb (Hd.nd qjg (Hd.lf J8) (Hd.lf (qho P))) (Hd.nd (qh8 P) (Hd.lf jI) (Hd.lf J8))) (Hd.nd qjU (Hd.nd J8 (Hd.lf (qlS P)) (Hd.lf jI)) (Hd.nd jI (Hd.lf J8) (Hd.lf (qhF P))))) (Hd.nd qmb (Hd.nd zb (Hd.nd qnV (Hd.lf jI) (Hd.lf J8)) (Hd.nd J8 (Hd.lf (qjN P)) (Hd.lf jI))) (Hd.nd Z3 (Hd.nd jI (Hd.lf J8) (Hd.lf (qkD P))) (Hd.nd (qfj P) (Hd.lf jI) .nil))))))
abbrev qdx:List Stmt:=(qam.drop 0).take 12
set_option maxRecDepth 100000 in
set_option maxHeartbeats 0 in
def qlT (w : World) (os : OsState) : PySem.W.segRunT treeTable PySem.Challenge.pw_bankwalk_k15_words_of_walks w 11 (some (Value.ref 6)) 1 1754 (⟨qkl w.params,15,{ },#[],{ },187,os⟩ : PySem.W.SharedT) (PySem.W.piecesOf qdx qhE XA ⟨0,0,0,0⟩ qi9) = some (.next,(⟨qj4 w.params,126,{ },#[],{ },335,os⟩ : PySem.W.SharedT),XA,⟨21,0,22,8⟩) := by kernel_rfl
def qly (P:Params):Obj:=Hd.oD P 49 [(.str "__name__" 165,.str "law_bankwalk_k15_words_of_walks" 467),(.str "__doc__" 166,.none),(.str "__package__" 167,.none),(.str "__loader__" 168,.builtin "__main__.__loader__#opaque"),(.str "__spec__" 169,.none),(.str "__annotations__" 170,.ref 6),(.str "__builtins__" 171,.ref 4),(.str "__file__" 173,.str "/claim/cut.py" 172),(.str "__cached__" 174,.none),(.str "is_number" 195,.ref 21),(.str "is_pair" 202,.ref 28),(.str "BankError" 222,.ref 38),(.str "NoWord" 238,.ref 51),(.str "NoStart" 254,.ref 63),(.str "NoWalk" 270,.ref 75),(.str "NoOrder" 286,.ref 87),(.str "Clash" 302,.ref 99),(.str "NotSquare" 318,.ref 111),(.str "BadText" 334,.ref 123),(.str "NoAsk" 361,.ref 142),(.str "BadRow" 386,.ref 161),(.str "size_of" 402,.ref 170),(.str "is_word" 413,.ref 177),(.str "STRIDES" 433,.ref 178),(.str "strung" 439,.ref 187),(.str "cells_of" 445,.ref 192),(.str "shifted" 451,.ref 197),(.str "is_start" 457,.ref 202),(.str "words_of" 466,.ref 209),(.str "_law_mix" 477,.ref 216),(.str "_law_left" 487,.ref 223),(.str "_law_pick" 496,.ref 230),(.str "_law_sides" 506,.ref 237),(.str "_law_gcd" 514,.ref 244),(.str "_law_skew" 525,.ref 251),(.str "_law_rests" 537,.ref 258),(.str "_law_bits" 543,.ref 263),(.str "_law_table" 549,.ref 268),(.str "_law_small" 555,.ref 273),(.str "_law_dealing" 565,.ref 280),(.str "_law_size" 571,.ref 285),(.str "_law_many" 578,.ref 292),(.str "_law_walk" 595,.ref 299),(.str "_law_cells" 601,.ref 304),(.str "_law_starts" 607,.ref 309),(.str "_law_answer" 620,.ref 316),(.str "_law_asked" 632,.ref 323),(.str "_law_is" 638,.ref 328),(.str "law" 644,.ref 333)]
def qmE:Obj:=⟨.none,none,.fields #[.int (2) 0,.int (0) 0,.ref 20,.int (4) 0,.int (0) 0,.ref 27,.int (7) 0,.int (0) 0,.ref 34,.int (9) 0,.int (0) 0,.ref 47,.int (11) 0,.int (0) 0,.ref 59,.int (13) 0,.int (0) 0,.ref 71,.int (15) 0,.int (0) 0,.ref 83,.int (17) 0,.int (0) 0,.ref 95,.int (19) 0,.int (0) 0,.ref 107,.int (21) 0,.int (0) 0,.ref 119,.int (23) 0,.int (0) 0,.ref 131,.int (28) 0,.int (0) 0,.ref 150,.int (33) 0,.int (0) 0,.ref 169,.int (44) 0,.int (0) 0,.ref 176,.int (51) 0,.int (0) 0,.ref 186,.int (53) 0,.int (0) 0,.ref 191,.int (63) 0,.int (0) 0,.ref 196,.int (65) 0,.int (0) 0,.ref 201,.int (67) 0,.int (0) 0,.ref 208,.int (72) 0,.int (0) 0,.ref 215,.int (75) 0,.int (0) 0,.ref 222,.int (79) 0,.int (0) 0,.ref 229,.int (86) 0,.int (0) 0,.ref 236,.int (90) 0,.int (0) 0,.ref 243,.int (94) 0,.int (0) 0,.ref 250,.int (99) 0,.int (0) 0,.ref 257,.int (107) 0,.int (0) 0,.ref 262,.int (112) 0,.int (0) 0,.ref 267,.int (117) 0,.int (0) 0,.ref 272,.int (135) 0,.int (0) 0,.ref 279,.int (152) 0,.int (0) 0,.ref 284,.int (162) 0,.int (0) 0,.ref 291,.int (164) 0,.int (0) 0,.ref 298,.int (183) 0,.int (0) 0,.ref 303,.int (193) 0,.int (0) 0,.ref 308,.int (201) 0,.int (0) 0,.ref 315,.int (213) 0,.int (0) 0,.ref 322,.int (222) 0,.int (0) 0,.ref 327,.int (231) 0,.int (0) 0,.ref 332],#[]⟩
def qhJ:Obj:=⟨.type "type",none,.cls ({ name:=Str.ofString "BankError",bases:=[Value.type "ValueError"],  mro:=    [Value.ref 38,Value.type "ValueError",Value.type "Exception",Value.type "BaseException",Value.type "object"],  ns:=37,qualname:=Str.ofString "BankError",  subclasses:=    [Value.ref 51,Value.ref 63,Value.ref 75,Value.ref 87,Value.ref 99,Value.ref 111,Value.ref 123,Value.ref 142,      Value.ref 161] }),#[some (.ref 29),none,some (.str "BankError" 205),some (.str "BankError" 213),some (.builtin "ValueError.__new__"),some (.bool true)]⟩
def qni (P:Params):Obj:=Hd.oD P 5 [(.str "__module__" 342,.str "bankwalk.errors" 203),(.str "__qualname__" 344,.str "NoAsk" 343),(.str "__firstlineno__" 346,.int (23) 345),(.str "__init__" 355,.ref 139),(.str "__static_attributes__" 358,.ref 140)]
def qmR:Obj:=⟨.none,none,.fields #[.int (25) 0,.int (4) 0,.ref 138],#[]⟩
def qn6:Obj:=Hd.oC [.str "NoAsk" 337,.str "NoAsk" 338,.str "/claim/cut.py" 339,.int (23) 0,.int (0) 0,.int (0) 0,.int (0) 0,.int (0) 0,.ref 129,.bool false,.int (181) 0,.ref 130,.none,.none,.none,.none,.int (340) 0,.int (23) 0,.str "/claim/cut.py" 341]
def qop:Obj:=⟨.type "frame",none,.plain,#[some (.ref 131),some (.ref 3),some (.ref 128),none,some (.str "bankwalk.errors" 203),none,some (.ref 0)]⟩
def qms:Obj:=Hd.oN ["self","row","at"] 350
def qmy:Obj:=⟨.none,none,.func { name:="__init__",qualname:="NoAsk.__init__",params:=jm (Hd.inC (top 12)),body:=.stmts (zi (Hd.inC (top 12))),scope:=qi (Hd.inC (top 12)),globals:=0,closure:=[],defaults:=.none,kwdefaults:=.none },#[]⟩
def qnZ:Obj:=Hd.oC [.str "__init__" 347,.str "NoAsk.__init__" 348,.str "/claim/cut.py" 349,.int (25) 0,.int (3) 0,.int (0) 0,.int (0) 0,.int (3) 0,.ref 133,.bool true,.int (181) 0,.ref 134,.none,.ref 135,.ref 136,.ref 137,.int (353) 0,.int (25) 0,.str "/claim/cut.py" 354]
def qoh:Obj:=⟨.type "function",none,.func (PySem.W.fnOf "__init__" "NoAsk.__init__" (jm (Hd.inC (top 12))) (zi (Hd.inC (top 12))) (qi (Hd.inC (top 12))) .none .none .none (.str "bankwalk.errors" 203) none (.ref 138) .none),#[]⟩
def qol:Obj:=Hd.oN ["at","row"] 356
def qnm (P:Params):Obj:=Hd.oD P 2 [(.str "__module__" 342,.str "bankwalk.errors" 203),(.str "__firstlineno__" 346,.int (23) 345),(.str "__init__" 355,.ref 139),(.str "__static_attributes__" 358,.ref 140),(.str "__doc__" 359,.none)]
def qhb:Obj:=⟨.type "type",none,.cls ({ name:=Str.ofString "NoAsk",bases:=[Value.ref 38],  mro:=    [Value.ref 142,Value.ref 38,Value.type "ValueError",Value.type "Exception",Value.type "BaseException",      Value.type "object"],  ns:=141,qualname:=Str.ofString "NoAsk" }),#[some (.ref 126),none,some (.str "NoAsk" 335),some (.str "NoAsk" 343),some (.builtin "ValueError.__new__"),some (.bool true)]⟩
def qou:Obj:=⟨.type "super",none,.fields #[.ref 142,.ref 142,.ref 142],#[]⟩
def qnn:Obj:=⟨.type "builtin_function_or_method",none,.fields #[.builtin "object.__init_subclass__",.ref 142],#[]⟩
def qn0 (P:Params):Obj:=Hd.oD P 5 [(.str "__module__" 369,.str "bankwalk.errors" 203),(.str "__qualname__" 371,.str "BadRow" 370),(.str "__firstlineno__" 373,.int (28) 372),(.str "__init__" 381,.ref 158),(.str "__static_attributes__" 383,.ref 159)]
def qoc:Obj:=⟨.none,none,.fields #[.int (30) 0,.int (4) 0,.ref 157],#[]⟩
def qnk:Obj:=Hd.oC [.str "BadRow" 364,.str "BadRow" 365,.str "/claim/cut.py" 366,.int (28) 0,.int (0) 0,.int (0) 0,.int (0) 0,.int (0) 0,.ref 148,.bool false,.int (181) 0,.ref 149,.none,.none,.none,.none,.int (367) 0,.int (28) 0,.str "/claim/cut.py" 368]
def qog:Obj:=⟨.type "frame",none,.plain,#[some (.ref 150),some (.ref 3),some (.ref 147),none,some (.str "bankwalk.errors" 203),none,some (.ref 0)]⟩
def qn5:Obj:=Hd.oN ["self","row"] 377
def qos:Obj:=⟨.none,none,.func { name:="__init__",qualname:="BadRow.__init__",params:=jm (Hd.inC (top 13)),body:=.stmts (zi (Hd.inC (top 13))),scope:=qi (Hd.inC (top 13)),globals:=0,closure:=[],defaults:=.none,kwdefaults:=.none },#[]⟩
def qnP:Obj:=Hd.oC [.str "__init__" 374,.str "BadRow.__init__" 375,.str "/claim/cut.py" 376,.int (30) 0,.int (2) 0,.int (0) 0,.int (0) 0,.int (3) 0,.ref 152,.bool true,.int (181) 0,.ref 153,.none,.ref 154,.ref 155,.ref 156,.int (379) 0,.int (30) 0,.str "/claim/cut.py" 380]
def qnE:Obj:=⟨.type "function",none,.func (PySem.W.fnOf "__init__" "BadRow.__init__" (jm (Hd.inC (top 13))) (zi (Hd.inC (top 13))) (qi (Hd.inC (top 13))) .none .none .none (.str "bankwalk.errors" 203) none (.ref 157) .none),#[]⟩
def qm9:Obj:=Hd.oN ["row"] 382
def qg2 (P:Params):Obj:=Hd.oD P 2 [(.str "__module__" 369,.str "bankwalk.errors" 203),(.str "__firstlineno__" 373,.int (28) 372),(.str "__init__" 381,.ref 158),(.str "__static_attributes__" 383,.ref 159),(.str "__doc__" 384,.none)]
def qc7:Obj:=⟨.type "type",none,.cls ({ name:=Str.ofString "BadRow",bases:=[Value.ref 38],  mro:=    [Value.ref 161,Value.ref 38,Value.type "ValueError",Value.type "Exception",Value.type "BaseException",      Value.type "object"],  ns:=160,qualname:=Str.ofString "BadRow" }),#[some (.ref 145),none,some (.str "BadRow" 362),some (.str "BadRow" 370),some (.builtin "ValueError.__new__"),some (.bool true)]⟩
def qlZ:Obj:=⟨.type "super",none,.fields #[.ref 161,.ref 161,.ref 161],#[]⟩
def qkA:Obj:=⟨.type "builtin_function_or_method",none,.fields #[.builtin "object.__init_subclass__",.ref 161],#[]⟩
def qkG:Obj:=Hd.oN DG 392
def qkR:Obj:=Hd.oG "size_of" Q1
def qex:Obj:=Hd.oK "size_of" 389 33 1 181 164 165 .none (.ref 166) (.ref 167) 168 400 401
def qdU:Obj:=Hd.oF "size_of" Q1 (.str "bankwalk.dealings" 387) (.ref 169)
def qjM:Obj:=Hd.oN JC 406
def qla:Obj:=Hd.oG "is_word" Q0
def qdb:Obj:=Hd.oK "is_word" 403 44 2 181 171 172 .none (.ref 173) (.ref 174) 175 411 412
def qdD:Obj:=Hd.oF "is_word" Q0 (.str "bankwalk.dealings" 387) (.ref 176)
def qen (P:Params):Obj:=Hd.oD P 4 [(.str "row" 416,.ref 179),(.str "column" 419,.ref 180),(.str "slant" 422,.ref 181),(.str "back" 425,.ref 182)]
def qc9:Obj:=Hd.oT [.int (0) 417,.int (1) 418]
def qdk:Obj:=Hd.oT [.int (1) 420,.int (0) 421]
def qdo:Obj:=Hd.oT [.int (1) 423,.int (1) 424]
def qdJ:Obj:=Hd.oT [.int (1) 426,.int (-1) 428]
def qi6:Obj:=Hd.oG "strung" Z9
def qc8:Obj:=Hd.oK "strung" 434 51 3 181 183 184 .none .none .none 185 437 438
def qeV:Obj:=Hd.oF "strung" Z9 (.str "bankwalk.walks" 414) (.ref 186)
def qlO:Obj:=Hd.oG "cells_of" jW
def qdm:Obj:=Hd.oK "cells_of" 440 53 1 181 188 189 .none .none .none 190 443 444
def qej:Obj:=Hd.oF "cells_of" jW (.str "bankwalk.walks" 414) (.ref 191)
def qiT:Obj:=Hd.oG "shifted" QR
def qc5:Obj:=Hd.oK "shifted" 446 63 2 181 193 194 .none .none .none 195 449 450
def qcv:Obj:=Hd.oF "shifted" QR (.str "bankwalk.walks" 414) (.ref 196)
def qjY:Obj:=Hd.oG "is_start" j7
def qek:Obj:=Hd.oK "is_start" 452 65 3 181 198 199 .none .none .none 200 455 456
def qcS:Obj:=Hd.oF "is_start" j7 (.str "bankwalk.walks" 414) (.ref 201)
def qhG:Obj:=Hd.oN zX 461
def qhT:Obj:=Hd.oG "words_of" jn
def qcz:Obj:=Hd.oK "words_of" 458 67 3 181 203 204 .none (.ref 205) (.ref 206) 207 464 465
def qei:Obj:=Hd.oF "words_of" jn (.str "bankwalk.walks" 414) (.ref 208)
def qkJ:Obj:=Hd.oN E9 472
def qjd:Obj:=Hd.oG "_law_mix" QX
def qcZ:Obj:=Hd.oK "_law_mix" 469 72 2 181 210 211 .none (.ref 212) (.ref 213) 214 475 476
def qdF:Obj:=Hd.oF "_law_mix" QX (.str "law_bankwalk_k15_words_of_walks" 467) (.ref 215)
def qlX:Obj:=Hd.oN UC 481
def qgW:Obj:=Hd.oG "_law_left" jQ
def qdn:Obj:=Hd.oK "_law_left" 478 75 2 181 217 218 .none (.ref 219) (.ref 220) 221 485 486
def qde:Obj:=Hd.oF "_law_left" jQ (.str "law_bankwalk_k15_words_of_walks" 467) (.ref 222)
def qjt:Obj:=Hd.oN V3 491
def qlP:Obj:=Hd.oG "_law_pick" jV
def qeF:Obj:=Hd.oK "_law_pick" 488 79 2 181 224 225 .none (.ref 226) (.ref 227) 228 494 495
def qdB:Obj:=Hd.oF "_law_pick" jV (.str "law_bankwalk_k15_words_of_walks" 467) (.ref 229)
def qlQ:Obj:=Hd.oN YS 500
def qjX:Obj:=Hd.oG "_law_sides" jH
def qcw:Obj:=Hd.oK "_law_sides" 497 86 1 181 231 232 .none (.ref 233) (.ref 234) 235 504 505
def qdw:Obj:=Hd.oF "_law_sides" jH (.str "law_bankwalk_k15_words_of_walks" 467) (.ref 236)
def qg8:Obj:=Hd.oN EM 510
def qhr:Obj:=Hd.oG "_law_gcd" QT
def qcP:Obj:=Hd.oK "_law_gcd" 507 90 2 181 238 239 .none (.ref 240) (.ref 241) 242 512 513
def qcy:Obj:=Hd.oF "_law_gcd" QT (.str "law_bankwalk_k15_words_of_walks" 467) (.ref 243)
def qj9:Obj:=Hd.oN UG 518
def qhu:Obj:=Hd.oG "_law_skew" j0
def qew:Obj:=Hd.oK "_law_skew" 515 94 1 181 245 246 .none (.ref 247) (.ref 248) 249 523 524
def qdl:Obj:=Hd.oF "_law_skew" j0 (.str "law_bankwalk_k15_words_of_walks" 467) (.ref 250)
def qjF:Obj:=Hd.oN YR 529
def qjL:Obj:=Hd.oG "_law_rests" jt
def qeJ:Obj:=Hd.oK "_law_rests" 526 99 1 181 252 253 .none (.ref 254) (.ref 255) 256 535 536
def qct:Obj:=Hd.oF "_law_rests" jt (.str "law_bankwalk_k15_words_of_walks" 467) (.ref 257)
def qki:Obj:=Hd.oG "_law_bits" j5
def qcE:Obj:=Hd.oK "_law_bits" 538 107 2 181 259 260 .none .none .none 261 541 542
def qd2:Obj:=Hd.oF "_law_bits" j5 (.str "law_bankwalk_k15_words_of_walks" 467) (.ref 262)
def qhw:Obj:=Hd.oG "_law_table" jC
def qcA:Obj:=Hd.oK "_law_table" 544 112 1 181 264 265 .none .none .none 266 547 548
def qeB:Obj:=Hd.oF "_law_table" jC (.str "law_bankwalk_k15_words_of_walks" 467) (.ref 267)
def qjl:Obj:=Hd.oG "_law_small" ju
def qeG:Obj:=Hd.oK "_law_small" 550 117 1 181 269 270 .none .none .none 271 553 554
def qdv:Obj:=Hd.oF "_law_small" ju (.str "law_bankwalk_k15_words_of_walks" 467) (.ref 272)
def qkB:Obj:=Hd.oN ZO 559
def qik:Obj:=Hd.oG "_law_dealing" zU
def qdP:Obj:=Hd.oK "_law_dealing" 556 135 1 181 274 275 .none (.ref 276) (.ref 277) 278 563 564
def qdR:Obj:=Hd.oF "_law_dealing" zU (.str "law_bankwalk_k15_words_of_walks" 467) (.ref 279)
def qix:Obj:=Hd.oG "_law_size" j3
def qea:Obj:=Hd.oK "_law_size" 566 152 1 181 281 282 .none .none .none 283 569 570
def qda:Obj:=Hd.oF "_law_size" j3 (.str "law_bankwalk_k15_words_of_walks" 467) (.ref 284)
def qim:Obj:=Hd.oN UI 575
def qkV:Obj:=Hd.oG "_law_many" j6
def qee:Obj:=Hd.oK "_law_many" 572 162 1 181 286 287 .none (.ref 288) (.ref 289) 290 576 577
def qcT:Obj:=Hd.oF "_law_many" j6 (.str "law_bankwalk_k15_words_of_walks" 467) (.ref 291)
def qjk:Obj:=Hd.oN UN 582
def qii:Obj:=Hd.oG "_law_walk" jU
def qdy:Obj:=Hd.oK "_law_walk" 579 164 1 181 293 294 .none (.ref 295) (.ref 296) 297 593 594
def qdT:Obj:=Hd.oF "_law_walk" jU (.str "law_bankwalk_k15_words_of_walks" 467) (.ref 298)
def qlV:Obj:=Hd.oG "_law_cells" jv
def qdC:Obj:=Hd.oK "_law_cells" 596 183 1 181 300 301 .none .none .none 302 599 600
def qcQ:Obj:=Hd.oF "_law_cells" jv (.str "law_bankwalk_k15_words_of_walks" 467) (.ref 303)
def qiP:Obj:=Hd.oG "_law_starts" jc
def qcq:Obj:=Hd.oK "_law_starts" 602 193 2 181 305 306 .none .none .none 307 605 606
def qeb:Obj:=Hd.oF "_law_starts" jc (.str "law_bankwalk_k15_words_of_walks" 467) (.ref 308)
def qij:Obj:=Hd.oN QC 611
def qkS:Obj:=Hd.oG "_law_answer" jb
def qeM:Obj:=Hd.oK "_law_answer" 608 201 3 181 310 311 .none (.ref 312) (.ref 313) 314 618 619
def qeE:Obj:=Hd.oF "_law_answer" jb (.str "law_bankwalk_k15_words_of_walks" 467) (.ref 315)
def qg9:Obj:=Hd.oN jY 624
def qhI:Obj:=Hd.oG "_law_asked" jA
def qcF:Obj:=Hd.oK "_law_asked" 621 213 2 181 317 318 .none (.ref 319) (.ref 320) 321 630 631
def qeO:Obj:=Hd.oF "_law_asked" jA (.str "law_bankwalk_k15_words_of_walks" 467) (.ref 322)
def qhx:Obj:=Hd.oG "_law_is" Z7
def qcC:Obj:=Hd.oK "_law_is" 633 222 2 181 324 325 .none .none .none 326 636 637
def qc0:Obj:=Hd.oF "_law_is" Z7 (.str "law_bankwalk_k15_words_of_walks" 467) (.ref 327)
def qjy:Obj:=Hd.oG "law" Z5
def qdX:Obj:=Hd.oK "law" 639 231 1 181 329 330 .none .none .none 331 642 643
def qeq:Obj:=Hd.oF "law" Z5 (.str "law_bankwalk_k15_words_of_walks" 467) (.ref 332)
def qfL (P:Params):PySem.W.BT:=(Hd.nd (PySem.W.boot_o_0 P) (Hd.nd (PySem.W.boot_o_1 P) (Hd.nd (qly P) (Hd.nd (PySem.W.boot_o_7 P) (Hd.nd zb (Hd.nd (qk7 P) (Hd.nd qgB (Hd.nd Z3 (Hd.lf zb) .nil) (Hd.nd qdm (Hd.lf qg9) .nil)) (Hd.nd qli (Hd.nd qm9 (Hd.lf jI) .nil) (Hd.lf qde))) (Hd.nd qlf (Hd.nd Z3 (Hd.nd qou (Hd.lf qjl) .nil) (Hd.lf qhT)) (Hd.nd qfX (Hd.nd qla (Hd.lf qdC) .nil) (Hd.lf jI)))) (Hd.nd jI (Hd.nd qi0 (Hd.nd qhC (Hd.nd qms (Hd.lf qd2) .nil) (Hd.nd jI (Hd.lf qcC) .nil)) (Hd.nd Z3 (Hd.nd zb (Hd.lf qjk) .nil) (Hd.lf zb))) (Hd.nd Z3 (Hd.nd qft (Hd.nd qog (Hd.lf qdP) .nil) (Hd.lf qcZ)) (Hd.nd qjI (Hd.nd zb (Hd.lf jI) .nil) (Hd.lf qj9))))) (Hd.nd zb (Hd.nd qoH (Hd.nd qjb (Hd.nd Z3 (Hd.nd qn6 (Hd.lf zb) .nil) (Hd.nd qiT (Hd.lf qeO) .nil)) (Hd.nd qfQ (Hd.nd qkA (Hd.lf qee) .nil) (Hd.lf zb))) (Hd.nd qfh (Hd.nd qhO (Hd.nd (qn0 P) (Hd.lf jI) .nil) (Hd.lf jI)) (Hd.nd Z3 (Hd.nd qc9 (Hd.lf qiP) .nil) (Hd.lf qcP)))) (Hd.nd qfe (Hd.nd Z3 (Hd.nd qe2 (Hd.nd qoh (Hd.lf qcA) .nil) (Hd.nd zb (Hd.lf qjy) .nil)) (Hd.nd qjT (Hd.nd zb (Hd.lf qdT) .nil) (Hd.lf qjX))) (Hd.nd qi8 (Hd.nd Z3 (Hd.nd zb (Hd.lf qix) .nil) (Hd.lf qlX)) (Hd.nd qgm (Hd.nd qeV (Hd.lf qeM) .nil) (Hd.lf qdl)))))) (Hd.nd (PySem.W.boot_o_5 P) (Hd.nd (PySem.W.boot_o_9 P) (Hd.nd qpd (Hd.nd jI (Hd.nd qkO (Hd.nd zb (Hd.lf qeJ) .nil) (Hd.nd zb (Hd.lf qhI) .nil)) (Hd.nd zb (Hd.nd qc7 (Hd.lf zb) .nil) (Hd.lf jI))) (Hd.nd zb (Hd.nd zb (Hd.nd J8 (Hd.lf qdv) .nil) (Hd.lf qei)) (Hd.nd qjG (Hd.nd qdD (Hd.lf zb) .nil) (Hd.lf zb)))) (Hd.nd zb (Hd.nd qkF (Hd.nd zb (Hd.nd qmy (Hd.lf jI) .nil) (Hd.nd qek (Hd.lf zb) .nil)) (Hd.nd zb (Hd.nd qex (Hd.lf qii) .nil) (Hd.lf qlQ))) (Hd.nd zb (Hd.nd qja (Hd.nd jI (Hd.lf zb) .nil) (Hd.lf zb)) (Hd.nd zb (Hd.nd qi6 (Hd.lf zb) .nil) (Hd.lf qhu))))) (Hd.nd qmj (Hd.nd qgh (Hd.nd (qgH P) (Hd.nd zb (Hd.nd zb (Hd.lf qki) .nil) (Hd.nd qcv (Hd.lf jI) .nil)) (Hd.nd qh6 (Hd.nd jI (Hd.lf zb) .nil) (Hd.lf qeF))) (Hd.nd qi7 (Hd.nd zb (Hd.nd qoc (Hd.lf zb) .nil) (Hd.lf zb)) (Hd.nd zb (Hd.nd qdo (Hd.lf qeb) .nil) (Hd.lf zb)))) (Hd.nd qjZ (Hd.nd zb (Hd.nd qiJ (Hd.nd (qnm P) (Hd.lf zb) .nil) (Hd.nd qhG (Hd.lf qeq) .nil)) (Hd.nd zb (Hd.nd qjM (Hd.lf jI) .nil) (Hd.lf qdw))) (Hd.nd zb (Hd.nd zb (Hd.nd qnP (Hd.lf qda) .nil) (Hd.lf qgW)) (Hd.nd qkx (Hd.nd jI (Hd.lf zb) .nil) (Hd.lf jI))))))) (Hd.nd (PySem.W.boot_o_2 P) (Hd.nd (PySem.W.boot_o_4 P) (Hd.nd (PySem.W.boot_o_8 P) (Hd.nd jI (Hd.nd zb (Hd.nd qlG (Hd.nd (qni P) (Hd.lf qjL) .nil) (Hd.nd qej (Hd.lf zb) .nil)) (Hd.nd qh0 (Hd.nd (qg2 P) (Hd.lf qim) .nil) (Hd.lf zb))) (Hd.nd qg6 (Hd.nd (qlb P) (Hd.nd qnn (Hd.lf qeG) .nil) (Hd.lf qcz)) (Hd.nd qjj (Hd.nd qdb (Hd.lf qcQ) .nil) (Hd.lf qg8)))) (Hd.nd qjv (Hd.nd qiO (Hd.nd qlu (Hd.nd zb (Hd.lf zb) .nil) (Hd.nd qjY (Hd.lf qc0) .nil)) (Hd.nd (qkq P) (Hd.nd qkR (Hd.lf zb) .nil) (Hd.lf jI))) (Hd.nd (qlW P) (Hd.nd qjS (Hd.nd zb (Hd.lf qdR) .nil) (Hd.lf qdF)) (Hd.nd qlt (Hd.nd jI (Hd.lf qij) .nil) (Hd.lf zb))))) (Hd.nd qmE (Hd.nd qnY (Hd.nd zb (Hd.nd (qlU P) (Hd.nd qop (Hd.lf jI) .nil) (Hd.nd qc5 (Hd.lf zb) .nil)) (Hd.nd qhA (Hd.nd zb (Hd.lf qcT) .nil) (Hd.lf qlP))) (Hd.nd qkp (Hd.nd qjx (Hd.nd zb (Hd.lf qkB) .nil) (Hd.lf qkJ)) (Hd.nd (qin P) (Hd.nd qdk (Hd.lf qcq) .nil) (Hd.lf qcy)))) (Hd.nd qfZ (Hd.nd (qhj P) (Hd.nd qkh (Hd.nd qol (Hd.lf qeB) .nil) (Hd.nd jI (Hd.lf qdX) .nil)) (Hd.nd qiQ (Hd.nd jI (Hd.lf zb) .nil) (Hd.lf qcw))) (Hd.nd qj0 (Hd.nd (qkU P) (Hd.nd qos (Hd.lf qea) .nil) (Hd.lf zb)) (Hd.nd qjc (Hd.nd zb (Hd.lf qeE) .nil) (Hd.lf zb)))))) (Hd.nd (PySem.W.boot_o_6 P) (Hd.nd (PySem.W.boot_o_10 P) (Hd.nd zb (Hd.nd qjg (Hd.nd J8 (Hd.nd qmR (Hd.lf qct) .nil) (Hd.nd jI (Hd.lf qcF) .nil)) (Hd.nd (qho P) (Hd.nd qlZ (Hd.lf qkV) .nil) (Hd.lf qjt))) (Hd.nd (qh8 P) (Hd.nd jI (Hd.nd Z3 (Hd.lf zb) .nil) (Hd.lf zb)) (Hd.nd J8 (Hd.nd (qen P) (Hd.lf jI) .nil) (Hd.lf qhr)))) (Hd.nd qjU (Hd.nd J8 (Hd.nd (qlS P) (Hd.nd qnZ (Hd.lf qhw) .nil) (Hd.nd qcS (Hd.lf jI) .nil)) (Hd.nd jI (Hd.nd qdU (Hd.lf qdy) .nil) (Hd.lf zb))) (Hd.nd jI (Hd.nd J8 (Hd.nd qn5 (Hd.lf jI) .nil) (Hd.lf jI)) (Hd.nd (qhF P) (Hd.nd qc8 (Hd.lf qkS) .nil) (Hd.lf qew))))) (Hd.nd qmb (Hd.nd zb (Hd.nd qhJ (Hd.nd jI (Hd.nd jI (Hd.lf qcE) .nil) (Hd.nd zb (Hd.lf qhx) .nil)) (Hd.nd J8 (Hd.nd qkG (Hd.lf jI) .nil) (Hd.lf qdB))) (Hd.nd J8 (Hd.nd (qjN P) (Hd.nd qnk (Hd.lf qik) .nil) (Hd.lf qjd)) (Hd.nd jI (Hd.nd qdJ (Hd.lf zb) .nil) (Hd.lf jI)))) (Hd.nd Z3 (Hd.nd jI (Hd.nd J8 (Hd.nd qhb (Hd.lf jI) .nil) (Hd.lf zb)) (Hd.nd (qkD P) (Hd.nd zb (Hd.lf qlV) .nil) (Hd.lf zb))) (Hd.nd (qfj P) (Hd.nd jI (Hd.nd qnE (Hd.lf zb) .nil) (Hd.lf qdn)) (Hd.nd J8 (Hd.nd qlO (Hd.lf jI) .nil) (Hd.lf qjF))))))))
abbrev qdA:List Stmt:=(qam.drop 12).take 33
def qc4 (os : OsState) (w : World) : Prop := PySem.W.segRunT treeTable PySem.Challenge.pw_bankwalk_k15_words_of_walks w 11 (some (Value.ref 6)) 1 1411 (⟨qj4 w.params,126,{ },#[],{ },335,os⟩ : PySem.W.SharedT) (PySem.W.piecesOf qdA qhE XA ⟨21,0,22,8⟩ qi9) = some (.next,(⟨qfL w.params,334,{ },#[],{ },645,os⟩ : PySem.W.SharedT),XA,⟨231,0,247,15⟩)
set_option maxRecDepth 100000 in
set_option maxHeartbeats 0 in
def qkw (w:World) (os:OsState):qc4 os w:=
 PySem.W.byRow2 "special-get-raises" (P:=qc4 os) (λw=>show _=_ by kernel_rfl) (λw=>show _=_ by kernel_rfl) w
abbrev qe7 (P:Params):Heap:=PySem.W.absHeap (qfL P) 334 { }
def Kf (P:Params):PySem.W.Frag:=[(3,qly P),(20,qnY),(21,qgh),(27,qfe),(28,qfZ),(37,qgH P),(38,qhJ),(51,qfh),(62,qfj P),(63,qgB),(75,qe2),(87,qft),(99,qfQ),(111,qfX),(123,qgm),(142,qhb),(161,qc7),(169,qex),(170,qdU),(176,qdb),(177,qdD),(178,qen P),(179,qc9),(180,qdk),(181,qdo),(182,qdJ),(186,qc8),(187,qeV),(191,qdm),(192,qej),(196,qc5),(197,qcv),(201,qek),(202,qcS),(208,qcz),(209,qei),(215,qcZ),(216,qdF),(222,qdn),(223,qde),(229,qeF),(230,qdB),(236,qcw),(237,qdw),(243,qcP),(244,qcy),(250,qew),(251,qdl),(257,qeJ),(258,qct),(262,qcE),(263,qd2),(267,qcA),(268,qeB),(272,qeG),(273,qdv),(279,qdP),(280,qdR),(284,qea),(285,qda),(291,qee),(292,qcT),(298,qdy),(299,qdT),(303,qdC),(304,qcQ),(308,qcq),(309,qeb),(315,qeM),(316,qeE),(322,qcF),(323,qeO),(327,qcC),(328,qc0),(332,qdX),(333,qeq)]
def qku {l:PySem.W.OpenLaw} {w:World} {h:Heap} {mg:Str->Option Value} {fa:Addr} (X:(Kf w.params).In h) (G:h.Ns mainGlobals mg) (hfa:mg "law" = some (.ref fa)) :
  ∃ fd:FuncData,(∀ (s:Shared) (v:Value),BindsTo s fd ⟨[v],[]⟩ [("_law_script",v)])/\∀ base:Heap,(Kf w.params).In base->base.Ns mainGlobals mg->FnOk l.prog w (Kf w.params) mg base CX0 8 fa fd ["_law_script"] (lSp (Kf w.params) WY):=by
 have e:=hfa.symm.trans (Hd.zh X G "law" (.ref 333) (by kernel_rfl));cases e;have F0:=Hd.je (K:=Kf w.params) "is_number" jG 21 (.str "bankwalk.basics" 187) (.ref 20) (by kernel_rfl) (by kernel_rfl) (by kernel_rfl);have b0:=F0.binds (ps:=YG) λ_ _ _ _ _ _ us hl=>by obtain ⟨_,rfl⟩:=Pu.S0 hl;rfl
 have m0:=Hd.zh X G "is_number" (.ref 21) (by kernel_rfl);have F1:=Hd.je (K:=Kf w.params) "is_pair" Q5 28 (.str "bankwalk.basics" 187) (.ref 27) (by kernel_rfl) (by kernel_rfl) (by kernel_rfl);have b1:=F1.binds (ps:=ET) λ_ _ _ _ _ _ us hl=>by obtain ⟨_,rfl⟩:=Pu.S0 hl;rfl
 have m1:=Hd.zh X G "is_pair" (.ref 28) (by kernel_rfl);have F2:=Hd.je (K:=Kf w.params) "size_of" Q1 170 (.str "bankwalk.dealings" 387) (.ref 169) (by kernel_rfl) (by kernel_rfl) (by kernel_rfl);have b2:=F2.binds (ps:=EW) λ_ _ _ _ _ _ us hl=>by obtain ⟨_,rfl⟩:=Pu.S0 hl;rfl
 have m2:=Hd.zh X G "size_of" (.ref 170) (by kernel_rfl);have F3:=Hd.je (K:=Kf w.params) "is_word" Q0 177 (.str "bankwalk.dealings" 387) (.ref 176) (by kernel_rfl) (by kernel_rfl) (by kernel_rfl);have b3:=F3.binds (ps:=DO) λ_ _ _ _ _ _ us hl=>by obtain ⟨_,_,rfl⟩:=Pu.qaz hl;rfl
 have m3:=Hd.zh X G "is_word" (.ref 177) (by kernel_rfl);have F4:=Hd.je (K:=Kf w.params) "strung" Z9 187 (.str "bankwalk.walks" 414) (.ref 186) (by kernel_rfl) (by kernel_rfl) (by kernel_rfl);have b4:=F4.binds (ps:=XY) λ_ _ _ _ _ _ us hl=>by obtain ⟨_,_,_,rfl⟩:=Pu.qmo hl;rfl
 have m4:=Hd.zh X G "strung" (.ref 187) (by kernel_rfl);have F5:=Hd.je (K:=Kf w.params) "cells_of" jW 192 (.str "bankwalk.walks" 414) (.ref 191) (by kernel_rfl) (by kernel_rfl) (by kernel_rfl);have b5:=F5.binds (ps:=UH) λ_ _ _ _ _ _ us hl=>by obtain ⟨_,rfl⟩:=Pu.S0 hl;rfl
 have m5:=Hd.zh X G "cells_of" (.ref 192) (by kernel_rfl);have F6:=Hd.je (K:=Kf w.params) "shifted" QR 197 (.str "bankwalk.walks" 414) (.ref 196) (by kernel_rfl) (by kernel_rfl) (by kernel_rfl);have b6:=F6.binds (ps:=DT) λ_ _ _ _ _ _ us hl=>by obtain ⟨_,_,rfl⟩:=Pu.qaz hl;rfl
 have m6:=Hd.zh X G "shifted" (.ref 197) (by kernel_rfl);have F7:=Hd.je (K:=Kf w.params) "is_start" j7 202 (.str "bankwalk.walks" 414) (.ref 201) (by kernel_rfl) (by kernel_rfl) (by kernel_rfl);have b7:=F7.binds (ps:=UB) λ_ _ _ _ _ _ us hl=>by obtain ⟨_,_,_,rfl⟩:=Pu.qmo hl;rfl
 have m7:=Hd.zh X G "is_start" (.ref 202) (by kernel_rfl);have F8:=Hd.je (K:=Kf w.params) "words_of" jn 209 (.str "bankwalk.walks" 414) (.ref 208) (by kernel_rfl) (by kernel_rfl) (by kernel_rfl);have b8:=F8.binds (ps:=JY) λ_ _ _ _ _ _ us hl=>by obtain ⟨_,_,_,rfl⟩:=Pu.qmo hl;rfl
 have m8:=Hd.zh X G "words_of" (.ref 209) (by kernel_rfl);have F9:=Hd.je (K:=Kf w.params) "_law_mix" QX 216 (.str "law_bankwalk_k15_words_of_walks" 467) (.ref 215) (by kernel_rfl) (by kernel_rfl) (by kernel_rfl);have b9:=F9.binds (ps:=DW) λ_ _ _ _ _ _ us hl=>by obtain ⟨_,_,rfl⟩:=Pu.qaz hl;rfl
 have m9:=Hd.zh X G "_law_mix" (.ref 216) (by kernel_rfl);have F10:=Hd.je (K:=Kf w.params) "_law_left" jQ 223 (.str "law_bankwalk_k15_words_of_walks" 467) (.ref 222) (by kernel_rfl) (by kernel_rfl) (by kernel_rfl);have b10:=F10.binds (ps:=UE) λ_ _ _ _ _ _ us hl=>by obtain ⟨_,_,rfl⟩:=Pu.qaz hl;rfl
 have m10:=Hd.zh X G "_law_left" (.ref 223) (by kernel_rfl);have F11:=Hd.je (K:=Kf w.params) "_law_pick" jV 230 (.str "law_bankwalk_k15_words_of_walks" 467) (.ref 229) (by kernel_rfl) (by kernel_rfl) (by kernel_rfl);have b11:=F11.binds (ps:=UK) λ_ _ _ _ _ _ us hl=>by obtain ⟨_,_,rfl⟩:=Pu.qaz hl;rfl
 have m11:=Hd.zh X G "_law_pick" (.ref 230) (by kernel_rfl);have F12:=Hd.je (K:=Kf w.params) "_law_sides" jH 237 (.str "law_bankwalk_k15_words_of_walks" 467) (.ref 236) (by kernel_rfl) (by kernel_rfl) (by kernel_rfl);have b12:=F12.binds (ps:=YF) λ_ _ _ _ _ _ us hl=>by obtain ⟨_,rfl⟩:=Pu.S0 hl;rfl
 have m12:=Hd.zh X G "_law_sides" (.ref 237) (by kernel_rfl);have F13:=Hd.je (K:=Kf w.params) "_law_gcd" QT 244 (.str "law_bankwalk_k15_words_of_walks" 467) (.ref 243) (by kernel_rfl) (by kernel_rfl) (by kernel_rfl);have b13:=F13.binds (ps:=DN) λ_ _ _ _ _ _ us hl=>by obtain ⟨_,_,rfl⟩:=Pu.qaz hl;rfl
 have m13:=Hd.zh X G "_law_gcd" (.ref 244) (by kernel_rfl);have F14:=Hd.je (K:=Kf w.params) "_law_skew" j0 251 (.str "law_bankwalk_k15_words_of_walks" 467) (.ref 250) (by kernel_rfl) (by kernel_rfl) (by kernel_rfl);have b14:=F14.binds (ps:=V0) λ_ _ _ _ _ _ us hl=>by obtain ⟨_,rfl⟩:=Pu.S0 hl;rfl
 have m14:=Hd.zh X G "_law_skew" (.ref 251) (by kernel_rfl);have F15:=Hd.je (K:=Kf w.params) "_law_rests" jt 258 (.str "law_bankwalk_k15_words_of_walks" 467) (.ref 257) (by kernel_rfl) (by kernel_rfl) (by kernel_rfl);have b15:=F15.binds (ps:=YI) λ_ _ _ _ _ _ us hl=>by obtain ⟨_,rfl⟩:=Pu.S0 hl;rfl
 have m15:=Hd.zh X G "_law_rests" (.ref 258) (by kernel_rfl);have F16:=Hd.je (K:=Kf w.params) "_law_bits" j5 263 (.str "law_bankwalk_k15_words_of_walks" 467) (.ref 262) (by kernel_rfl) (by kernel_rfl) (by kernel_rfl);have b16:=F16.binds (ps:=V5) λ_ _ _ _ _ _ us hl=>by obtain ⟨_,_,rfl⟩:=Pu.qaz hl;rfl
 have m16:=Hd.zh X G "_law_bits" (.ref 263) (by kernel_rfl);have F17:=Hd.je (K:=Kf w.params) "_law_table" jC 268 (.str "law_bankwalk_k15_words_of_walks" 467) (.ref 267) (by kernel_rfl) (by kernel_rfl) (by kernel_rfl);have b17:=F17.binds (ps:=YM) λ_ _ _ _ _ _ us hl=>by obtain ⟨_,rfl⟩:=Pu.S0 hl;rfl
 have m17:=Hd.zh X G "_law_table" (.ref 268) (by kernel_rfl);have F18:=Hd.je (K:=Kf w.params) "_law_small" ju 273 (.str "law_bankwalk_k15_words_of_walks" 467) (.ref 272) (by kernel_rfl) (by kernel_rfl) (by kernel_rfl);have b18:=F18.binds (ps:=YO) λ_ _ _ _ _ _ us hl=>by obtain ⟨_,rfl⟩:=Pu.S0 hl;rfl
 have m18:=Hd.zh X G "_law_small" (.ref 273) (by kernel_rfl);have F19:=Hd.je (K:=Kf w.params) "_law_dealing" zU 280 (.str "law_bankwalk_k15_words_of_walks" 467) (.ref 279) (by kernel_rfl) (by kernel_rfl) (by kernel_rfl);have b19:=F19.binds (ps:=ZJ) λ_ _ _ _ _ _ us hl=>by obtain ⟨_,rfl⟩:=Pu.S0 hl;rfl
 have m19:=Hd.zh X G "_law_dealing" (.ref 280) (by kernel_rfl);have F20:=Hd.je (K:=Kf w.params) "_law_size" j3 285 (.str "law_bankwalk_k15_words_of_walks" 467) (.ref 284) (by kernel_rfl) (by kernel_rfl) (by kernel_rfl);have b20:=F20.binds (ps:=UL) λ_ _ _ _ _ _ us hl=>by obtain ⟨_,rfl⟩:=Pu.S0 hl;rfl
 have m20:=Hd.zh X G "_law_size" (.ref 285) (by kernel_rfl);have F21:=Hd.je (K:=Kf w.params) "_law_many" j6 292 (.str "law_bankwalk_k15_words_of_walks" 467) (.ref 291) (by kernel_rfl) (by kernel_rfl) (by kernel_rfl);have b21:=F21.binds (ps:=V2) λ_ _ _ _ _ _ us hl=>by obtain ⟨_,rfl⟩:=Pu.S0 hl;rfl
 have m21:=Hd.zh X G "_law_many" (.ref 292) (by kernel_rfl);have F22:=Hd.je (K:=Kf w.params) "_law_walk" jU 299 (.str "law_bankwalk_k15_words_of_walks" 467) (.ref 298) (by kernel_rfl) (by kernel_rfl) (by kernel_rfl);have b22:=F22.binds (ps:=V7) λ_ _ _ _ _ _ us hl=>by obtain ⟨_,rfl⟩:=Pu.S0 hl;rfl
 have m22:=Hd.zh X G "_law_walk" (.ref 299) (by kernel_rfl);have F23:=Hd.je (K:=Kf w.params) "_law_cells" jv 304 (.str "law_bankwalk_k15_words_of_walks" 467) (.ref 303) (by kernel_rfl) (by kernel_rfl) (by kernel_rfl);have b23:=F23.binds (ps:=YX) λ_ _ _ _ _ _ us hl=>by obtain ⟨_,rfl⟩:=Pu.S0 hl;rfl
 have m23:=Hd.zh X G "_law_cells" (.ref 304) (by kernel_rfl);have F24:=Hd.je (K:=Kf w.params) "_law_starts" jc 309 (.str "law_bankwalk_k15_words_of_walks" 467) (.ref 308) (by kernel_rfl) (by kernel_rfl) (by kernel_rfl);have b24:=F24.binds (ps:=JG) λ_ _ _ _ _ _ us hl=>by obtain ⟨_,_,rfl⟩:=Pu.qaz hl;rfl
 have m24:=Hd.zh X G "_law_starts" (.ref 309) (by kernel_rfl);have F25:=Hd.je (K:=Kf w.params) "_law_answer" jb 316 (.str "law_bankwalk_k15_words_of_walks" 467) (.ref 315) (by kernel_rfl) (by kernel_rfl) (by kernel_rfl);have b25:=F25.binds (ps:=JE) λ_ _ _ _ _ _ us hl=>by obtain ⟨_,_,_,rfl⟩:=Pu.qmo hl;rfl
 have m25:=Hd.zh X G "_law_answer" (.ref 316) (by kernel_rfl);have F26:=Hd.je (K:=Kf w.params) "_law_asked" jA 323 (.str "law_bankwalk_k15_words_of_walks" 467) (.ref 322) (by kernel_rfl) (by kernel_rfl) (by kernel_rfl);have b26:=F26.binds (ps:=YN) λ_ _ _ _ _ _ us hl=>by obtain ⟨_,_,rfl⟩:=Pu.qaz hl;rfl
 have m26:=Hd.zh X G "_law_asked" (.ref 323) (by kernel_rfl);have F27:=Hd.je (K:=Kf w.params) "_law_is" Z7 328 (.str "law_bankwalk_k15_words_of_walks" 467) (.ref 327) (by kernel_rfl) (by kernel_rfl) (by kernel_rfl);have b27:=F27.binds (ps:=XC) λ_ _ _ _ _ _ us hl=>by obtain ⟨_,_,rfl⟩:=Pu.qaz hl;rfl
 have m27:=Hd.zh X G "_law_is" (.ref 328) (by kernel_rfl);have F28:=Hd.je (K:=Kf w.params) "law" Z5 333 (.str "law_bankwalk_k15_words_of_walks" 467) (.ref 332) (by kernel_rfl) (by kernel_rfl) (by kernel_rfl);have k_63:ExK (Kf w.params) 63:=⟨by kernel_rfl,by kernel_rfl,by kernel_rfl,by kernel_rfl,by kernel_rfl,by kernel_rfl⟩
 have g_isinstance:=Hd.Y9 X G "isinstance" (by kernel_rfl);have g_bool:=Hd.Y9 X G "bool" (by kernel_rfl);have g_int:=Hd.Y9 X G "int" (by kernel_rfl);have g_len:=Hd.Y9 X G "len" (by kernel_rfl);have g_tuple:=Hd.Y9 X G "tuple" (by kernel_rfl);have g_range:=Hd.Y9 X G "range" (by kernel_rfl);have g_list:=Hd.Y9 X G "list" (by kernel_rfl);have g_STRIDES:Tb (Kf w.params) mg w "STRIDES" VB:=⟨178,_,4,Hd.zh X G "STRIDES" (.ref 178) (by kernel_rfl),(show (Kf w.params).lookup 178=some ⟨.type "dict",none,.dict #[⟨PyData.keyHash w.params "row",.str "row" 416,.ref 179⟩,⟨PyData.keyHash w.params "column",.str "column" 419,.ref 180⟩,⟨PyData.keyHash w.params "slant",.str "slant" 422,.ref 181⟩,⟨PyData.keyHash w.params "back",.str "back" 425,.ref 182⟩] 4,#[]⟩ by kernel_rfl),rfl,(.cons (v:=.ref 179) rfl (LL (show (Kf w.params).lookup 179=some ⟨.type "tuple",none,.seq #[.int (0) 417,.int (1) 418] 0,#[]⟩ by kernel_rfl)) (.cons (v:=.ref 180) rfl (LL (show (Kf w.params).lookup 180=some ⟨.type "tuple",none,.seq #[.int (1) 420,.int (0) 421] 0,#[]⟩ by kernel_rfl)) (.cons (v:=.ref 181) rfl (LL (show (Kf w.params).lookup 181=some ⟨.type "tuple",none,.seq #[.int (1) 423,.int (1) 424] 0,#[]⟩ by kernel_rfl)) (.cons (v:=.ref 182) rfl (LL (show (Kf w.params).lookup 182=some ⟨.type "tuple",none,.seq #[.int (1) 426,.int (-1) 428] 0,#[]⟩ by kernel_rfl)) .nil))))⟩
 have g_all:=Hd.Y9 X G "all" (by kernel_rfl);have g_abs:=Hd.Y9 X G "abs" (by kernel_rfl);have g_zip:=Hd.Y9 X G "zip" (by kernel_rfl);have g_min:=Hd.Y9 X G "min" (by kernel_rfl);have g_max:=Hd.Y9 X G "max" (by kernel_rfl);have g_cls_BankError:=Hd.zh X G "BankError" (.ref 38) (by kernel_rfl);have g_cls_BadRow:=Hd.zh X G "BadRow" (.ref 161) (by kernel_rfl);have g_cls_BadText:=Hd.zh X G "BadText" (.ref 123) (by kernel_rfl);have g_cls_Clash:=Hd.zh X G "Clash" (.ref 99) (by kernel_rfl);have g_cls_NoAsk:=Hd.zh X G "NoAsk" (.ref 142) (by kernel_rfl);have g_cls_NoOrder:=Hd.zh X G "NoOrder" (.ref 87) (by kernel_rfl);have g_cls_NotSquare:=Hd.zh X G "NotSquare" (.ref 111) (by kernel_rfl);have g_cls_NoWalk:=Hd.zh X G "NoWalk" (.ref 75) (by kernel_rfl);have g_cls_NoWord:=Hd.zh X G "NoWord" (.ref 51) (by kernel_rfl);have g_xd_0:XD (Kf w.params) [.ref 161,.ref 123,.ref 99,.ref 142,.ref 87,.ref 111,.ref 75,.ref 51] [(none,false),(some 63,false)]:=XD.cons (λ_ z=>nomatch z) (by kernel_rfl) (XD.cons (λ_ z=>by cases z;exact k_63) (by kernel_rfl) XD.nil);have g_ValueError:=Hd.Y9 X G "ValueError" (by kernel_rfl);have g_xd_1:XD (Kf w.params) [.type "ValueError"] [(none,false),(some 63,true)]:=XD.cons (λ_ z=>nomatch z) (by kernel_rfl) (XD.cons (λ_ z=>by cases z;exact k_63) (by kernel_rfl) XD.nil);have g_cls_NoStart:=Hd.zh X G "NoStart" (.ref 63) (by kernel_rfl);have g_xd_2:XD (Kf w.params) [.ref 63] [(none,false),(some 63,true)]:=XD.cons (λ_ z=>nomatch z) (by kernel_rfl) (XD.cons (λ_ z=>by cases z;exact k_63) (by kernel_rfl) XD.nil);have g_str:=Hd.Y9 X G "str" (by kernel_rfl);refine ⟨PySem.W.fnOf "law" "law" (jm Z5) (zi Z5) (qi Z5) .none .none .none (.str "law_bankwalk_k15_words_of_walks" 467) none (.ref 332) .none,λs v=>.of_eq rfl,λbase Xb _=>?_⟩;have g_ex_BankError:ExC base 38 [.ref 38,.type "ValueError",.type "Exception",.type "BaseException",.type "object"]:=Hd.qic Xb (by kernel_rfl);have g_ct_BankError:∀ C∈[63],Ct base 38 C:=Hd.qgk (Hd.qic (K:=Kf w.params) (C:=63) (mro:=[.ref 63,.ref 38,.type "ValueError",.type "Exception",.type "BaseException",.type "object"]) Xb (by kernel_rfl)) (by kernel_rfl) (λ_ z=>nomatch z);have g_ra_NoStart:RaX mg base "NoStart" 63:=Hd.qoz (nm:="NoStart") (N:=62) (bs:=[.ref 38]) (bm:=[.ref 38,.type "ValueError",.type "Exception",.type "BaseException",.type "object"]) (sub:=[]) (tb:=54) (t1:=239) (t2:=247) Xb (Hd.zh X G "NoStart" (.ref 63) (by kernel_rfl)) (by kernel_rfl) (by kernel_rfl) (by kernel_rfl) (by kernel_rfl);have O_is_number:=C5 (P:=l.prog) (w:=w) (base:=base) (k:=0) F0 b0 m0  g_isinstance g_bool g_int RQ;have O_is_pair:=MB (P:=l.prog) (w:=w) (base:=base) (k:=1) F1 b1 m1 O_is_number g_len g_isinstance g_tuple MG;have O_strung:=qax (P:=l.prog) (w:=w) (base:=base) (k:=0) F4 b4 m4  g_range Pv.qaG;have O_cells_of:=TD (P:=l.prog) (w:=w) (base:=base) (k:=1) F5 b5 m5 O_strung g_list g_range g_STRIDES Pv.T1;have O_shifted:=L9 (P:=l.prog) (w:=w) (base:=base) (k:=2) F6 b6 m6 O_cells_of  LR;have O_law_mix:=LX (P:=l.prog) (w:=w) (base:=base) (k:=0) F9 b9 m9   LU;have O_law_left:=T6 (P:=l.prog) (w:=w) (base:=base) (k:=0) F10 b10 m10  g_len g_abs SV;have O_law_pick:=TQ (P:=l.prog) (w:=w) (base:=base) (k:=1) F11 b11 m11 O_law_mix  KA;have O_law_sides:=C7 (P:=l.prog) (w:=w) (base:=base) (k:=2) F12 b12 m12 O_law_pick  R6;have O_law_gcd:=MN (P:=l.prog) (w:=w) (base:=base) (k:=0) F13 b13 m13   MQ;have O_law_skew:=SU (P:=l.prog) (w:=w) (base:=base) (k:=3) F14 b14 m14 O_law_sides (O_law_pick.mono (by decide))  T4;have O_law_rests:=RN (P:=l.prog) (w:=w) (base:=base) (k:=3) F15 b15 m15 O_law_sides (O_law_pick.mono (by decide)) (O_law_gcd.mono (by decide)) g_range RF;have O_law_bits:=S4 (P:=l.prog) (w:=w) (base:=base) (k:=2) F16 b16 m16 O_law_pick g_range g_tuple S5;have O_law_table:=SF (P:=l.prog) (w:=w) (base:=base) (k:=3) F17 b17 m17 O_law_sides (O_law_pick.mono (by decide)) g_range g_tuple C4;have O_law_small:=RI (P:=l.prog) (w:=w) (base:=base) (k:=2) F18 b18 m18 O_law_pick (O_law_gcd.mono (by decide)) g_range g_tuple R7;have O_law_dealing:=WA (P:=l.prog) (w:=w) (base:=base) (k:=4) F19 b19 m19 (O_law_pick.mono (by decide)) O_law_skew O_law_rests (O_law_bits.mono (by decide)) O_law_table (O_law_small.mono (by decide))  WI;have O_law_many:=T9 (P:=l.prog) (w:=w) (base:=base) (k:=2) F21 b21 m21 O_law_pick  SW;have O_law_walk:=TB (P:=l.prog) (w:=w) (base:=base) (k:=3) F22 b22 m22 (O_law_pick.mono (by decide)) O_law_many g_int g_range g_tuple TJ;have O_law_cells:=RY (P:=l.prog) (w:=w) (base:=base) (k:=0) F23 b23 m23  g_list g_range C8;have O_law_asked:=CV (P:=l.prog) (w:=w) (base:=base) (k:=2) F26 b26 m26 O_law_pick g_int g_range g_len RC;have O_law_is:=NM (P:=l.prog) (w:=w) (base:=base) (k:=0) F27 b27 m27  g_isinstance g_str g_list g_bool g_tuple g_all NL;have O_size_of_0:=KH (P:=l.prog) (w:=w) (base:=base) F2 b2 m2;have O_size_of_1:=V9 (P:=l.prog) (w:=w) (base:=base) (k:=0) F2 b2 m2 O_size_of_0 g_len (UA 0);have O_size_of_2:=V9 (P:=l.prog) (w:=w) (base:=base) (k:=1) F2 b2 m2 O_size_of_1 g_len (UA 1);have O_size_of_3:=V9 (P:=l.prog) (w:=w) (base:=base) (k:=2) F2 b2 m2 O_size_of_2 g_len (UA 2);have O_is_word:=MP (P:=l.prog) (w:=w) (base:=base) (k:=3) F3 b3 m3 (O_is_pair.mono (by decide)) O_size_of_3  LY;have O_is_start:=S7 (P:=l.prog) (w:=w) (base:=base) (k:=4) F7 b7 m7 (O_shifted.mono (by decide)) O_is_word (O_is_pair.mono (by decide)) g_all TK;have O_words_of:=TX (P:=l.prog) (w:=w) (base:=base) (k:=5) F8 b8 m8 O_is_start (O_shifted.mono (by decide))  T8;have O_words_of_x:=RB (P:=l.prog) (w:=w) (base:=base) (k:=5) F8 b8 m8 O_is_start g_ra_NoStart TN;have O_law_answer:=CA (P:=l.prog) (w:=w) (base:=base) (k:=6) F25 b25 m25 O_words_of O_words_of_x g_cls_BankError g_ex_BankError g_ct_BankError g_isinstance g_cls_BadRow g_cls_BadText g_cls_Clash g_cls_NoAsk g_cls_NoOrder g_cls_NotSquare g_cls_NoWalk g_cls_NoWord g_xd_0 g_ValueError g_xd_1 g_cls_NoStart g_xd_2 XV;have O_law_size_0:=KH (P:=l.prog) (w:=w) (base:=base) F20 b20 m20;have O_law_size_1:=YU (P:=l.prog) (w:=w) (base:=base) (k:=0) F20 b20 m20 O_law_size_0 g_len g_zip g_tuple (K15.YW 0);have O_law_size_2:=YU (P:=l.prog) (w:=w) (base:=base) (k:=1) F20 b20 m20 O_law_size_1 g_len g_zip g_tuple (K15.YW 1);have O_law_size_3:=YU (P:=l.prog) (w:=w) (base:=base) (k:=2) F20 b20 m20 O_law_size_2 g_len g_zip g_tuple (K15.YW 2);have O_law_starts:=XB (P:=l.prog) (w:=w) (base:=base) (k:=3) F24 b24 m24 O_law_size_3 (O_law_cells.mono (by decide)) g_min g_max g_range XF;exact qha (k:=7) F28 (O_law_left.mono (by decide)) (O_law_dealing.mono (by decide)) (O_law_walk.mono (by decide)) (O_law_cells.mono (by decide)) (O_law_starts.mono (by decide)) (O_law_asked.mono (by decide)) O_law_answer (O_law_is.mono (by decide)) g_len g_min g_range g_isinstance g_bool g_tuple g_list (qiV qhn)
set_option maxRecDepth 100000 in
set_option maxHeartbeats 0 in
def qkd (w : World) (os : OsState) : PySem.W.topRun treeTable PySem.Challenge.pw_bankwalk_k15_words_of_walks w 11 (some (Value.ref 6)) 2 (⟨qfL w.params,334,{ },#[],{ },645,os⟩ : PySem.W.SharedT).abs (PySem.W.restOf [] qhE XA ⟨231,0,247,15⟩ qi9) = some ⟨qe7 w.params,#[],{ },645,os⟩ := by kernel_rfl
def qn9:(qdx++(qdA++[]))=qam:=by kernel_rfl
set_option maxRecDepth 100000 in
set_option maxHeartbeats 0 in
def qfM (w : World) (os : OsState) : PySem.W.topRun treeTable PySem.Challenge.pw_bankwalk_k15_words_of_walks w 11 (some (Value.ref 6)) (12 + (1 + (1754 + (1411 + 2)))) ⟨PySem.W.boot_heap w.params,Array.mk [],PySem.W.boot_drawn,PySem.W.boot_toks,os⟩ (PySem.W.topStub PySem.Challenge.pw_bankwalk_k15_words_of_walks) = some ⟨qe7 w.params,#[],{ },645,os⟩ := by
 have h:=(PySem.W.piece_app (PySem.W.segRun_of (qlT w os)) (PySem.W.piece_app (PySem.W.segRun_of (qkw w os)) (qkd w os)))
 rw [qn9] at h;exact PySem.W.go_top (qlA w os) (PySem.W.piece_block (qlE w os) h)
abbrev Q : Program := PySem.W.view PySem.Challenge.pw_bankwalk_k15_words_of_walks [1,2,4,5,6,7,8,9,10,11,12,13,15,16,18,19,20,21,22,23,25,26,27,28,29,30,31,32,33,34,35,36,37,38,39,40,41,42,43,44]
set_option maxRecDepth 100000 in
set_option maxHeartbeats 0 in
def left : PySem.W.LeftO PySem.Challenge.pw_bankwalk_k15_words_of_walks Q ["STRIDES"] (λs=>PySem.W.xlAt Q [] s&&PySem.W.recOk [] s) (λs=>([3,20,21,27,28,37,38,51,62,63,75,87,99,111,123,142,161,169,170,176,177,178,179,180,181,182,186,187,191,192,196,197,201,202,208,209,215,216,222,223,229,230,236,237,243,244,250,251,257,258,262,263,267,268,272,273,279,280,284,285,291,292,298,299,303,304,308,309,315,316,322,323,327,328,332,333]:List Addr).map s.heap.get?) (λw=>(Kf w.params).map λp=>some p.2) 6452:=
 PySem.W.LeftO.of_pieces (H₀:=PySem.W.boot_heap) (H₁:=qe7) (gs₀:=Array.mk []) (gs₁:=#[]) (d₀:=PySem.W.boot_drawn) (d₁:={ }) (k₀:=PySem.W.boot_toks) (k₁:=645) (m₀:=11) (ann:=some (Value.ref 6)) (M:=(12+(1+(1754+(1411+2)))))
  (PySem.W.boot_open (by kernel_rfl) (by kernel_rfl) (λs=>by kernel_rfl)) (λw=>by kernel_rfl) qfM (by kernel_rfl) (λw=>by kernel_rfl)
end K15
open PySem PySem.W PyProof.Rows
set_option maxRecDepth 100000 in
set_option maxHeartbeats 0 in
theorem PySem.Challenge.cw_bankwalk_k15_words_of_walks_holds : PySem.Challenge.rw_bankwalk_k15_words_of_walks.Holds :=
 Hd.head (l := PySem.Challenge.rw_bankwalk_k15_words_of_walks) (q := K15.Q) (loose := ["STRIDES"]) (K:=K15.Kf) (as:=[3,20,21,27,28,37,38,51,62,63,75,87,99,111,123,142,161,169,170,176,177,178,179,180,181,182,186,187,191,192,196,197,201,202,208,209,215,216,222,223,229,230,236,237,243,244,250,251,257,258,262,263,267,268,272,273,279,280,284,285,291,292,298,299,303,304,308,309,315,316,322,323,327,328,332,333]) (N:=6452) (k:=8) (x:="_law_script")
  (d:=⟨"law",L2.jm K15.Z5,L2.zi K15.Z5,L2.qi K15.Z5,⟨231,0,247,15⟩⟩) (λ_=>by kernel_rfl) (by kernel_rfl) K15.left (by kernel_rfl) (by kernel_rfl) (by kernel_rfl) (by kernel_rfl) (by kernel_rfl)
  ⟨rfl,rfl,rfl,rfl,rfl,by decide +kernel⟩ (by w_witness2) rfl (by kernel_rfl) ⟨rfl,by decide,by decide,rfl⟩ (λw=>by kernel_rfl) λw mg fa h KX G hmg=>K15.qku KX G hmg
