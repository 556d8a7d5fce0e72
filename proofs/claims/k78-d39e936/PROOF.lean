import PyProof.Rows.All
import Wide.All
import OpenK.AllK
import Wide.FinOn
import Lean
import PyProof.EqAt
import PyProof.EqKinds
import PyProof.TupleCall
import PyProof.NeKinds
import KE.KRevSl
import PyProof.FactsAll.bool_2
import PyProof.Rows.EqBoolInt
import PyProof.Rows.IntBool
import KE.KUnpackStar
import KE.KIntText
import PySem.Challenge.RW_bankwalk_k78_walks_written_and_read
-- CHANGE: your row's module here,as the last of these rows
set_option Elab.async false
set_option genSizeOf false
set_option genInjectivity false
noncomputable section
abbrev Frg:=PySem.W.Frag
open List (getElem_cons_zero length_cons getElem?_cons_succ getElem_cons_succ getElem?_cons_zero length_nil set_cons_zero set_cons_succ length_map not_mem_nil mem_append_right map_cons mem_cons getElem?_set getElem?_map cons_append size_toArray getElem?_eq_getElem map_map mem_of_getElem? mem_map length_append getD_eq_getElem?_getD mem_range length_range)
def obb{α β:Type _}{o:Option α}{f:α->Option β}{b:β}(h:o.bind f=some b):∃a,o=some a/\f a=some b:=Option.bind_eq_some_iff.mp h
set_option linter.all false
set_option maxRecDepth 100000
namespace L2
open PySem PySem.Spec PyProof.Rows
abbrev Key:=Sum Int Str
def qk7:Key->Value->Bool
 |.inl k,v=>Value.isInt k v
 |.inr x,v=>Value.isStrOf x v
def qpr (w:World):Key->Int
 |.inl k=>hashInt k
 |.inr x=>hashStr w x
def zf:∀ {k:Key} {v:Value},qk7 k v=true->(∃ i t,k=Sum.inl i/\v=Value.int i t)\/(∃ x t,k=Sum.inr x/\v=Value.str x t)
 |.inl i,v,h=>by
  obtain ⟨t,e⟩:=Value.isInt_shape (k:=i) (v:=v) h;exact .inl ⟨i,t,rfl,e⟩
 |.inr x,v,h=>by
  obtain ⟨t,e⟩:=Value.isStrOf_shape (x:=x) (v:=v) h;exact .inr ⟨x,t,rfl,e⟩
def qjF (a b:Int):decide ((Sum.inl a:Key)=Sum.inl b)=(a==b):=by
 by_cases e:a=b
 ·subst e;simp
 ·have h:¬ (Sum.inl a:Key)=Sum.inl b:=λq=>e (Sum.inl.inj q);rw [decide_eq_false h];exact (beq_eq_false_iff_ne.mpr e).symm
def qhu (a b:Str):decide ((Sum.inr a:Key)=Sum.inr b)=decide (a=b):=by
 by_cases e:a=b
 ·subst e;simp
 ·have h:¬ (Sum.inr a:Key)=Sum.inr b:=λq=>e (Sum.inr.inj q);rw [decide_eq_false h,decide_eq_false e]
def qhj (a:Int) (b:Str):decide ((Sum.inl a:Key)=Sum.inr b)=false:=decide_eq_false (λq=>nomatch q)
def qkR (a:Str) (b:Int):decide ((Sum.inr a:Key)=Sum.inl b)=false:=decide_eq_false (λq=>nomatch q)
def MT (prog:Program) (w:World):PySem.KeyKind prog w Key where
 is:=qk7
 hash:=qpr w
 inj:=λv a b ha hb=>by
  rcases zf ha with ⟨i,t,rfl,rfl⟩|⟨x,t,rfl,rfl⟩
  ·rcases zf hb with ⟨j,u,rfl,e⟩|⟨y,u,rfl,e⟩
   ·injection e with e1 _;rw [e1]
   ·exact nomatch e
  ·rcases zf hb with ⟨j,u,rfl,e⟩|⟨y,u,rfl,e⟩
   ·exact nomatch e
   ·injection e with e1 _;rw [e1]
 byValue:=λk v h=>by
  rcases zf h with ⟨i,t,rfl,rfl⟩|⟨x,t,rfl,rfl⟩<;>rfl
 pyHash:=λhv h=>by
  rcases zf hv with ⟨i,t,rfl,rfl⟩|⟨x,t,rfl,rfl⟩
  ·exact wpAny_pyHash_int h
  ·exact wpAny_pyHash_str h
 eqBool:=λhu hv h=>by
  rcases zf hu with ⟨i,t,rfl,rfl⟩|⟨x,t,rfl,rfl⟩
  ·rcases zf hv with ⟨j,u,rfl,rfl⟩|⟨y,u,rfl,rfl⟩
   ·rw [qjF] at h;exact wpAny_eqBool_int h
   ·rw [qhj] at h;exact SeqAt.EqAt.int_str i t y u _ _ _ _ h
  ·rcases zf hv with ⟨j,u,rfl,rfl⟩|⟨y,u,rfl,rfl⟩
   ·rw [qkR] at h;exact SeqAt.EqAt.str_int x t j u _ _ _ _ h
   ·rw [qhu] at h;exact wpAny_eqBool_str h
 «strs»:=λk x t v h=>by
  rcases zf h with ⟨i,u,rfl,e⟩|⟨y,u,rfl,e⟩
  ·exact nomatch e
  ·injection e with e1 _;subst e1;cases v<;>rfl
set_option genInjectivity true in
inductive V where
 |non|bl (b:Bool)|int (i:Int)|str (x:Str)|byt (b:Array UInt8)|flt (b:UInt64)|ref (a:Addr)|ty (n:String)
 deriving DecidableEq
def jt:V->Value->Prop
 |.non,u=>u=Value.none
 |.bl b,u=>u=Value.bool b
 |.int i,u=>∃ t,u=Value.int i t
 |.str x,u=>∃ t,u=Value.str x t
 |.byt b,u=>∃ t,u=Value.bytes b t
 |.flt b,u=>∃ t,u=Value.float b t
 |.ref a,u=>u=Value.ref a
 |.ty n,u=>u=Value.type n
abbrev zx:List V->List Value->Prop:=Paired jt
def zx.length {xs:List V} {us:List Value} (r:zx xs us):xs.length=us.length:=Paired.length r
def zx.get:∀ {xs:List V} {us:List Value} {i:Nat} {x:V},zx xs us->xs[i]?=some x->∃ u,us[i]?=some u/\jt x u
 |_,_,_,_,.nil,e=>by simp at e
 |_,_,0,_,.cons r _,e=>by simp at e;subst e;exact ⟨_,rfl,r⟩
 |_,_,i+1,x,.cons _ t,e=>by
  obtain ⟨u,h1,h2⟩:=zx.get (i:=i) (x:=x) t (by simpa using e);exact ⟨u,by simpa using h1,h2⟩
def zx.set {x:V} {u:Value} (r:jt x u):∀ {xs:List V} {us:List Value} (i:Nat),zx xs us->zx (xs.set i x) (us.set i u)
 |_,_,_,.nil=>.nil
 |_,_,0,.cons _ t=>.cons r t
 |_,_,i+1,.cons q t=>.cons q (zx.set r i t)
def zx.append:∀ {xs ys:List V} {us ws:List Value},zx xs us->zx ys ws->zx (xs++ys) (us++ws)
 |_,_,_,_,.nil,s=>s
 |_,_,_,_,.cons r t,s=>.cons r (zx.append t s)
def zx.take:∀ {xs:List V} {us:List Value} (n:Nat),zx xs us->zx (xs.take n) (us.take n)
 |_,_,0,_=>.nil
 |_,_,_+1,.nil=>.nil
 |_,_,n+1,.cons r t=>.cons r (zx.take n t)
def zx.drop:∀ {xs:List V} {us:List Value} (n:Nat),zx xs us->zx (xs.drop n) (us.drop n)
 |_,_,0,r=>r
 |_,_,_+1,.nil=>.nil
 |_,_,n+1,.cons _ t=>zx.drop n t
def qoW:Option V->Option Value->Prop
 |some v,some u=>jt v u
 |none,none=>True
 |_,_=>False
def KV {κ:Type}:List (κ×V)->List (κ×Value)->Prop:=Paired λ(p:κ×V) (q:κ×Value)=>p.1=q.1/\jt p.2 q.2
def kV:Key->V
 |.inl i=>.int i
 |.inr x=>.str x
inductive HO where
 /-- a list -/
 |lst (xs:List V)
 /-- a tuple (never changes) -/
 |tup (xs:List V)
 /-- a dict whose keys are ints and texts;one whose keys are tuples of ints and texts (the empty one is both) -/
 |dK (kvs:List (Key×V))|dT (kvs:List (List Key×V))
 /-- a set of ints: its members,its size -/
 |set (S:Int->Bool) (n:Nat)
 /-- an instance of the class at C,its dict at dx,its attributes -/
 |ins (C dx:Addr) (fs:List (Str×V))
 /-- the dict of the instance at x -/
 |own (x:Addr)
 /-- the dict of an exception -/
 |xd (fs:List (Str×V))
 /-- a bound method,f of x -/
 |met (f x:Addr)
 /-- a range object lo,lo+1,.. below hi -/
 |rng (lo hi:Int)
 /-- a thing that is known to the object (the script;a dict while a loop walks it): read,never written while it is so -/
 |frz (o:Obj) (u:HO)
 /-- a code object's table -/
 |tbl (ps:Array Value)
 /-- any other thing,by what is true of its one object (a def of one's own: SetO a S n:=HO.ext λh=>..) -/
 |ext (φ:Heap->Prop)
abbrev Hp:=Addr->Option HO
def upd (H:Hp) (a:Addr) (o:HO):Hp:=λb=>if b=a then some o else H b
def qT {H:Hp} {a:Addr} {o:HO}:upd H a o a=some o:=by unfold upd;rw [if_pos rfl]
def qv {H:Hp} {a b:Addr} {o:HO} (h:b≠a):upd H a o b=H b:=by unfold upd;rw [if_neg h]
def qr {H:Hp} {a b:Addr} {o:HO} (h:H a=some o) (h':H b=none):a≠b:=by
 intro e;subst e;rw [h] at h';cases h'
def VW (h:Heap) (a:Addr) (items:Array Value):Prop:=∃ o,h.get? a=some o/\o.cls=.type "tuple"/\∃ n,o.data=.seq items n/\o.dict=none
def VW.tup {h:Heap} {a:Addr} {items:Array Value} (x:VW h a items):IsTup h a items:=let ⟨o,a,b,n,d,_⟩:=x;⟨o,a,b,n,d⟩
def VW.new (h:Heap) (items:Array Value):VW (h.push { cls:=.type "tuple",data:=.seq items }) h.objs.size items:=⟨_,Heap.get?_push_size _ rfl,rfl,_,rfl,rfl⟩
section
variable (P:Program) (w:World)
def ZN (H:Hp) (h:Heap) (a:Addr):HO->Prop
 |.lst xs=>xs.length<=sizeLine/\∃ (its:List Value) (n:Nat),zx xs its/\h.get? a=some { cls:=.type "list",data:=.seq its.toArray n }
 |.tup xs=>xs.length<=sizeLine/\∃ its:List Value,zx xs its/\VW h a its.toArray
 |.dK kvs=>kvs.length<=sizeLine/\(a==sysModules)=false/\∃ vs,KV kvs vs/\h.DictOf (MT P w) a vs
 |.dT kvs=>kvs.length<=sizeLine/\(a==sysModules)=false/\∃ xs:List (List Key×Addr×Value),
   Paired (λ(p:List Key×V) (q:List Key×Addr×Value)=>p.1=q.1/\H q.2.1=some (.tup (p.1.map kV))/\jt p.2 q.2.2) kvs xs /\
   ∃ o es ep,h.get? a=some o/\o.ExactDict/\o.data=.dict es ep/\es.toList=xs.map (entryOfKey (tupleKind (MT P w)))/\(xs.map (·.1)).Nodup
 |.set S n=>h.SetOf (intKind P w) a S n
 |.ins C dx fs=>H dx=some (.own a)/\fs.length<=1000/\dx≠a/\h.get? a=some (PySem.W.instObj C dx) /\
   ∃ mA,h.Ns1 dx mA/\(∀ f,qoW (fs.lookup f) (mA f))/\PySem.Within mA (fs.map (·.1))
 |.own _=>∃ o,h.get? a=some o
 |.xd fs=>∃ mA,h.Ns1 a mA/\∀ f,qoW (fs.lookup f) (mA f)
 |.rng lo hi=>∃ t u v,h.get? a=some { cls:=.type "range",data:=.fields #[.int lo t,.int hi u,.int 1 v] }
 |.frz o u=>h.get? a=some o/\ZN H h a u
 |.tbl ps=>h.get? a=some { cls:=.none,data:=.fields ps }
 |.met f x=>h.get? a=some (PySem.W.methodObj (.ref f) (.ref x))
 |.ext φ=>φ h/\(∃ o,h.get? a=some o)/\∀ h1 h2:Heap,φ h1->(∀ o,h1.get? a=some o->h2.get? a=some o)->φ h2
def HOk (H:Hp) (h:Heap):Prop:=∀ a o,H a=some o->ZN P w H h a o
end
section
variable {P:Program} {w:World} {H H':Hp} {h h':Heap} {a:Addr} {o:HO}
def ZN.lt (x:ZN P w H h a o):a<h.objs.size:=by
 cases o with
 |lst xs=>obtain ⟨_,_,_,_,e⟩:=x;exact Heap.lt_size e
 |tup xs=>obtain ⟨_,_,_,p⟩:=x;exact p.tup.lt
 |dK kvs=>obtain ⟨_,_,_,_,o,_,_,e,_⟩:=x;exact Heap.lt_size e
 |dT kvs=>obtain ⟨_,_,_,_,o,_,_,e,_⟩:=x;exact Heap.lt_size e
 |set S n=>obtain ⟨o,_,_,_,e,_⟩:=x;exact Heap.lt_size e
 |ins C dx fs=>obtain ⟨_,_,_,e,_⟩:=x;exact Heap.lt_size e
 |own y=>obtain ⟨_,e⟩:=x;exact Heap.lt_size e
 |xd fs=>obtain ⟨_,⟨_,_,_,e,_⟩,_⟩:=x;exact Heap.lt_size e
 |rng lo hi=>obtain ⟨_,_,_,e⟩:=x;exact Heap.lt_size e
 |frz ob u=>obtain ⟨e,_⟩:=x;exact Heap.lt_size e
 |tbl ps=>exact Heap.lt_size (show h.get? a=some _ from x)
 |met f y=>exact Heap.lt_size (show h.get? a=some _ from x)
 |ext φ=>obtain ⟨_,⟨_,e⟩,_⟩:=x;exact Heap.lt_size e
def Paired.mapP {α β:Type} {F G:α->β->Prop}:∀ {l₁:List α} {l₂:List β},Paired F l₁ l₂->(∀ a b,F a b->G a b)->Paired G l₁ l₂
 |_,_,.nil,_=>.nil
 |_,_,.cons r t,f=>.cons (f _ _ r) (Paired.mapP t f)
def ZN.stay (x:ZN P w H h a o) (k:∀ b u,(b=a\/H b=some (.own a))->h.get? b=some u->h'.get? b=some u)
  (ho:∀ b,H b=some (.own a)->H' b=some (.own a)) (ht:∀ b xs,H b=some (.tup xs)->H' b=some (.tup xs)):ZN P w H' h' a o:=by
 induction o with
 |lst xs=>obtain ⟨z,its,n,r,e⟩:=x;exact ⟨z,its,n,r,k _ _ (.inl rfl) e⟩
 |tup xs=>obtain ⟨z,its,r,ob,e,c⟩:=x;exact ⟨z,its,r,ob,k _ _ (.inl rfl) e,c⟩
 |dK kvs=>obtain ⟨z,y,vs,r,ob,es,ep,e,c⟩:=x;exact ⟨z,y,vs,r,ob,es,ep,k _ _ (.inl rfl) e,c⟩
 |dT kvs=>
  obtain ⟨z,y,xs,r,ob,es,ep,e,c⟩:=x;exact ⟨z,y,xs,Paired.mapP r λp q z=>⟨z.1,ht _ _ z.2.1,z.2.2⟩,ob,es,ep,k _ _ (.inl rfl) e,c⟩
 |set S n=>obtain ⟨ob,es,ep,t,e,c⟩:=x;exact ⟨ob,es,ep,t,k _ _ (.inl rfl) e,c⟩
 |ins C dx fs=>
  obtain ⟨d,z,ne,e,mA,⟨od,es,ep,e2,c⟩,r⟩:=x;exact ⟨ho _ d,z,ne,k _ _ (.inl rfl) e,mA,⟨od,es,ep,k _ _ (.inr d) e2,c⟩,r⟩
 |own y=>obtain ⟨ob,e⟩:=x;exact ⟨ob,k _ _ (.inl rfl) e⟩
 |xd fs=>obtain ⟨mA,⟨od,es,ep,e,c⟩,r⟩:=x;exact ⟨mA,⟨od,es,ep,k _ _ (.inl rfl) e,c⟩,r⟩
 |rng lo hi=>obtain ⟨t,u,v,e⟩:=x;exact ⟨t,u,v,k _ _ (.inl rfl) e⟩
 |frz ob u ih=>obtain ⟨e,q⟩:=x;exact ⟨k _ _ (.inl rfl) e,ih q⟩
 |tbl ps=>
  have e:h.get? a=some { cls:=.none,data:=.fields ps }:=x;show h'.get? a=some { cls:=.none,data:=.fields ps };exact k a _ (.inl rfl) e
 |met f y=>
  have e:h.get? a=some (PySem.W.methodObj (.ref f) (.ref y)):=x;show h'.get? a=some (PySem.W.methodObj (.ref f) (.ref y));exact k a _ (.inl rfl) e
 |ext φ=>obtain ⟨p,⟨o,e⟩,st⟩:=x;exact ⟨st _ _ p λo q=>k _ _ (.inl rfl) q,⟨o,k _ _ (.inl rfl) e⟩,st⟩
def HOk.lt (x:HOk P w H h) (e:H a=some o):a<h.objs.size:=(x a o e).lt
def HOk.fresh (x:HOk P w H h) (e:h.objs.size<=a):H a=none:=by
 cases q:H a with
 |none=>rfl
 |some u=>exact absurd (Nat.lt_of_lt_of_le (x.lt q) e) (Nat.lt_irrefl _)
def HOk.kept (x:HOk P w H h) (k:∀ b u,h.get? b=some u->h'.get? b=some u):HOk P w H h':=λa o e=>
 (x a o e).stay (λb u _ q=>k b u q) (λ_ q=>q) λ_ _ q=>q
def HOk.laid (x:HOk P w H h) (k:∀ b u,h.get? b=some u->h'.get? b=some u) (hp:h.objs.size<=a) (new:ZN P w (upd H a o) h' a o):HOk P w (upd H a o) h':=λb u e=>by
 have hn:=x.fresh hp;by_cases hb:b=a
 ·subst hb;rw [qT] at e;cases e;exact new
 ·rw [qv hb] at e;exact (x b u e).stay (λc v _ q=>k c v q) (λc q=>by rw [qv (qr q hn)];exact q) λc xs q=>by rw [qv (qr q hn)];exact q
end
def Rd (H:Hp) (a:Addr) (u:HO):Prop:=H a=some u\/∃ o,H a=some (.frz o u)
def Rd.ok {P:Program} {w:World} {H:Hp} {h:Heap} {a:Addr} {u:HO} (r:Rd H a u) (x:HOk P w H h):ZN P w H h a u:=by
 rcases r with r|⟨o,r⟩
 ·exact x a u r
 ·obtain ⟨_,q⟩:=x a _ r;exact q
def Mut:Option HO->Prop
 |some (.lst _)=>True
 |some (.dK _)=>True
 |some (.dT _)=>True
 |some (.set _ _)=>True
 |some (.ins _ _ _)=>True
 |some (.ext _)=>True
 |_=>False
section
variable {P:Program} {w:World} {H:Hp} {h h':Heap} {x e:Addr} {o':HO}
def HOk.write (ok:HOk P w H h) (mu:Mut (H x)) (he:e=x\/H e=some (.own x)) (k:∀ b u,b≠e->h.get? b=some u->h'.get? b=some u) (heo:∃ u,h'.get? e=some u)
  (new:ZN P w (upd H x o') h' x o'):HOk P w (upd H x o') h':=λb u q=>by
 have nown:∀ c y,H c=some (.own y)->c≠x:=λc y r z=>by subst z;rw [r] at mu;exact mu
 have ntup:∀ c xs,H c=some (.tup xs)->c≠x:=λc xs r z=>by subst z;rw [r] at mu;exact mu
 by_cases hb:b=x
 ·subst hb;rw [qT] at q;cases q;exact new
 ·rw [qv hb] at q;by_cases hbe:b=e
  ·have q':H b=some (.own x):=by
    rcases he with z|z
    ·exact absurd (hbe.trans z) hb
    ·rw [hbe];exact z
   rw [q] at q';cases q';obtain ⟨v,hv⟩:=heo;exact ⟨v,by rw [hbe];exact hv⟩
  ·refine (ok b u q).stay (λc v hc r=>k c v ?_ r) (λc r=>by rw [qv (nown c b r)];exact r) λc xs r=>by rw [qv (ntup c xs r)];exact r
   rcases hc with rfl|hc
   ·exact hbe
   ·rintro rfl;rcases he with z|z
    ·exact nown c b hc z
    ·rw [hc] at z;cases z;exact hb rfl
end
structure Un (fs ex:List Addr) (H H':Hp) (h h':Heap):Prop where
 keep:∀ b o,h.get? b=some o->H b=none->b∉fs->b∉ex->h'.get? b=some o
 slot:∀ b o,h.get? b=some o->H b=none->b∈fs->b∉ex->∃ sl,h'.get? b=some { o with slots:=sl }
 free:∀ b o,h.get? b=some o->H b=none->b∉ex->H' b=none
 there:∀ b o,h.get? b=some o->b∉ex->∃ o',h'.get? b=some o'
 tups:∀ b xs,H b=some (.tup xs)->H' b=some (.tup xs)
 frzs:∀ b o u,H b=some (.frz o u)->H' b=some (.frz o u)
 tbls:∀ b ps,H b=some (.tbl ps)->∃ more,H' b=some (.tbl (ps++more))
section
variable {fs fs' ex ex':List Addr} {H H1 H2:Hp} {h h1 h2 h':Heap} {a x e:Addr} {o:HO}
def Un.any (u:Un fs ex H H1 h h1) {b:Addr} {ob:Obj} (q:h.get? b=some ob) (n:H b=none) (hx:b∉ex):∃ sl,h1.get? b=some { ob with slots:=sl }:=by
 by_cases hb:b∈fs
 ·exact u.slot b ob q n hb hx
 ·exact ⟨ob.slots,u.keep b ob q n hb hx⟩
def Un.kept (k:∀ b u,h.get? b=some u->h'.get? b=some u):Un fs ex H H h h':=
 ⟨λb ob q _ _ _=>k b ob q,λb ob q _ _ _=>⟨ob.slots,k b ob q⟩,λ_ _ _ n _=>n,λb ob q _=>⟨ob,k b ob q⟩,λ_ _ q=>q,λ_ _ _ q=>q,λ_ ps q=>⟨#[],by rw [q];simp⟩⟩
def Un.refl:Un fs ex H H h h:=Un.kept λ_ _ q=>q
def Un.laid (k:∀ b u,h.get? b=some u->h'.get? b=some u) (hp:h.objs.size<=a) (hn:H a=none):Un fs ex H (upd H a o) h h' where
 keep:=λb u q _ _ _=>k b u q
 slot:=λb u q _ _ _=>⟨u.slots,k b u q⟩
 free:=λb u q n _=>by rw [qv (Nat.ne_of_lt (Nat.lt_of_lt_of_le (Heap.lt_size q) hp))];exact n
 there:=λb u q _=>⟨u,k b u q⟩
 tups:=λb xs q=>by rw [qv (qr q hn)];exact q
 frzs:=λb u xs q=>by rw [qv (qr q hn)];exact q
 tbls:=λb ps q=>⟨#[],by rw [qv (qr q hn),q];simp⟩
def Un.write (mu:Mut (H x)) (he:e=x\/H e=some (.own x)) (k:∀ b u,b≠e->h.get? b=some u->h'.get? b=some u) (heo:∃ u,h'.get? e=some u):Un fs ex H (upd H x o) h h':=by
 have hx:∀ b,H b=none->b≠x:=λb n z=>by subst z;rw [n] at mu;exact mu
 have hb:∀ b,H b=none->b≠e:=λb n z=>by
  subst z;rcases he with r|r
  ·exact hx b n r
  ·rw [n] at r;cases r
 have hm:∀ b u,H b=some u->¬ Mut (some u)->b≠x:=λb u q nm z=>by subst z;rw [q] at mu;exact nm mu
 refine ⟨λb u q n _ _=>k b u (hb b n) q,λb u q n _ _=>⟨u.slots,k b u (hb b n) q⟩,λb u q n _=>by rw [qv (hx b n)];exact n,λb u q _=>?_,
  λb xs q=>by rw [qv (hm b _ q λz=>z)];exact q,λb u xs q=>by rw [qv (hm b _ q λz=>z)];exact q,λb ps q=>⟨#[],by rw [qv (hm b _ q λz=>z),q];simp⟩⟩
 by_cases hbe:b=e
 ·subst hbe;exact heo
 ·exact ⟨u,k b u hbe q⟩
end
def trk (h:Heap) (H:Hp):List Addr:=(List.range h.objs.size).filter λa=>(H a).isSome
def qct (h:Heap) (H:Hp):Heap:=PySem.W.hideAll h (trk h H)
def qab (h:Heap) (H:Hp):(qct h H).objs.size=h.objs.size:=PySem.W.hideAll_size _ _
def qbO {h:Heap} {H:Hp} {b:Addr} {o:Obj} (e:h.get? b=some o) (n:H b=none):(qct h H).get? b=some o:=
 PySem.W.hideAll_get _ e λhm=>by
  have q:(H b).isSome=true:=(List.mem_filter.mp hm).2;rw [n] at q;simp at q
def qgk {h:Heap} {H:Hp} {b:Addr} {o:Obj} (e:(qct h H).get? b=some o):h.get? b=some o/\H b=none:=by
 have e':h.get? b=some o:=PySem.W.of_hideAll (trk h H) e;refine ⟨e',?_⟩;cases q:H b with
 |none=>rfl
 |some x=>
  have hm:b∈trk h H:=List.mem_filter.mpr ⟨mem_range.mpr (Heap.lt_size e'),by simp [q]⟩;have z:(qct h H).get? b=none:=PySem.W.hideAll_none (trk h H) hm;rw [z] at e;cases e
def qf2 (g h:Heap) (L:Addr):List (Addr×Obj):=(List.range h.objs.size).filterMap λa=>if a=L\/(g.get? a).isSome=true then none else (h.get? a).map λo=>(a,o)
def jk (g h:Heap) (L d:Addr):List (Addr×Obj):=(qf2 g h L).filter λp=>decide (p.1≠d)
structure Mod (K:Frg) (mg:Str->Option Value) (base:Heap):Prop where
 kin:K.In base
 glob:base.Ns mainGlobals mg
 blt:∃ mb,base.Ns builtinsNs mb/\∀ x:Str,x≠"__name__" -> mb x=bootBuiltins x
 nolimit:base.NoLimit
structure Cx where
 prog:Program
 w:World
 K:PySem.W.Frag
 mg:Str->Option Value
 base:Heap
 A:Around
 N:List Str
 s₀:Shared
 H₀:Hp
 env:Env
 outer:List Env
 stack:List Env
 ex:List Addr
 fn:Str->Bool
 calm:Bool
 pn:List (Addr×Obj)
 xe:Value->Shared->Prop
def frs (l:List Env):List Addr:=l.filterMap (·.frame)
abbrev Cx.fs (X:Cx):List Addr:=frs X.outer
def Vis (sc:Scope) (x:Str):Prop:=sc.names.lookup x=some .local\/sc.names.lookup x=some .cell\/sc.names.lookup x=some .free
def Loc (sc:Scope) (x:Str):Prop:=sc.names.lookup x=some .local\/sc.names.lookup x=some .cell
def qpg (env:Env) (h:Heap) (m:Str->Option Value) (x:Str) (u:Value):Prop:=
 (env.kindOf x=some .local/\m x=some u)\/((env.kindOf x=some .cell\/env.kindOf x=some .free)/\∃ c,env.cells.lookup x=some c/\h.IsCell c (some u))
structure Cx.Ok (X:Cx):Prop where
 mod:Mod X.K X.mg X.base
 kind:X.env.scope.kind=.function
 glob:X.env.globals=mainGlobals
 blt:X.env.builtins=builtinsNs
 above:X.s₀.heap.objs.size<=X.env.locals
 inj:∀ x y c,X.env.cells.lookup x=some c->X.env.cells.lookup y=some c->x=y
 has:∀ x,(X.env.kindOf x=some .cell\/X.env.kindOf x=some .free)->∃ c,X.env.cells.lookup x=some c
 cab:∀ x c,X.fn x=true->X.env.cells.lookup x=some c->X.s₀.heap.objs.size<=c
 hd:X.calm=true->X.A.handled=none
 frames:X.A.frames=some X.stack
 stk:X.stack=X.outer\/(X.stack=X.env::X.outer/\X.env.frame=some X.env.locals)
 exf:∀ b∈X.ex,b≠X.env.locals/\∀ x c,X.env.cells.lookup x=some c->c≠b
 bs:∀ b o,X.base.get? b=some o->X.s₀.heap.get? b=some o/\X.H₀ b=none
 bsz:X.base.objs.size<=X.s₀.heap.objs.size
 noex:∀ b o,X.base.get? b=some o->b∉X.ex
 exfs:∀ b∈X.ex,b∉X.fs
 funs:X.s₀.heap.FunFrames X.base X.outer
 frf:∀ b∈X.fs,X.H₀ b=none
structure Inv (X:Cx) (pins:List (Addr×Obj)) (σ:List (Option V)) (H:Hp) (s:Shared):Prop where
 ok:X.Ok
 os:s.os=X.s₀.os
 bare:AllBare s.gens
 base:Un X.fs X.ex X.H₀ H X.s₀.heap s.heap
 loc:∃ m,s.heap.Ns X.env.locals m/\∀ (i:Nat) (x:Str) (v:V),X.N[i]?=some x->σ[i]?=some (some v)->Vis X.env.scope x->∃ u,jt v u/\qpg X.env s.heap m x u
 cell:∀ x c,X.env.cells.lookup x=some c->∃ v,s.heap.IsCell c v
 free:H X.env.locals=none
 freeC:∀ x c,X.env.cells.lookup x=some c->H c=none
 pin:∀ p∈X.pn++pins,s.heap.get? p.1=some p.2/\H p.1=none/\p.1≠X.env.locals/\p.1∉X.fs/\∀ v,p.2.data≠.cell v
 hok:HOk X.prog X.w H s.heap
 len:σ.length=X.N.length
section
variable {X:Cx} {pins:List (Addr×Obj)} {σ:List (Option V)} {H H':Hp} {s:Shared} {h':Heap}
def Cx.Ok.nofr (ok:X.Ok) {b:Addr} {o:Obj} (e:X.base.get? b=some o):b∉X.fs:=λhb=>by
 have:=(ok.funs.mem hb).1;rw [e] at this;cases this
def Inv.bs (I:Inv X pins σ H s):∀ b o,X.base.get? b=some o->s.heap.get? b=some o/\H b=none:=λb o e=>
 ⟨I.base.keep b o (I.ok.bs b o e).1 (I.ok.bs b o e).2 (I.ok.nofr e) (I.ok.noex b o e),I.base.free b o (I.ok.bs b o e).1 (I.ok.bs b o e).2 (I.ok.noex b o e)⟩
def Inv.bk (I:Inv X pins σ H s):∀ b o,X.base.get? b=some o->s.heap.get? b=some o:=λb o e=>(I.bs b o e).1
def Inv.mod (I:Inv X pins σ H s):Mod X.K X.mg X.base:=I.ok.mod
def Inv.kIn (I:Inv X pins σ H s):X.K.In s.heap:=I.ok.mod.kin.keeps I.bk
def Inv.nolimit (I:Inv X pins σ H s):s.heap.NoLimit:=I.ok.mod.nolimit.keeps I.bk
def Inv.fr (I:Inv X pins σ H s):∃ m,Fr X.base X.env.locals s.heap m:=
 let ⟨m,hn,_⟩:=I.loc
 ⟨m,hn,I.bk,Nat.le_trans I.ok.bsz I.ok.above⟩
def Inv.lt (I:Inv X pins σ H s):X.env.locals<s.heap.objs.size:=let ⟨_,hn,_⟩:=I.loc;hn.lt
def Inv.sz (I:Inv X pins σ H s):X.s₀.heap.objs.size<=s.heap.objs.size:=Nat.le_trans I.ok.above (Nat.le_of_lt I.lt)
def Inv.nofs (I:Inv X pins σ H s) {a:Addr} (h:s.heap.objs.size<=a):a∉X.fs:=λhb=>by
 obtain ⟨_,o,ho,_⟩:=I.ok.funs.mem hb;exact absurd (Nat.lt_of_lt_of_le (Heap.lt_size ho) (Nat.le_trans I.sz h)) (Nat.lt_irrefl _)
def Inv.cne (I:Inv X pins σ H s):∀ x c,X.env.cells.lookup x=some c->c≠X.env.locals:=λx c e z=>by
 obtain ⟨v,o,ho,hd⟩:=I.cell x c e;obtain ⟨m,⟨o',es,ep,ho',hd',_⟩,_⟩:=I.loc;rw [z,ho'] at ho;cases ho;rw [hd'] at hd;cases hd
def Inv.funs (I:Inv X pins σ H s):s.heap.FunFrames X.base X.outer:=by
 have all:∀ (l:List Env),(∀ b∈frs l,b∈X.fs)->X.s₀.heap.FunFrames X.base l->s.heap.FunFrames X.base l:=by
  intro l;induction l with
  |nil=>intro _ _;trivial
  |cons env r ih=>
   intro hs hl;obtain ⟨hk,⟨L,o,hf,hn,ho,hd⟩,hr⟩:=hl;have hL:L∈X.fs:=hs L (by unfold frs;rw [List.filterMap_cons,hf];exact List.mem_cons_self);obtain ⟨sl,e⟩:=I.base.slot L o ho (I.ok.frf L hL) hL λz=>I.ok.exfs L z hL;exact ⟨hk,⟨L,_,hf,hn,e,hd⟩,ih (λb hb=>hs b (by unfold frs;rw [List.filterMap_cons,hf];exact List.mem_cons_of_mem _ hb)) hr⟩
 exact all X.outer (λ_ hb=>hb) I.ok.funs
def Inv.stack (I:Inv X pins σ H s):s.heap.FunFrames X.base X.stack:=by
 rcases I.ok.stk with e|⟨e,hf⟩
 ·rw [e];exact I.funs
 ·rw [e];obtain ⟨m,hn,_⟩:=I.loc;refine .cons (by rw [I.ok.kind];decide) hf hn ?_ I.funs;exact Heap.get?_none_of_le (Nat.le_trans I.ok.bsz I.ok.above)
def Inv.stkSub (I:Inv X pins σ H s):∀ b∈frs X.stack,b∈X.env.locals::X.fs:=λb hb=>by
 rcases I.ok.stk with e|⟨e,hf⟩
 ·rw [e] at hb;exact List.mem_cons_of_mem _ hb
 ·rw [e] at hb;unfold frs at hb;rw [List.filterMap_cons,hf] at hb;exact hb
def Inv.stkFree (I:Inv X pins σ H s):∀ b∈frs X.stack,H b=none:=λb hb=>by
 rcases mem_cons.mp (I.stkSub b hb) with e|hb
 ·rw [e];exact I.free
 ·obtain ⟨_,o,ho,_⟩:=I.ok.funs.mem hb;exact I.base.free b o ho (I.ok.frf b hb) λz=>I.ok.exfs b z hb
def Inv.step {g':Array GenState} {t':Nat} {d':Drawn} {ch:List Addr} (I:Inv X pins σ H s)
  (hch:∀ b∈ch,(b∈X.ex\/X.s₀.heap.objs.size<=b)/\b≠X.env.locals/\(∀ x c,X.env.cells.lookup x=some c->c≠b)/\∀ p∈X.pn++pins,p.1≠b)
  (keep:∀ b o,b≠X.env.locals->b∉X.fs->b∉ch->s.heap.get? b=some o->H b=none->h'.get? b=some o)
  (slot:∀ b o,b≠X.env.locals->b∈X.fs->b∉ch->s.heap.get? b=some o->H b=none->∃ sl,h'.get? b=some { o with slots:=sl }) (free:∀ b o,b∉ch->s.heap.get? b=some o->H b=none->H' b=none)
  (there:∀ b o,b∉ch->s.heap.get? b=some o->∃ o',h'.get? b=some o')
  (tups:∀ b xs,H b=some (.tup xs)->H' b=some (.tup xs)) (frzs:∀ b o u,H b=some (.frz o u)->H' b=some (.frz o u)) (tbls:∀ b ps,H b=some (.tbl ps)->∃ more,H' b=some (.tbl (ps++more)))
  (ns:∀ m,s.heap.Ns X.env.locals m->h'.Ns X.env.locals m) (hok:HOk X.prog X.w H' h') (hg:AllBare g') :
  Inv X pins σ H' { s with heap:=h',gens:=g',drawn:=d',toks:=t' }:=by
 have neL:∀ b o,X.s₀.heap.get? b=some o->b≠X.env.locals:=λb o e=>Nat.ne_of_lt (Nat.lt_of_lt_of_le (Heap.lt_size e) I.ok.above);have neC:∀ b o,X.s₀.heap.get? b=some o->b∉X.ex->b∉ch:=λb o e hx hb=>by
  rcases (hch b hb).1 with z|z
  ·exact hx z
  ·exact absurd (Nat.lt_of_lt_of_le (Heap.lt_size e) z) (Nat.lt_irrefl _)
 have cellK:∀ x c,X.env.cells.lookup x=some c->∀ v,s.heap.IsCell c v->h'.IsCell c v:=λx c e v ⟨o,ho,hd⟩=>by
  have nch:c∉ch:=λz=>(hch c z).2.2.1 x c e rfl;by_cases hc:c∈X.fs
  ·obtain ⟨sl,q⟩:=slot c o (I.cne x c e) hc nch ho (I.freeC x c e);exact ⟨_,q,hd⟩
  ·exact ⟨o,keep c o (I.cne x c e) hc nch ho (I.freeC x c e),hd⟩
 refine ⟨I.ok,I.os,hg,⟨λb o e n hb hx=>?_,λb o e n hb hx=>?_,λb o e n hx=>?_,λb o e hx=>?_,λb xs e=>tups b xs (I.base.tups b xs e),λb o xs e=>frzs b o xs (I.base.frzs b o xs e),λb ps e=>?_⟩,?_,λx c e=>?_,?_,λx c e=>?_,λp hp=>?_,hok,I.len⟩
 ·exact keep b o (neL b o e) hb (neC b o e hx) (I.base.keep b o e n hb hx) (I.base.free b o e n hx)
 ·obtain ⟨sl,e1⟩:=I.base.slot b o e n hb hx;obtain ⟨sl',e2⟩:=slot b _ (neL b o e) hb (neC b o e hx) e1 (I.base.free b o e n hx);exact ⟨sl',e2⟩
 ·obtain ⟨o',e1⟩:=I.base.there b o e hx;exact free b o' (neC b o e hx) e1 (I.base.free b o e n hx)
 ·obtain ⟨o',e1⟩:=I.base.there b o e hx;exact there b o' (neC b o e hx) e1
 ·obtain ⟨m1,e1⟩:=I.base.tbls b ps e;obtain ⟨m2,e2⟩:=tbls b _ e1;exact ⟨m1++m2,by rw [e2,Array.append_assoc]⟩
 ·obtain ⟨m,hn,hl⟩:=I.loc;refine ⟨m,ns m hn,λi x v e1 e2 e3=>?_⟩;obtain ⟨u,r,l⟩:=hl i x v e1 e2 e3;refine ⟨u,r,?_⟩;rcases l with l|⟨k,c,e,z⟩
  ·exact .inl l
  ·exact .inr ⟨k,c,e,cellK x c e _ z⟩
 ·obtain ⟨v,z⟩:=I.cell x c e;exact ⟨v,cellK x c e v z⟩
 ·obtain ⟨m,⟨o,_,_,ho,_⟩,_⟩:=I.loc;exact free _ o (λz=>(hch _ z).2.1 rfl) ho I.free
 ·obtain ⟨v,o,ho,hd⟩:=I.cell x c e;exact free c o (λz=>(hch c z).2.2.1 x c e rfl) ho (I.freeC x c e)
 ·obtain ⟨e,n,ne,nf,d⟩:=I.pin p hp;have nch:p.1∉ch:=λz=>(hch p.1 z).2.2.2 p hp rfl;exact ⟨keep p.1 p.2 ne nf nch e n,free p.1 p.2 nch e n,ne,nf,d⟩
def Inv.un {t':Nat} (I:Inv X pins σ H s) (u:Un X.fs [] H H' s.heap h') (hok:HOk X.prog X.w H' h'):Inv X pins σ H' { s with heap:=h',toks:=t' }:=by
 obtain ⟨m,⟨o,es,ep,ho,r⟩,_⟩:=id I.loc;obtain ⟨sl,hL⟩:=u.any ho I.free (by simp);exact I.step (g':=s.gens) (d':=s.drawn) (ch:=[]) (λ_ z=>nomatch z) (λb o _ hb _ e n=>u.keep b o e n hb (by simp)) (λb o _ hb _ e n=>u.slot b o e n hb (by simp)) (λb o _ e n=>u.free b o e n (by simp)) (λb o _ e=>u.there b o e (by simp)) u.tups u.frzs u.tbls (λm' hm=>by
  obtain ⟨o',es',ep',ho',r'⟩:=hm;rw [ho] at ho';cases ho';exact ⟨_,es',ep',hL,r'⟩) hok I.bare
def Inv.call {g':Array GenState} {t':Nat} {d':Drawn} {ch:List Addr} (I:Inv X pins σ H s) (u:Un (frs X.stack) ch H H' s.heap h') (hok:HOk X.prog X.w H' h') (hg:AllBare g')
  (hch:∀ b∈ch,(b∈X.ex\/X.s₀.heap.objs.size<=b)/\b≠X.env.locals/\(∀ x c,X.env.cells.lookup x=some c->c≠b)/\∀ p∈X.pn++pins,p.1≠b) :
  Inv X pins σ H' { s with heap:=h',gens:=g',drawn:=d',toks:=t' }:=by
 obtain ⟨m,⟨o,es,ep,ho,r⟩,_⟩:=id I.loc;obtain ⟨sl,hL⟩:=u.any ho I.free λz=>(hch _ z).2.1 rfl;exact I.step (ch:=ch) hch (λb o hL hb hc e n=>u.keep b o e n (λz=>(mem_cons.mp (I.stkSub b z)).elim hL hb) hc) (λb o _ _ hc e n=>u.any e n hc) (λb o hc e n=>u.free b o e n hc) (λb o hc e=>u.there b o e hc) u.tups u.frzs u.tbls (λm' hm=>by
  obtain ⟨o',es',ep',ho',r'⟩:=hm;rw [ho] at ho';cases ho';exact ⟨_,es',ep',hL,r'⟩) hok hg
def Inv.turned {t':Nat} {it:Addr} (I:Inv X pins σ H s) (k:∀ b o,b≠it->s.heap.get? b=some o->h'.get? b=some o) (hn:H it=none) (hL:it≠X.env.locals)
  (h1:it∈X.ex\/X.s₀.heap.objs.size<=it) (h2:∀ x c,X.env.cells.lookup x=some c->c≠it) (h3:∀ p∈X.pn++pins,p.1≠it):Inv X pins σ H { s with heap:=h',toks:=t' }:=by
 have nit:∀ b u,H b=some u->b≠it:=λb u e z=>by rw [z,hn] at e;cases e
 refine I.step (g':=s.gens) (d':=s.drawn) (ch:=[it]) (λb hb=>?_) (λb o _ _ hc e _=>k b o (λz=>hc (by simp [z])) e) (λb o _ _ hc e _=>⟨o.slots,k b o (λz=>hc (by simp [z])) e⟩) (λ_ _ _ _ n=>n)
  (λb o hc e=>⟨o,k b o (λz=>hc (by simp [z])) e⟩) (λ_ _ e=>e) (λ_ _ _ e=>e) (λb ps e=>⟨#[],by rw [e];simp⟩) (λm hm=>?_) (λb u e=>?_) I.bare
 ·have e:b=it:=by simpa using hb
  subst e;exact ⟨h1,hL,h2,h3⟩
 ·obtain ⟨o,es,ep,ho,r⟩:=hm;exact ⟨o,es,ep,k _ o (Ne.symm hL) ho,r⟩
 ·refine (I.hok b u e).stay (λc v hc q=>k c v ?_ q) (λ_ q=>q) λ_ _ q=>q;rcases hc with z|z
  ·rw [z];exact nit b u e
  ·exact nit c _ z
def Inv.tok (I:Inv X pins σ H s) (t:Nat):Inv X pins σ H { s with toks:=t }:=I.un (h':=s.heap) (t':=t) Un.refl I.hok
def Inv.kept {t':Nat} (I:Inv X pins σ H s) (k:∀ b u,s.heap.get? b=some u->h'.get? b=some u):Inv X pins σ H { s with heap:=h',toks:=t' }:=I.un (Un.kept k) (I.hok.kept k)
def Inv.laid {a:Addr} {o:HO} {t':Nat} (I:Inv X pins σ H s) (k:∀ b u,s.heap.get? b=some u->h'.get? b=some u) (hp:s.heap.objs.size<=a) (new:ZN X.prog X.w (upd H a o) h' a o) :
  Inv X pins σ (upd H a o) { s with heap:=h',toks:=t' }:=I.un (Un.laid k hp (I.hok.fresh hp)) (I.hok.laid k hp new)
def Inv.write {x e:Addr} {o:HO} {t':Nat} (I:Inv X pins σ H s) (mu:Mut (H x)) (he:e=x\/H e=some (.own x)) (k:∀ b u,b≠e->s.heap.get? b=some u->h'.get? b=some u) (heo:∃ u,h'.get? e=some u)
  (new:ZN X.prog X.w (upd H x o) h' x o):Inv X pins σ (upd H x o) { s with heap:=h',toks:=t' }:=I.un (Un.write mu he k heo) (I.hok.write mu he k heo new)
def Inv.pins_of {pins':List (Addr×Obj)} (I:Inv X pins σ H s) (h:∀ p∈pins',s.heap.get? p.1=some p.2/\H p.1=none/\p.1≠X.env.locals/\p.1∉X.fs/\∀ v,p.2.data≠.cell v):Inv X pins' σ H s:=
 ⟨I.ok,I.os,I.bare,I.base,I.loc,I.cell,I.free,I.freeC,λp hp=>(List.mem_append.mp hp).elim (λz=>I.pin p (List.mem_append_left _ z)) (h p),I.hok,I.len⟩
def TK {N:List Str} (hN:N.Nodup) {i j:Nat} {x:Str} (a:N[i]?=some x) (b:N[j]?=some x):i=j:=by
 obtain ⟨h1,e1⟩:=List.getElem?_eq_some_iff.mp a;obtain ⟨h2,e2⟩:=List.getElem?_eq_some_iff.mp b;exact (List.getElem_inj hN).mp (e1.trans e2.symm)
def RF {M:Model} {A:Around} {E:Value->Shared->Prop} {i:Nat} {x:Str} {v:V} {u:Value} {Q:Unit->Shared->Prop} (I:Inv X pins σ H s) (hN:X.N.Nodup) (hi:X.N[i]?=some x) (hx:Loc X.env.scope x) (r:jt v u)
  (h:∀ s',Inv X pins (σ.set i (some v)) H s'->(∃ a,Heap.SameBut a s.heap s'.heap/\(a=X.env.locals\/X.env.cells.lookup x=some a))->Q () s') (hf:X.fn x=true\/X.env.scope.names.lookup x=some .local:=by first|exact .inl rfl|exact .inr rfl|assumption):wpAny M A (storeName X.env x u) Q E s:=by
 obtain ⟨m,hn,hl⟩:=id I.loc;have hcls:(X.env.scope.kind==.class||(X.env.scope.kind==.module&&X.env.locals != X.env.globals))=false:=by rw [I.ok.kind];rfl
 have hiσ:i<σ.length:=by rw [I.len];exact (List.getElem?_eq_some_iff.mp hi).1
 have cne:=I.cne;have tracked:∀ {a:Addr} {h':Heap},(∃ o,s.heap.get? a=some o/\H a=none)->Heap.SameBut a s.heap h'->HOk X.prog X.w H h':=λ{a h'} ha hs b ob e=>by
  obtain ⟨_,_,hfree⟩:=ha;refine (I.hok b ob e).stay (λc w' hc q=>(hs.2 c ?_).trans q) (λ_ q=>q) λ_ _ q=>q;rintro rfl;rcases hc with rfl|hc
  ·rw [hfree] at e;cases e
  ·rw [hfree] at hc;cases hc
 rcases hx with hk|hk
 ·refine wpAny_storeName_local hk hn (λh' hn' hs=>?_) hcls;obtain ⟨oL,_,_,hoL,_⟩:=id hn;refine h _ ⟨I.ok,I.os,I.bare,⟨λb o e n hb hx=>?_,λb o e n hb hx=>?_,I.base.free,λb o e hx=>?_,I.base.tups,I.base.frzs,I.base.tbls⟩,⟨_,hn',λj y v' e1 e2 e3=>?_⟩,λy c e=>?_,I.free,I.freeC,λp hp=>?_,tracked ⟨oL,hoL,I.free⟩ hs,by simpa using I.len⟩ ⟨_,hs,.inl rfl⟩
  ·exact (hs.2 b (Nat.ne_of_lt (Nat.lt_of_lt_of_le (Heap.lt_size e) I.ok.above))).trans (I.base.keep b o e n hb hx)
  ·obtain ⟨sl,e1⟩:=I.base.slot b o e n hb hx;exact ⟨sl,(hs.2 b (Nat.ne_of_lt (Nat.lt_of_lt_of_le (Heap.lt_size e) I.ok.above))).trans e1⟩
  ·obtain ⟨o',e1⟩:=I.base.there b o e hx;exact ⟨o',(hs.2 b (Nat.ne_of_lt (Nat.lt_of_lt_of_le (Heap.lt_size e) I.ok.above))).trans e1⟩
  ·by_cases hj:j=i
   ·subst hj;rw [hi] at e1;cases e1;rw [List.getElem?_set_self hiσ] at e2;cases e2;exact ⟨u,r,.inl ⟨hk,by simp⟩⟩
   ·rw [List.getElem?_set_ne (Ne.symm hj)] at e2;obtain ⟨u',r',q⟩:=hl j y v' e1 e2 e3;refine ⟨u',r',?_⟩;rcases q with ⟨k,e⟩|⟨k,c,e,z⟩
    ·refine .inl ⟨k,?_⟩;have:y≠x:=λe=>hj (TK hN e1 (e▸hi));simp [this,e]
    ·exact .inr ⟨k,c,e,z.sameBut hs (cne y c e)⟩
  ·obtain ⟨w',z⟩:=I.cell y c e;exact ⟨w',z.sameBut hs (cne y c e)⟩
  ·obtain ⟨e,n,ne,nf,d⟩:=I.pin p hp;exact ⟨(hs.2 p.1 ne).trans e,n,ne,nf,d⟩
 ·have hfn:X.fn x=true:=by
   rcases hf with z|z
   ·exact z
   ·rw [z] at hk;cases hk
  obtain ⟨c,hc⟩:=I.ok.has x (.inl hk);obtain ⟨w',z⟩:=I.cell x c hc;refine wpAny_storeName_cell I.ok.kind hk hc z (λh' hc' hs=>?_);obtain ⟨oc,hoc,hocd⟩:=id z;refine h { s with heap:=h' } ⟨I.ok,I.os,I.bare,⟨λb o e n hb hx=>?_,λb o e n hb hx=>?_,I.base.free,λb o e hx=>?_,I.base.tups,I.base.frzs,I.base.tbls⟩,⟨m,hn.sameBut hs (Ne.symm (cne x c hc)),λj y v' e1 e2 e3=>?_⟩,λy c' e=>?_,I.free,I.freeC,λp hp=>?_,tracked ⟨oc,hoc,I.freeC x c hc⟩ hs,by simpa using I.len⟩ ⟨c,hs,.inr hc⟩
  ·exact (hs.2 b (Nat.ne_of_lt (Nat.lt_of_lt_of_le (Heap.lt_size e) (I.ok.cab x c hfn hc)))).trans (I.base.keep b o e n hb hx)
  ·obtain ⟨sl,e1⟩:=I.base.slot b o e n hb hx;exact ⟨sl,(hs.2 b (Nat.ne_of_lt (Nat.lt_of_lt_of_le (Heap.lt_size e) (I.ok.cab x c hfn hc)))).trans e1⟩
  ·obtain ⟨o',e1⟩:=I.base.there b o e hx;exact ⟨o',(hs.2 b (Nat.ne_of_lt (Nat.lt_of_lt_of_le (Heap.lt_size e) (I.ok.cab x c hfn hc)))).trans e1⟩
  ·by_cases hj:j=i
   ·subst hj;rw [hi] at e1;cases e1;rw [List.getElem?_set_self hiσ] at e2;cases e2;exact ⟨u,r,.inr ⟨.inl hk,c,hc,hc'⟩⟩
   ·rw [List.getElem?_set_ne (Ne.symm hj)] at e2;obtain ⟨u',r',q⟩:=hl j y v' e1 e2 e3;refine ⟨u',r',?_⟩;rcases q with q|⟨k,c',e,z'⟩
    ·exact .inl q
    ·refine .inr ⟨k,c',e,z'.sameBut hs ?_⟩;rintro rfl;exact hj (TK hN e1 (I.ok.inj _ _ _ e hc▸hi))
  ·by_cases hcc:c'=c
   ·subst hcc;exact ⟨_,hc'⟩
   ·obtain ⟨w2,z2⟩:=I.cell y c' e;exact ⟨w2,z2.sameBut hs hcc⟩
  ·obtain ⟨e,n,ne,nf,d⟩:=I.pin p hp;refine ⟨(hs.2 p.1 ?_).trans e,n,ne,nf,d⟩;intro q;rw [q,hoc] at e;have q':oc=p.2:=Option.some.inj e;exact d w' (by rw [← q'];exact hocd)
def UD {M:Model} {A:Around} {E:Value->Shared->Prop} {i:Nat} {x:Str} {v:V} {u:Value} {Q:Unit->Shared->Prop} (I:Inv X pins σ H s) (hN:X.N.Nodup) (hi:X.N[i]?=some x) (hx:Loc X.env.scope x) (r:jt v u)
  (h:∀ s',Inv X pins (σ.set i (some v)) H s'->Q () s') (hf:X.fn x=true\/X.env.scope.names.lookup x=some .local:=by first|exact .inl rfl|exact .inr rfl|assumption):wpAny M A (storeName X.env x u) Q E s:=
 RF I hN hi hx r (λs' I' _=>h s' I') hf
def Inv.call' {s':Shared} {ch:List Addr} (I:Inv X pins σ H s) (ho:s'.os=s.os) (u:Un (frs X.stack) ch H H' s.heap s'.heap) (hok:HOk X.prog X.w H' s'.heap) (hg:AllBare s'.gens)
  (hch:∀ b∈ch,(b∈X.ex\/X.s₀.heap.objs.size<=b)/\b≠X.env.locals/\(∀ x c,X.env.cells.lookup x=some c->c≠b)/\∀ p∈X.pn++pins,p.1≠b):Inv X pins σ H' s':=by
 obtain ⟨h',g',d',t',o'⟩:=s';have e:o'=s.os:=ho;subst e;exact I.call (g':=g') (t':=t') (d':=d') u hok hg hch
end
abbrev XK:=Value->Option Addr->Hp->Prop
abbrev St:=List (Option V)
abbrev VK:=V->Hp->Prop
abbrev TE:=St->Hp->VK->Prop
abbrev TT:=St->Hp->(Bool->Hp->Prop)->Prop
abbrev TA:=St->Hp->(List V->Hp->Prop)->Prop
structure Ends where
 nx:St->Hp->Prop
 rt:VK
 bk:St->Hp->Prop:=λ_ _=>False
 ct:St->Hp->Prop:=λ_ _=>False
abbrev TS:=Ends->St->Hp->Prop
def EP (X:Cx) (pins:List (Addr×Obj)) (σ:St) (Q:VK) (u:Value) (s':Shared):Prop:=∃ v H',Inv X pins σ H' s'/\jt v u/\Q v H'
def TP (X:Cx) (pins:List (Addr×Obj)) (σ:St) (Q:Bool->Hp->Prop) (b:Bool) (s':Shared):Prop:=∃ H',Inv X pins σ H' s'/\Q b H'
def AP (X:Cx) (pins:List (Addr×Obj)) (σ:St) (Q:List V->Hp->Prop) (us:List Value) (s':Shared):Prop:=∃ vs H',Inv X pins σ H' s'/\zx vs us/\Q vs H'
def SP (X:Cx) (pins:List (Addr×Obj)) (D:Ends) (f:Flow) (s':Shared):Prop:=
 match f with
 |.next=>∃ σ' H',Inv X pins σ' H' s'/\D.nx σ' H'
 |.brk=>∃ σ' H',Inv X pins σ' H' s'/\D.bk σ' H'
 |.cont=>∃ σ' H',Inv X pins σ' H' s'/\D.ct σ' H'
 |.ret u=>∃ v σ' H',Inv X pins σ' H' s'/\jt v u/\D.rt v H'
def PE (X:Cx) (e:Expr) (t:TE):Prop:=
 ∀ (pins:List (Addr×Obj)) (s:Shared) (σ:St) (H:Hp) (Q:VK),Inv X pins σ H s->t σ H Q->wpAny (model X.prog X.w) X.A (eval e X.env) (EP X pins σ Q) X.xe s
def PT (X:Cx) (e:Expr) (t:TT):Prop:=
 ∀ (pins:List (Addr×Obj)) (s:Shared) (σ:St) (H:Hp) (Q:Bool->Hp->Prop),Inv X pins σ H s->t σ H Q->wpAny (model X.prog X.w) X.A (isTrue e X.env (eval e X.env)) (TP X pins σ Q) X.xe s
def PW (X:Cx) (e:Expr) (t:TT):Prop:=
 ∀ (whole:Sem Value) (pins:List (Addr×Obj)) (s:Shared) (σ:St) (H:Hp) (Q:Bool->Hp->Prop),Inv X pins σ H s->t σ H Q->wpAny (model X.prog X.w) X.A (isTrue e X.env whole) (TP X pins σ Q) X.xe s
def PW.pt {X:Cx} {e:Expr} {t:TT} (h:PW X e t):PT X e t:=h _
def PA (X:Cx) (es:List Expr) (t:TA):Prop:=
 ∀ (pos:Pos) (pins:List (Addr×Obj)) (s:Shared) (σ:St) (H:Hp) (Q:List V->Hp->Prop),Inv X pins σ H s->t σ H Q->wpAny (model X.prog X.w) X.A (spliced (backTo pos (starEach es X.env))) (AP X pins σ Q) X.xe s
def PS (X:Cx) (st:Stmt) (t:TS):Prop:=
 ∀ (pins:List (Addr×Obj)) (s:Shared) (σ:St) (H:Hp) (D:Ends),Inv X pins σ H s->t D σ H->wpAny (model X.prog X.w) X.A (exec st X.env) (SP X pins D) X.xe s
def PSs (X:Cx) (st:List Stmt) (t:TS):Prop:=
 ∀ (pins:List (Addr×Obj)) (s:Shared) (σ:St) (H:Hp) (D:Ends),Inv X pins σ H s->t D σ H->wpAny (model X.prog X.w) X.A (execs st X.env) (SP X pins D) X.xe s
def thn {α:Type} {t:Sem α} {Q Q':α->Shared->Prop} {M:Model} {A:Around} {E:Value->Shared->Prop} {s:Shared} (h:wpAny M A t Q E s) (hQ:∀ a s,Q a s->Q' a s):wpAny M A t Q' E s:=wpAny_mono h hQ λ_ _ x=>x
section
variable {X:Cx}
def qo5 (i:Nat):TE:=λσ H Q=>∃ v,σ[i]?=some (some v)/\Q v H
def tC (v:V):TE:=λ_ H Q=>Q v H
def qkj {i:Nat} {x:Str} {pos:Pos} (hN:X.N[i]?=some x) (hv:Vis X.env.scope x) (hd:(x==("__debug__" : Str))=false:=by decide) (hcd:(x==("__classdict__" : Str))=false:=by decide):PE X (.Name x pos) (qo5 i):=by
 intro pins s σ H Q I h;obtain ⟨v,e,h⟩:=h;obtain ⟨m,hn,hl⟩:=I.loc;obtain ⟨u,r,l⟩:=hl i x v hN e hv;have fin:EP X pins σ Q u s:=⟨v,H,I,r,h⟩
 rcases l with ⟨hk,hm⟩|⟨hk,c,hc,hcell⟩
 ·exact wpAny_Name (wpAny_loadName_local I.ok.kind hk hn hm fin) hd
 ·rcases hk with hk|hk
  ·exact wpAny_Name (wpAny_loadName_cell I.ok.kind hk hc hcell fin) hd
  ·exact wpAny_Name (wpAny_loadName_free I.ok.kind hk hc hcell fin hcd) hd
def qi8 {i j pos}:PE X (.Constant (.int i) j pos) (tC (.int i)):=λ_ _ _ H _ I h=>wpAny_Constant_int ⟨.int i,H,I.tok _,⟨_,rfl⟩,h⟩
def qmT {b j pos}:PE X (.Constant (.bool b) j pos) (tC (.bl b)):=λ_ _ _ H _ I h=>Constant_bool ⟨.bl b,H,I,rfl,h⟩
def qhh {j pos}:PE X (.Constant .none j pos) (tC .non):=λ_ _ _ H _ I h=>Constant_none ⟨.non,H,I,rfl,h⟩
def qjk {x j pos}:PE X (.Constant (.str x) j pos) (tC (.str x)):=λ_ _ _ H _ I h=>Calls.Constant_str ⟨.str x,H,I.tok _,⟨_,rfl⟩,h⟩
def Gl (X:Cx) (x:Str):Prop:=X.env.kindOf x=some .globalImplicit
def qaM {E:Value->Shared->Prop} {pins:List (Addr×Obj)} {s:Shared} {σ:St} {H:Hp} {x:Str} {u:Value} {pos:Pos} {Q:Value->Shared->Prop} (I:Inv X pins σ H s) (hg:Gl X x) (hm:X.mg x=some u) (h:Q u s)
  (hd:(x==("__debug__" : Str))=false:=by decide):wpAny (model X.prog X.w) X.A (eval (.Name x pos) X.env) Q E s:=
 Calls.Name_function_global I.ok.kind hg (Calls.loadGlobal_global (by rw [I.ok.glob];exact I.mod.glob.keeps I.bk) hm h) hd
def V1 {E:Value->Shared->Prop} {pins:List (Addr×Obj)} {s:Shared} {σ:St} {H:Hp} {x:Str} {u:Value} {pos:Pos} {Q:Value->Shared->Prop} (I:Inv X pins σ H s) (hg:Gl X x) (hm:X.mg x=none) (hv:bootBuiltins x=some u) (h:Q u s)
  (hn:x≠"__name__" := by decide) (hd:(x==("__debug__" : Str))=false:=by decide):wpAny (model X.prog X.w) X.A (eval (.Name x pos) X.env) Q E s:=by
 obtain ⟨mb,h1,h2⟩:=I.mod.blt;exact Calls.Name_function_global I.ok.kind hg (Calls.loadGlobal_builtin (by rw [I.ok.glob];exact I.mod.glob.keeps I.bk) hm (by rw [I.ok.blt];exact h1.keeps I.bk) ((h2 x hn).trans hv) h) hd
def WV {x:Str} {v:V} {u:Value} {pos:Pos} (hg:Gl X x) (hm:X.mg x=some u) (r:jt v u) (hd:(x==("__debug__" : Str))=false:=by decide):PE X (.Name x pos) (tC v):=
 λ_ _ _ H _ I h=>qaM I hg hm ⟨v,H,I,r,h⟩ hd
def RP {x:Str} {v:V} {u:Value} {pos:Pos} (hg:Gl X x) (hm:X.mg x=none) (hv:bootBuiltins x=some u) (r:jt v u) (hn:x≠"__name__" := by decide) (hd:(x==("__debug__" : Str))=false:=by decide):PE X (.Name x pos) (tC v):=
 λ_ _ _ H _ I h=>V1 I hg hm hv ⟨v,H,I,r,h⟩ hn hd
variable {a b:Expr} {ta tb:TE} {pos:Pos}
def tB (t:TE):TT:=λσ H Q=>t σ H λx H1=>∃ c,x=.bl c/\Q c H1
def qht {e:Expr} {t:TE} (h:PE X e t) (he:∀ whole,isTrue e X.env whole=(do let v←whole;standAt e.pos;holding [v] (truthy v)):=by intro _;rfl):PT X e (tB t):=by
 intro pins s σ H Q I hw;refine isTrue_plain (thn (h pins s σ H _ I hw) λv s1 ⟨x,H1,I1,r1,q1⟩=>?_) (he _);obtain ⟨d,rfl,q⟩:=q1;cases r1;exact wpAny_truthy_bool ⟨H1,I1,q⟩
variable {tA tB':TT} {jk:List Expr}
def tOr (t u:TT):TT:=λσ H Q=>t σ H λc H1=>if c=true then Q true H1 else u σ H1 Q
def qpF (t:TT):TT:=λσ H Q=>t σ H λc H1=>Q (!c) H1
def qkN (ha:PT X a tA):PW X (.BoolOp .Or [a] pos) tA:=by
 intro wh pins s σ H Q I h;refine isTrue_or (thn (ha pins s σ H Q I h) λc s1 e=>?_);cases c with
 |false=>exact isTrue_or_nil e
 |true=>exact e
def qnQ (ha:PT X a tA) (hb:PW X (.BoolOp .Or (b::jk) pos) tB'):PW X (.BoolOp .Or (a::b::jk) pos) (tOr tA tB'):=by
 intro wh pins s σ H Q I h;refine isTrue_or (thn (ha pins s σ H _ I h) λc s1 ⟨H1,I1,q1⟩=>?_);cases c with
 |true=>exact ⟨H1,I1,q1⟩
 |false=>exact hb wh pins s1 σ H1 Q I1 q1
def qj4 (ha:PT X a tA):PT X (.UnaryOp .Not a pos) (qpF tA):=by
 intro pins s σ H Q I h;exact isTrue_not (ha pins s σ H (λc H1=>Q (!c) H1) I h)
def qnx (ta tb:TE):TE:=λσ H Q=>ta σ H λx H1=>∃ c,x=.bl c/\if c=true then tb σ H1 Q else Q (.bl false) H1
def qpm (ta tb:TE):TE:=λσ H Q=>ta σ H λx H1=>∃ c,x=.bl c/\if c=true then Q (.bl true) H1 else tb σ H1 Q
def qof (ta:TE):TE:=λσ H Q=>ta σ H λx H1=>∃ c,x=.bl c/\Q (.bl (!c)) H1
def qig {op} {t:TE} (h:PE X a t):PE X (.BoolOp op [a] pos) t:=λpins s σ H Q I hw=>BoolOp_one (h pins s σ H Q I hw)
def qjY (ha:PE X a ta) (hb:PE X (.BoolOp .And (b::jk) pos) tb):PE X (.BoolOp .And (a::b::jk) pos) (qnx ta tb):=by
 intro pins s σ H Q I h;refine BoolOp_and (thn (ha pins s σ H _ I h) λv s1 ⟨x,H1,I1,r1,q1⟩=>?_);obtain ⟨c,rfl,q1⟩:=q1;cases r1;refine wpAny_truthy_bool ?_;cases c with
 |true=>exact hb pins s1 σ H1 Q I1 q1
 |false=>exact ⟨.bl false,H1,I1,rfl,q1⟩
def qn5 (ha:PE X a ta) (hb:PE X (.BoolOp .Or (b::jk) pos) tb):PE X (.BoolOp .Or (a::b::jk) pos) (qpm ta tb):=by
 intro pins s σ H Q I h;refine BoolOp_or (thn (ha pins s σ H _ I h) λv s1 ⟨x,H1,I1,r1,q1⟩=>?_);obtain ⟨c,rfl,q1⟩:=q1;cases r1;refine wpAny_truthy_bool ?_;cases c with
 |false=>exact hb pins s1 σ H1 Q I1 q1
 |true=>exact ⟨.bl true,H1,I1,rfl,q1⟩
def qhc (ha:PE X a ta):PE X (.UnaryOp .Not a pos) (qof ta):=by
 intro pins s σ H Q I h;refine UnaryOp_ (thn (ha pins s σ H _ I h) λv s1 ⟨x,H1,I1,r1,q1⟩=>?_);obtain ⟨c,rfl,q1⟩:=q1;cases r1;exact not_of (wpAny_truthy_bool ⟨.bl (!c),H1,I1,rfl,q1⟩)
def tIf (t:TT) (ta tb:TE):TE:=λσ H Q=>t σ H λc H1=>if c=true then ta σ H1 Q else tb σ H1 Q
def qcX {c:Expr} (hc:PT X c tA) (ha:PE X a ta) (hb:PE X b tb):PE X (.IfExp c a b pos) (tIf tA ta tb):=by
 intro pins s σ H Q I h;refine wpAny_IfExp (thn (hc pins s σ H _ I h) λd s1 ⟨H1,I1,q1⟩=>?_);cases d with
 |true=>exact ha pins s1 σ H1 Q I1 q1
 |false=>exact hb pins s1 σ H1 Q I1 q1
end
def SqL (K:Frg) (H:Hp) (a:Addr) (xs:List V):Prop:=
 Rd H a (.lst xs) ∨
  ∃ (o:Obj) (its:Array Value) (n:Nat),K.lookup a=some o/\o.cls=.type "list"/\o.dict=none/\o.data=.seq its n/\its.size<=sizeLine/\zx xs its.toList
def SqT (K:Frg) (H:Hp) (a:Addr) (xs:List V):Prop:=
 Rd H a (.tup xs) ∨
  ∃ (o:Obj) (its:Array Value) (n:Nat),K.lookup a=some o/\o.cls=.type "tuple"/\o.data=.seq its n/\its.size<=sizeLine/\zx xs its.toList/\o.dict=none
def qo8:Value->Option V
 |.none=>some .non
 |.bool b=>some (.bl b)
 |.int i _=>some (.int i)
 |.str x _=>some (.str x)
 |.bytes b _=>some (.byt b)
 |.float b _=>some (.flt b)
 |.ref a=>some (.ref a)
 |.type n=>some (.ty n)
 |_=>none
def jt.abs {x:V} {u:Value} (r:jt x u):qo8 u=some x:=by
 cases x with
 |non=>cases r;rfl
 |bl _=>cases r;rfl
 |int _=>obtain ⟨t,rfl⟩:=r;rfl
 |str _=>obtain ⟨t,rfl⟩:=r;rfl
 |byt _=>obtain ⟨t,rfl⟩:=r;rfl
 |flt _=>obtain ⟨t,rfl⟩:=r;rfl
 |ref _=>cases r;rfl
 |ty _=>cases r;rfl
def jt.inj {x y:V} {u:Value} (r:jt x u) (q:jt y u):x=y:=Option.some.inj (r.abs.symm.trans q.abs)
def zx.inj:∀ {xs ys:List V} {us:List Value},zx xs us->zx ys us->xs=ys
 |_,_,_,.nil,.nil=>rfl
 |_,_,_,.cons r t,.cons r' t'=>by rw [r.inj r',zx.inj t t']
section
variable {X:Cx} {pins:List (Addr×Obj)} {σ:St} {H:Hp} {s:Shared} {a:Addr} {xs ys:List V}
def SqL.of {K:Frg} (h:H a=some (.lst xs)):SqL K H a xs:=.inl (.inl h)
def SqT.of {K:Frg} (h:H a=some (.tup xs)):SqT K H a xs:=.inl (.inl h)
def Inv.list (I:Inv X pins σ H s) (h:SqL X.K H a xs):∃ its:List Value,zx xs its/\PlainL s.heap a its.toArray/\xs.length<=sizeLine:=by
 rcases h with h|⟨o,its,n,hk,hc,hd,hs,hz,r⟩
 ·obtain ⟨z,its,n,r,e⟩:=h.ok I.hok;exact ⟨its,r,⟨_,n,e,rfl,rfl,rfl⟩,z⟩
 ·refine ⟨its.toList,r,⟨o,n,I.kIn a o hk,hc,hd,by simpa using hs⟩,?_⟩;have e:=r.length;simp only [Array.length_toList] at e;omega
def Inv.tuple (I:Inv X pins σ H s) (h:SqT X.K H a xs):∃ its:List Value,zx xs its/\IsTup s.heap a its.toArray/\xs.length<=sizeLine:=by
 rcases h with h|⟨o,its,n,hk,hc,hs,hz,r,_⟩
 ·obtain ⟨z,its,r,p⟩:=h.ok I.hok;exact ⟨its,r,p.tup,z⟩
 ·refine ⟨its.toList,r,⟨o,I.kIn a o hk,hc,n,by simpa using hs⟩,?_⟩;have e:=r.length;simp only [Array.length_toList] at e;omega
def Inv.list_inj (I:Inv X pins σ H s) (h:SqL X.K H a xs) (h':SqL X.K H a ys):xs=ys:=by
 obtain ⟨its,r,⟨o,n,e,_,_,d⟩,_⟩:=I.list h;obtain ⟨its',r',⟨o',n',e',_,_,d'⟩,_⟩:=I.list h';rw [e] at e';cases e';rw [d] at d';injection d' with d1 _;have:its=its':=by simpa using congrArg Array.toList d1
 subst this;exact r.inj r'
def Inv.tuple_inj (I:Inv X pins σ H s) (h:SqT X.K H a xs) (h':SqT X.K H a ys):xs=ys:=by
 obtain ⟨its,r,⟨o,e,_,n,d⟩,_⟩:=I.tuple h;obtain ⟨its',r',⟨o',e',_,n',d'⟩,_⟩:=I.tuple h';rw [e] at e';cases e';rw [d] at d';injection d' with d1 _;have:its=its':=by simpa using congrArg Array.toList d1
 subst this;exact r.inj r'
end
abbrev Cx.wish (X:Cx) (E:Value->Shared->Prop):Cx:={ X with xe:=E }
abbrev Cx.nox (X:Cx):Cx:=X.wish λ_ _=>False
def Cx.Ok.wish {X:Cx} (ok:X.Ok) (E:Value->Shared->Prop):(X.wish E).Ok:=
 ⟨ok.mod,ok.kind,ok.glob,ok.blt,ok.above,ok.inj,ok.has,ok.cab,ok.hd,ok.frames,ok.stk,ok.exf,ok.bs,ok.bsz,ok.noex,ok.exfs,ok.funs,ok.frf⟩
def Cx.Ok.unwish {X:Cx} {E:Value->Shared->Prop} (ok:(X.wish E).Ok):X.Ok:=
 ⟨ok.mod,ok.kind,ok.glob,ok.blt,ok.above,ok.inj,ok.has,ok.cab,ok.hd,ok.frames,ok.stk,ok.exf,ok.bs,ok.bsz,ok.noex,ok.exfs,ok.funs,ok.frf⟩
section
variable {X:Cx} {pins:List (Addr×Obj)} {σ:St} {H:Hp} {s:Shared} {E:Value->Shared->Prop}
def Inv.wish (I:Inv X pins σ H s) (E:Value->Shared->Prop):Inv (X.wish E) pins σ H s:=⟨I.ok.wish E,I.os,I.bare,I.base,I.loc,I.cell,I.free,I.freeC,I.pin,I.hok,I.len⟩
def Inv.unwish (I:Inv (X.wish E) pins σ H s):Inv X pins σ H s:=⟨I.ok.unwish,I.os,I.bare,I.base,I.loc,I.cell,I.free,I.freeC,I.pin,I.hok,I.len⟩
def SP.unwish {D:Ends} {f:Flow} {s':Shared} (h:SP (X.wish E) pins D f s'):SP X pins D f s':=by
 cases f with
 |next=>obtain ⟨σ',H',I,q⟩:=h;exact ⟨σ',H',I.unwish,q⟩
 |brk=>obtain ⟨σ',H',I,q⟩:=h;exact ⟨σ',H',I.unwish,q⟩
 |cont=>obtain ⟨σ',H',I,q⟩:=h;exact ⟨σ',H',I.unwish,q⟩
 |ret u=>obtain ⟨v,σ',H',I,r,q⟩:=h;exact ⟨v,σ',H',I.unwish,r,q⟩
def PSs.nox {st:List Stmt} {t:TS} (h:PSs X.nox st t):PSs X st t:=λpins s σ H D I hw=>
 wpAny_mono (h pins s σ H D (I.wish _) hw) (λ_ _ q=>q.unwish) λ_ _ z=>False.elim z
end
section
variable {X:Cx} {st:Stmt} {jk:List Stmt} {t u:TS} {e:Expr} {te:TE} {pos:Pos}
def qmv:TS:=λD σ H=>D.nx σ H
def qo2 (t u:TS):TS:=λD σ H=>t { D with nx:=u D } σ H
def qgu:PSs X [] qmv:=λ_ _ σ H _ I h=>wpAny_execs_nil ⟨σ,H,I,h⟩
def qb5 (h1:PS X st t) (h2:PSs X jk u):PSs X (st::jk) (qo2 t u):=by
 intro pins s σ H D I h;refine wpAny_execs_cons (thn (h1 pins s σ H { D with nx:=u D } I h) λf s1 q=>?_);cases f with
 |next=>
  obtain ⟨σ',H',I',q⟩:=q;exact h2 pins s1 σ' H' D I' q
 |ret v=>exact q
 |brk=>exact q
 |cont=>exact q
def qfC (h1:PS X st t):PSs X [st] t:=by
 intro pins s σ H D I h;refine wpAny_execs_cons (thn (h1 pins s σ H D I h) λf s1 q=>?_);cases f with
 |next=>exact wpAny_execs_nil q
 |ret v=>exact q
 |brk=>exact q
 |cont=>exact q
def Inv.quiet {pins:List (Addr×Obj)} {σ:St} {H:Hp} {s:Shared} (I:Inv X pins σ H s):interactive X.env=false:=by simp [interactive,I.ok.kind]
def qns (te:TE):TS:=λD σ H=>te σ H λ_ H1=>D.nx σ H1
def qgJ (he:PE X e te) (hs:swapsWith e none pos.line X.env=pure false:=by rfl):PS X (.Expr e pos) (qns te):=by
 intro pins s σ H D I h;exact wpAny_Expr_any (thn (he pins s σ H _ I h) λv s1 ⟨x,H1,I1,r1,q1⟩=>⟨σ,H1,I1,q1⟩) I.quiet hs
def qpD (te:TE):TS:=λD σ H=>te σ H D.rt
def qih (he:PE X e te):PS X (.Return (some e) pos) (qpD te):=by
 intro pins s σ H D I h;exact wpAny_Return_some (thn (he pins s σ H _ I h) λv s1 ⟨x,H1,I1,r1,q1⟩=>⟨x,σ,H1,I1,r1,q1⟩)
def qpw (c:TT) (t u:TS):TS:=λD σ H=>c σ H λb H1=>if b=true then t D σ H1 else u D σ H1
def qnF {c:Expr} {a b:List Stmt} {tc:TT} (hc:PT X c tc) (ha:PSs X a t) (hb:PSs X b u):PS X (.If c a b pos) (qpw tc t u):=by
 intro pins s σ H D I h;refine wpAny_If (thn (hc pins s σ H _ I h) λd s1 ⟨H1,I1,q1⟩=>?_);cases d with
 |true=>exact ha pins s1 σ H1 D I1 q1
 |false=>exact hb pins s1 σ H1 D I1 q1
end
abbrev TG:=V->St->Hp->(St->Hp->Prop)->Prop
abbrev TGs:=List V->St->Hp->(St->Hp->Prop)->Prop
def PG (X:Cx) (target:Expr) (t:TG):Prop:=
 ∀ (pins:List (Addr×Obj)) (s:Shared) (σ:St) (H:Hp) (v:V) (u:Value) (Q:St->Hp->Prop),Inv X pins σ H s->jt v u->t v σ H Q ->
  wpAny (model X.prog X.w) X.A (assign target X.env u) (λ_ s'=>∃ σ' H',Inv X pins σ' H' s'/\Q σ' H') X.xe s
def PGs (X:Cx) (ts:List Expr) (t:TGs):Prop:=
 ∀ (pins:List (Addr×Obj)) (s:Shared) (σ:St) (H:Hp) (vs:List V) (us:List Value) (Q:St->Hp->Prop),Inv X pins σ H s->zx vs us->t vs σ H Q ->
  wpAny (model X.prog X.w) X.A (assignInOrder ((assignEach ts X.env).map (·.2)) us) (λ_ s'=>∃ σ' H',Inv X pins σ' H' s'/\Q σ' H') X.xe s
abbrev qnr:=V->V->V->Hp->(Hp->Prop)->Prop
def qea (X:Cx) (t:qnr):Prop:=
 ∀ (pins:List (Addr×Obj)) (s:Shared) (σ:St) (H:Hp) (o i v:V) (ov iv u:Value) (Q:Hp->Prop),Inv X pins σ H s->jt o ov->jt i iv->jt v u->t o i v H Q ->
  wpAny (model X.prog X.w) X.A (setItem ov iv u) (λ_ s'=>∃ H',Inv X pins σ H' s'/\Q H') X.xe s
section
variable {X:Cx} {pos:Pos}
def qgf (i:Nat):TG:=λv σ H Q=>Q (σ.set i (some v)) H
def qfb {i:Nat} {x:Str} (hN:X.N.Nodup) (hi:X.N[i]?=some x) (hx:Loc X.env.scope x) (hf:X.fn x=true\/X.env.scope.names.lookup x=some .local:=by first|exact .inl rfl|exact .inr rfl|assumption):PG X (.Name x pos) (qgf i):=by
 intro pins s σ H v u Q I r h;exact wpAny_assign_Name (UD I hN hi hx r (λs' I'=>⟨_,H,I',h⟩) hf)
def qbY:TGs:=λvs σ H Q=>vs=[]/\Q σ H
def JZ (t:TG) (u:TGs):TGs:=λvs σ H Q=>∃ v r,vs=v::r/\t v σ H λσ' H'=>u r σ' H' Q
def qgE:PGs X [] qbY:=by
 intro pins s σ H vs us Q I r h;obtain ⟨e,h⟩:=h;subst e;cases r;exact assignInOrder_nil ⟨σ,H,I,h⟩
def qcB {e:Expr} {es:List Expr} {t:TG} {u:TGs} (h1:PG X e t) (h2:PGs X es u)
  (hs:(assignEach (e::es) X.env).map (·.2)=assign e X.env::(assignEach es X.env).map (·.2):=by rfl):PGs X (e::es) (JZ t u):=by
 intro pins s σ H vs us Q I r h;obtain ⟨v,vr,e1,h⟩:=h;subst e1;cases r with
 |cons r rr=>
  rw [hs];refine assignInOrder_cons (thn (h1 pins s σ H _ _ _ I r h) λ_ s1 ⟨σ1,H1,I1,q1⟩=>?_);exact h2 pins s1 σ1 H1 _ _ Q I1 rr q1
def qb2 (K:Frg) (n:Nat) (t:TGs):TG:=λv σ H Q=>∃ a xs,v=.ref a/\SqT K H a xs/\xs.length=n/\t xs σ H Q
def qjl {es:List Expr} {k:Nat} {t:TGs} {n:Nat} (hc:X.calm=true) (h:PGs X es t)
  (hn:(assignEach es X.env).length=n:=by rfl) (hst:(assignEach es X.env).findIdx? (·.1)=none:=by rfl):PG X (.Tuple es k pos) (qb2 X.K n t):=by
 intro pins s σ H v u Q I r hw;obtain ⟨a,xs,e1,hq,hl,hw⟩:=hw;subst e1;cases r;obtain ⟨its,rv,ht,hz⟩:=I.tuple hq;refine assign_Tuple_tuple (I.ok.hd hc) ht (by simp [hn,← hl,rv.length]) hst λh' hx=>?_;have I1:Inv X pins σ H { s with heap:=h' }:=I.kept (t':=s.toks) λb o e=>hx b o (Nat.ne_of_lt (Heap.lt_size e)) e;exact h pins _ σ H xs _ Q I1 (by simpa using rv) hw
def qpk (to ti:TE) (t:qnr):TG:=λv σ H Q=>to σ H λo H1=>ti σ H1 λi H2=>t o i v H2 λH3=>Q σ H3
def qhX {o i:Expr} {to ti:TE} {t:qnr} (ho:PE X o to) (hi:PE X i ti) (hs:qea X t)
  (ha:∀ v,assign (.Subscript o i pos) X.env v=(do
   let ov←holding [v] (eval o X.env)
   let iv←holding [v,ov] (eval i X.env)
   standAt pos
   holding [v,ov,iv] (setItem ov iv v)
   release [v,ov,iv] []):=by intro _;rfl):PG X (.Subscript o i pos) (qpk to ti t):=by
 intro pins s σ H v u Q I r h;rw [ha];refine wpAny_bind (wpAny_holding (thn (ho pins s σ H _ I h) λov s1 ⟨x,H1,I1,r1,q1⟩=>?_));refine wpAny_bind (wpAny_holding (thn (hi pins s1 σ H1 _ I1 q1) λiv s2 ⟨y,H2,I2,r2,q2⟩=>?_));refine wpAny_bind (wpAny_standAt (wpAny_bind (wpAny_holding (thn (hs pins s2 σ H2 x y v ov iv u _ I2 r1 r2 r q2) λ_ s3 ⟨H3,I3,q3⟩=>?_))));exact wpAny_release ⟨σ,H3,I3,q3⟩
def qmO (te:TE) (g:TG):TS:=λD σ H=>te σ H λx H1=>g x σ H1 D.nx
def qhi {tg e:Expr} {te:TE} {g:TG} (he:PE X e te) (hg:PG X tg g) (hs:swapsWithSole [tg] e pos.line X.env=pure false:=by rfl) (hw:swappedStores [tg] e X.env=pure none:=by rfl)
  (h1:(assignEach [tg] X.env).map (·.2)=[assign tg X.env]:=by rfl):PS X (.Assign [tg] e pos) (qmO te g):=by
 intro pins s σ H D I h;refine wpAny_Assign_stores (thn (he pins s σ H _ I h) λv s1 ⟨x,H1,I1,r1,q1⟩=>?_) hs hw;rw [h1];exact thn (hg pins s1 σ H1 x v _ I1 r1 q1) λ_ s2 q=>q
def qld {i:Nat} {x:Str} {e:Expr} {te:TE} {pos':Pos} (hN:X.N.Nodup) (hi:X.N[i]?=some x) (hx:Loc X.env.scope x) (he:PE X e te) (hs:swapsWith e (some (.Name x pos')) pos.line X.env=pure false:=by rfl) (hf:X.fn x=true\/X.env.scope.names.lookup x=some .local:=by first|exact .inl rfl|exact .inr rfl|assumption) :
  PS X (.Assign [.Name x pos'] e pos) (qmO te (qgf i)):=by
 intro pins s σ H D I h;refine wpAny_Assign_Name (thn (he pins s σ H _ I h) λv s1 ⟨y,H1,I1,r1,q1⟩=>?_) hs;exact UD I1 hN hi hx r1 (λs2 I2=>⟨_,H1,I2,q1⟩) hf
def qpz (i j:Nat) (ta:TA):TS:=λD σ H=>ta σ H λvs H1=>∃ v w,vs=[v,w]/\D.nx ((σ.set i (some v)).set j (some w)) H1
def qj8 {i j:Nat} {x y:Str} {a b:Expr} {ta:TA} {px py pt:Pos} {kt k2 pt2} (hc:X.calm=true) (hN:X.N.Nodup) (hi:X.N[i]?=some x) (hj:X.N[j]?=some y) (hij:i≠j)
  (hx:X.env.scope.names.lookup x=some .local) (hy:X.env.scope.names.lookup y=some .local) (ha:PA X [a,b] ta)
  (hw:swappedStores [.Tuple [.Name x px,.Name y py] kt pt] (.Tuple [a,b] k2 pt2) X.env=pure (some [x,y]))
  (hs:swapsWithSole [.Tuple [.Name x px,.Name y py] kt pt] (.Tuple [a,b] k2 pt2) pos.line X.env=pure false:=by rfl) :
  PS X (.Assign [.Tuple [.Name x px,.Name y py] kt pt] (.Tuple [a,b] k2 pt2) pos) (qpz i j ta):=by
 intro pins s σ H D I h;rw [exec_Assign_arm];refine wpAny_bind (wpAny_standAt ?_);rw [hs];refine wpAny_bind (wpAny_pure ?_);rw [if_neg (by decide)];refine wpAny_bind (Tuple_ (thn (ha _ pins s σ H _ I h) λus s1 ⟨vs,H1,I1,r1,q1⟩=>?_));obtain ⟨v,w,e1,q1⟩:=q1;subst e1;obtain ⟨u1,u2,rfl,rv,rw'⟩:∃ u1 u2,us=[u1,u2]/\jt v u1/\jt w u2:=by
  cases r1 with
  |cons p q=>
   cases q with
   |cons p' q'=>
    cases q';exact ⟨_,_,rfl,p,p'⟩
 refine wpAny_newObj_type ?_ (by show 2<=sizeLine;decide);have I2:Inv X pins σ H1 { s1 with heap:=s1.heap.push { cls:=.type "tuple",data:=.seq [u1,u2].toArray } }:=I1.kept (t':=s1.toks) λb o e=>Heap.get?_push_of_some _ e;rw [hw];refine wpAny_bind (wpAny_pure ?_);show wpAny (model X.prog X.w) X.A (do rule "assign.swapped-stores";let items←unpackItems (.ref s1.heap.objs.size) 2 none;assignInOrder [λv=>bindName X.env y v,λv=>bindName X.env x v] items.reverse;pure Flow.next) _ _ _;refine wpAny_bind (wpAny_rule (wpAny_bind (unpackItems_tuple (items:=#[u1,u2]) (I.ok.hd hc) (IsTup.new s1.heap _) λh' hx'=>?_)));have I3:=I2.kept (h':=h') (t':=s1.toks) λb o e=>hx' b o (Nat.ne_of_lt (Heap.lt_size e)) e;show wpAny _ _ (assignInOrder [λv=>bindName X.env y v,λv=>bindName X.env x v] [u2,u1] >>= λ_=>pure Flow.next) _ _ _;refine wpAny_bind (assignInOrder_cons (wpAny_bindName (UD I3 hN hj (.inl hy) rw' (λs2 I4=>?_) (.inr hy))));refine assignInOrder_cons (wpAny_bindName (UD I4 hN hi (.inl hx) rv (λs3 I5=>assignInOrder_nil (wpAny_pure ?_)) (.inr hx)));rw [List.set_comm _ _ (Ne.symm hij)] at I5;exact ⟨_,H1,I5,q1⟩
end
section
variable {X:Cx} {pos:Pos}
end
structure It where
 go:Nat->Hp->Prop
 yld:Nat->Hp->V->Hp->Prop
 stop:Nat->Hp->Prop
def C5 (X:Cx) (pins:List (Addr×Obj)) (H:Hp) (b:Addr):Prop:=
 H b=none/\b≠X.env.locals/\b∉X.fs/\(b∈X.ex\/X.s₀.heap.objs.size<=b)/\(∀ x c,X.env.cells.lookup x=some c->c≠b)/\∀ p∈X.pn++pins,p.1≠b
def Inv.fpOk {X:Cx} {pins:List (Addr×Obj)} {σ:St} {H H':Hp} {s:Shared} {b:Addr} (I:Inv X pins σ H s) (hb:s.heap.objs.size<=b) (hn:H' b=none):C5 X pins H' b:=by
 refine ⟨hn,Nat.ne_of_gt (Nat.lt_of_lt_of_le I.lt hb),I.nofs hb,.inr (Nat.le_trans I.sz hb),λx c e z=>?_,λp hp z=>?_⟩
 ·obtain ⟨v,q⟩:=I.cell x c e;exact absurd (Nat.lt_of_lt_of_le q.lt (by rw [z];exact hb)) (Nat.lt_irrefl _)
 ·exact absurd (Nat.lt_of_lt_of_le (Heap.lt_size (I.pin p hp).1) (by rw [z];exact hb)) (Nat.lt_irrefl _)
structure Turn (P:Program) (w:World) (K:Frg) (tg:Expr) (J:It) (fp:List Addr) (it:Addr) (tn:Nat->Heap->Prop):Prop where
 mem:it∈fp
 obj:∀ i h,tn i h->∀ b∈fp,∃ o,h.get? b=some o/\∀ v,o.data≠.cell v
 keep:∀ i h h',tn i h->(∀ b∈fp,∀ o,h.get? b=some o->h'.get? b=some o)->tn i h'
 item:∀ (X:Cx),X.prog=P->X.w=w->X.K=K->X.calm=true->∀ (i:Nat) (pins:List (Addr×Obj)) (s:Shared) (σ:St) (H:Hp) (E:Value->Shared->Prop),Inv X pins σ H s->(∀ b∈fp,C5 X pins H b)->tn i s.heap->J.go i H ->
  wpAny (model P w) X.A (pyNext (.ref it)) (λr s1=>∃ u,r=some u /\
   wpAny (model P w) X.A (letOwnedTupleGo tg (.ref it) u) (λ_ s2=>∃ x H',Inv X pins σ H' s2/\jt x u/\J.yld i H x H'/\tn (i+1) s2.heap/\∀ b∈fp,H' b=none) E s1) E s
 done:∀ (X:Cx),X.prog=P->X.w=w->X.K=K->X.calm=true->∀ (i:Nat) (pins:List (Addr×Obj)) (s:Shared) (σ:St) (H:Hp) (E:Value->Shared->Prop),Inv X pins σ H s->(∀ b∈fp,C5 X pins H b)->tn i s.heap->J.stop i H ->
  wpAny (model P w) X.A (pyNext (.ref it)) (λr s1=>r=none/\Inv X pins σ H s1) E s
 self:∀ (A:Around) (i:Nat) (s:Shared) (Q:Value->Shared->Prop) (E:Value->Shared->Prop),tn i s.heap->Q (.ref it) s->wpAny (model P w) A (pyIter (.ref it)) Q E s
abbrev TI:=St->Hp->(It->Hp->Prop)->Prop
def PIE (X:Cx) (pins:List (Addr×Obj)) (σ:St) (tg:Expr) (R:It->Hp->Prop) (itv:Value) (s2:Shared):Prop:=
 ∃ (it:Addr) (fp:List Addr) (tn:Nat->Heap->Prop) (J:It) (H':Hp),itv=.ref it/\Inv X pins σ H' s2/\Turn X.prog X.w X.K tg J fp it tn/\tn 0 s2.heap/\(∀ b∈fp,C5 X pins H' b)/\R J H'
def PI (X:Cx) (tg iter:Expr) (wi:TI):Prop:=
 ∀ (pins:List (Addr×Obj)) (s:Shared) (σ:St) (H:Hp) (R:It->Hp->Prop),Inv X pins σ H s->wi σ H R ->
  wpAny (model X.prog X.w) X.A (eval iter X.env) (λv s1=>wpAny (model X.prog X.w) X.A (pyIter v) (PIE X pins σ tg R) X.xe s1) X.xe s
def qcb {M:Model} {A:Around} {E:Value->Shared->Prop} {s:Shared} {tg:Expr} {it:Addr} {u:Value} {o:Obj} {n:String} {vs:Array Value} {Q:Unit->Shared->Prop} (ho:s.heap.get? it=some o) (hc:o.cls=.type n) (hd:o.data=.fields vs)
    (hn:["enumerate","zip","dict_itemiterator","dict_reverseitemiterator","odict_iterator","itertools.zip_longest","itertools.pairwise"].contains n=false) (hQ:Q () s):wpAny M A (letOwnedTupleGo tg (.ref it) u) Q E s:=by
  unfold letOwnedTupleGo;cases tg<;>first
    |exact wpAny_pure hQ
    | (cases u<;>first
        |exact wpAny_pure hQ
        | (refine wpAny_bind (wpAny_load ho ?_)
           rw [hc,hd];show wpAny M A (if (["enumerate","zip","dict_itemiterator","dict_reverseitemiterator","odict_iterator","itertools.zip_longest","itertools.pairwise"].contains n&&vs[0]?==some (rawInt _))=true then _ else _) Q E s;rw [if_neg (by intro h;rw [hn,Bool.false_and] at h;cases h)];exact wpAny_pure hQ))
def Itl (K:Frg) (a:Addr):It:=
 ⟨λi H=>∃ xs x,SqL K H a xs/\xs[i]?=some x,λi H x H'=>H'=H/\∀ xs,SqL K H a xs->xs[i]?=some x,λi H=>∃ xs,SqL K H a xs/\xs.length<=i⟩
def Itt (K:Frg) (a:Addr):It:=
 ⟨λi H=>∃ xs x,SqT K H a xs/\xs[i]?=some x,λi H x H'=>H'=H/\∀ xs,SqT K H a xs->xs[i]?=some x,λi H=>∃ xs,SqT K H a xs/\xs.length<=i⟩
def Itr (lo:Int) (n:Nat):It:=⟨λi _=>i<n,λi H x H'=>H'=H/\x=.int (lo+i),λi _=>n<=i⟩
def qad {P:Program} {w:World} {K:Frg} {tg:Expr} (a it:Addr):Turn P w K tg (Itl K a) [it] it (λi h=>h.IsListIter it a i) where
 mem:=by simp
 obj:=λi h st b hb=>by
  have e:b=it:=by simpa using hb
  subst e;obtain ⟨o,e,c,d⟩:=st;exact ⟨o,e,λv z=>by rw [d] at z;cases z⟩
 keep:=λi h h' st k=>st.at λo e=>k it (by simp) o e
 item:=by
  intro X hP hw hK hc i pins s σ H E I hf st hg;subst hP hw hK;obtain ⟨xs,x,hq,hx⟩:=hg;obtain ⟨its,rv,p,hz⟩:=I.list hq;obtain ⟨u,hu,ru⟩:=rv.get hx;obtain ⟨f0,f1,f2,f3,f4,f5⟩:=hf it (by simp);refine wpAny_pyNext_list_item st p.isList (x:=u) (by simpa using hu) λh' st' sb=>?_;have I1:Inv X pins σ H { s with heap:=h' }:=I.turned (t':=s.toks) (λb o hb e=>(sb.2 b hb).trans e) f0 f1 f3 f4 f5;obtain ⟨o,e,c,d⟩:=id st';exact ⟨u,rfl,qcb (s:={ s with heap:=h' }) e c d (by decide) ⟨x,H,I1,ru,⟨rfl,λys hy=>by rw [I.list_inj hy hq];exact hx⟩,st',λb hb=>(hf b hb).1⟩⟩
 done:=by
  intro X hP hw hK hc i pins s σ H E I hf st hg;subst hP hw hK;obtain ⟨xs,hq,hx⟩:=hg;obtain ⟨its,rv,p,hz⟩:=I.list hq;obtain ⟨f0,f1,f2,f3,f4,f5⟩:=hf it (by simp);have hl:=rv.length;exact wpAny_pyNext_list_end (I.ok.hd hc) st p.isList (by simp;omega) λh' eb=>⟨rfl,I.turned (t':=s.toks) (λb o hb e=>eb b o hb e) f0 f1 f3 f4 f5⟩
 self:=λ_ _ _ _ _ st h=>wpAny_pyIter_listiter st h
def K7 {P:Program} {w:World} {K:Frg} {tg:Expr} (a it:Addr):Turn P w K tg (Itt K a) [it] it (λi h=>h.IsTupleIter it a i) where
 mem:=by simp
 obj:=λi h st b hb=>by
  have e:b=it:=by simpa using hb
  subst e;obtain ⟨o,e,c,d⟩:=st;exact ⟨o,e,λv z=>by rw [d] at z;cases z⟩
 keep:=λi h h' st k=>st.at λo e=>k it (by simp) o e
 item:=by
  intro X hP hw hK hc i pins s σ H E I hf st hg;subst hP hw hK;obtain ⟨xs,x,hq,hx⟩:=hg;obtain ⟨its,rv,p,hz⟩:=I.tuple hq;obtain ⟨u,hu,ru⟩:=rv.get hx;obtain ⟨f0,f1,f2,f3,f4,f5⟩:=hf it (by simp);refine wpAny_pyNext_tuple_item st (show s.heap.IsTuple a its.toArray from p) (x:=u) (by simpa using hu) λh' st' sb=>?_;have I1:Inv X pins σ H { s with heap:=h' }:=I.turned (t':=s.toks) (λb o hb e=>(sb.2 b hb).trans e) f0 f1 f3 f4 f5;obtain ⟨o,e,c,d⟩:=id st';exact ⟨u,rfl,qcb (s:={ s with heap:=h' }) e c d (by decide) ⟨x,H,I1,ru,⟨rfl,λys hy=>by rw [I.tuple_inj hy hq];exact hx⟩,st',λb hb=>(hf b hb).1⟩⟩
 done:=by
  intro X hP hw hK hc i pins s σ H E I hf st hg;subst hP hw hK;obtain ⟨xs,hq,hx⟩:=hg;obtain ⟨its,rv,p,hz⟩:=I.tuple hq;obtain ⟨f0,f1,f2,f3,f4,f5⟩:=hf it (by simp);have hl:=rv.length;exact wpAny_pyNext_tuple_end (I.ok.hd hc) st (show s.heap.IsTuple a its.toArray from p) (by simp;omega) λh' eb=>⟨rfl,I.turned (t':=s.toks) (λb o hb e=>eb b o hb e) f0 f1 f3 f4 f5⟩
 self:=λ_ _ _ _ _ st h=>wpAny_pyIter_tupleiter st h
def LX {P:Program} {w:World} {K:Frg} {tg:Expr} (it:Addr) (lo:Int) (n:Nat):Turn P w K tg (Itr lo n) [it] it (λi h=>IsRangeIter h it (lo+(i:Nat)*1) ((n:Int)-(i:Nat)) 1) where
 mem:=by simp
 obj:=λi h st b hb=>by
  have e:b=it:=by simpa using hb
  subst e;exact ⟨_,st,λv z=>by
   have z':Data.fields _=Data.cell v:=z;cases z'⟩
 keep:=λi h h' st k=>k it (by simp) _ st
 item:=by
  intro X hP hw hK hc i pins s σ H E I hf st hg;subst hP hw hK;obtain ⟨f0,f1,f2,f3,f4,f5⟩:=hf it (by simp);have W:=Walks.range (prog:=X.prog) (w:=X.w) (I.ok.hd hc) it lo 1 n;refine W.item i s _ _ hg st λv h' tk hv st' kk=>?_;obtain ⟨t,rfl⟩:=hv;have I1:Inv X pins σ H { s with heap:=h',toks:=tk }:=I.turned (λb o hb e=>kk b o (by simpa using hb) e) f0 f1 f3 f4 f5;refine ⟨_,rfl,qcb (s:={ s with heap:=h',toks:=tk }) (n:="range_iterator") st' rfl rfl (by decide) ⟨.int (lo+i),H,I1,⟨t,?_⟩,⟨rfl,rfl⟩,st',λb hb=>(hf b hb).1⟩⟩;rw [Int.mul_one]
 done:=by
  intro X hP hw hK hc i pins s σ H E I hf st hg;subst hP hw hK;obtain ⟨f0,f1,f2,f3,f4,f5⟩:=hf it (by simp);exact wpAny_pyNext_range_end (I.ok.hd hc) st (by have:n<=i:=hg;omega) λh' eb=>⟨rfl,I.turned (t':=s.toks) (λb o hb e=>eb b o hb e) f0 f1 f3 f4 f5⟩
 self:=λ_ _ _ _ _ st h=>wpAny_pyIter_rangeiter st h
section
variable {X:Cx} {tg:Expr}
def qbN {pins:List (Addr×Obj)} {σ:St} {H:Hp} {s:Shared} {R:It->Hp->Prop} {E:Value->Shared->Prop} {lo hi:Int} {t u v:Tok} {tk:Nat} (I:Inv X pins σ H s) (h1:-(2 ^ 62)<=lo) (h2:lo<2 ^ 62) (h3:-(2 ^ 62)<=hi) (h4:hi<2 ^ 62)
  (q:R (Itr lo (hi-lo).toNat) H):wpAny (model X.prog X.w) X.A (pyIter (.ref s.heap.objs.size)) (PIE X pins σ tg R) E { s with heap:=s.heap.push { cls:=.type "range",data:=.fields #[.int lo t,.int hi u,.int 1 v] },toks:=tk }:=by
 refine wpAny_pyIter_range (IsRange.new ..) (small_one h1 h2 h3 h4) ?_;have I1:Inv X pins σ H { s with heap:=s.heap.push { cls:=.type "range",data:=.fields #[.int lo t,.int hi u,.int 1 v] },toks:=tk }:=I.kept λb o e=>Heap.get?_push_of_some _ e;refine ⟨(s.heap.push { cls:=.type "range",data:=.fields #[.int lo t,.int hi u,.int 1 v] }).objs.size,[(s.heap.push { cls:=.type "range",data:=.fields #[.int lo t,.int hi u,.int 1 v] }).objs.size],_,_,H,rfl,
  I1.kept (t':=tk) λb o e=>Heap.get?_push_of_some _ e,LX _ lo (hi-lo).toNat,?_,λb hb=>?_,q⟩
 ·have e1:lo+((0:Nat):Int)*1=lo:=by simp
  have e2:(((hi-lo).toNat:Nat):Int)-((0:Nat):Int)=Builtin.Range.rangeSize lo hi 1:=by rw [rangeSize_one];split<;>omega
  show IsRangeIter _ _ (lo+((0:Nat):Int)*1) ((((hi-lo).toNat:Nat):Int)-((0:Nat):Int)) 1;rw [e1,e2];exact Heap.get?_push_size _ rfl
 ·have e:b=(s.heap.push { cls:=.type "range",data:=.fields #[.int lo t,.int hi u,.int 1 v] }).objs.size:=by simpa using hb
  subst e;exact I1.fpOk (Nat.le_refl _) (I1.hok.fresh (Nat.le_refl _))
def qni (ta:TA):TI:=λσ H R=>ta σ H λvs H1=>∃ j:Int,vs=[.int j]/\-(2 ^ 62)<=j/\j<2 ^ 62/\R (Itr 0 j.toNat) H1
def qa0 {a:Expr} {ta:TA} {p pos:Pos} (hg:Gl X "range") (hm:X.mg "range" = none) (ha:PA X [a] ta) (hs:starEach [a] X.env=[(false,eval a X.env)]:=by rfl):PI X tg (.Call (.Name "range" p) [a] [] pos) (qni ta):=by
 intro pins s σ H R I h;refine Call_ (V1 I hg hm boot_range (PyProof.Rows.callWith_type1 (thn (ha pos pins s σ H _ I h) λus s1 ⟨vs,H1,I1,r1,q1⟩=>?_) hs rfl));obtain ⟨j,e,q1,q2,q⟩:=q1;subst e;cases r1 with
 |cons r rr=>
  cases rr;obtain ⟨t,rfl⟩:=r;exact call_range_1 (qbN I1 (by omega) (by omega) q1 q2 (by simpa using q))
def qpy (wi:TI) (g:TG) (tb:TS):TS:=λD σ H=>wi σ H λJ H1=>∃ W:Nat->Nat->St->Hp->Prop,(∃ m,W 0 m σ H1)/\∀ i m σ H,W i m σ H ->
 (J.stop i H/\D.nx σ H)\/(J.go i H/\∃ N:St->Hp->Prop,(∀ σ' H',N σ' H'->∃ m',m'<m/\W (i+1) m' σ' H')/\∀ x H',J.yld i H x H'->g x σ H' λσ2 H2=>tb { D with nx:=N,ct:=N,bk:=D.nx } σ2 H2)
def VZ (fp:List Addr) (h:Heap):List (Addr×Obj):=fp.filterMap λb=>(h.get? b).map λo=>(b,o)
def zl {fp:List Addr} {h:Heap} {b:Addr} {o:Obj} (hb:b∈fp) (e:h.get? b=some o):(b,o)∈VZ fp h:=List.mem_filterMap.mpr ⟨b,hb,by rw [e];rfl⟩
def qaY {fp:List Addr} {h:Heap} {p:Addr×Obj} (hp:p∈VZ fp h):p.1∈fp/\h.get? p.1=some p.2:=by
 obtain ⟨b,hb,e⟩:=List.mem_filterMap.mp hp;cases q:h.get? b with
 |none=>rw [q] at e;cases e
 |some o=>
  rw [q] at e;have e':(b,o)=p:=Option.some.inj e;subst e';exact ⟨hb,q⟩
def Inv.pinned {pins:List (Addr×Obj)} {σ:St} {H:Hp} {s:Shared} {fp:List Addr} (I:Inv X pins σ H s) (hf:∀ b∈fp,C5 X pins H b) (ho:∀ b∈fp,∃ o,s.heap.get? b=some o/\∀ v,o.data≠.cell v):Inv X (pins++VZ fp s.heap) σ H s:=
 I.pins_of λp hp=>(List.mem_append.mp hp).elim (λz=>I.pin p (mem_append_right _ z)) λz=>by
  obtain ⟨hb,e⟩:=qaY z;obtain ⟨f0,f1,f2,_⟩:=hf p.1 hb;obtain ⟨o,e',d⟩:=ho p.1 hb;rw [e] at e';cases e';exact ⟨e,f0,f1,f2,d⟩
def Inv.unpinned {pins pl:List (Addr×Obj)} {σ:St} {H:Hp} {s:Shared} (I:Inv X (pins++pl) σ H s):Inv X pins σ H s:=I.pins_of λp hp=>I.pin p (mem_append_right _ (List.mem_append_left _ hp))
def qg6 {iter:Expr} {body:List Stmt} {wi:TI} {g:TG} {tb:TS} {pos:Pos} (hp:PassesOwn (model X.prog X.w) X.A X.env X.xe) (hc:X.calm=true) (hi:PI X tg iter wi) (hg:PG X tg g) (hb:PSs X body tb)
  (hs:∀ x,foldedSetIterable iter X.env x=pure x:=by intro _;rfl):PS X (.For tg iter body [] pos) (qpy wi g tb):=by
 intro pins s σ H D I h;refine wpAny_For (thn (hi pins s σ H _ I h) λv s1 h1=>thn h1 λitv s2 h2=>?_) hs;obtain ⟨it,fp,tn,J,H2,e,I2,T,st2,f2,W,⟨m0,w0⟩,turn⟩:=h2;subst e
 -- what stays true of the iterator's objects through the loop
 have stat:∀ {H':Hp},(∀ b∈fp,H' b=none)->∀ b∈fp,C5 X pins H' b:=λhn b hb=>⟨hn b hb,(f2 b hb).2⟩
 refine codeAny_forLoop_any (λn s'=>∃ i σ' H',Inv X pins σ' H' s'/\tn i s'.heap/\(∀ b∈fp,H' b=none)/\W i n σ' H') ?_ m0 ⟨0,σ,H2,I2,st2,λb hb=>(f2 b hb).1,w0⟩;rintro n s3 ⟨i,σ3,H3,I3,st3,fr3,w3⟩;rcases turn i n σ3 H3 w3 with ⟨stop,qn⟩|⟨go,N,hN,step⟩
 ·refine wpAny_passesOwn hp (thn (T.done X rfl rfl rfl hc i pins s3 σ3 H3 X.xe I3 (stat fr3) st3 stop) λr s4 ⟨hr,I4⟩=>?_);subst hr;exact wpAny_execs_nil ⟨σ3,H3,I4,qn⟩
 ·refine wpAny_passesOwn hp (thn (T.item X rfl rfl rfl hc i pins s3 σ3 H3 X.xe I3 (stat fr3) st3 go) λr s4 ⟨u,hr,h4⟩=>?_);subst hr;refine wpAny_passesOwn hp (thn h4 λ_ s5 ⟨x,H5,I5,r5,y5,st5,fr5⟩=>?_);have I5':=I5.pinned (stat fr5) (T.obj _ _ st5);refine wpAny_passesOwn hp (thn (hg _ s5 σ3 H5 x u _ I5' r5 (step x H5 y5)) λ_ s6 ⟨σ6,H6,I6,q6⟩=>?_);refine wpAny_passesOwn hp (thn (hb _ s6 σ6 H6 _ I6 q6) λf s7 q7=>?_);have again:∀ {σ7:St} {H7:Hp},Inv X (pins++VZ fp s5.heap) σ7 H7 s7->N σ7 H7->∃ m,m<n/\∃ i σ' H',Inv X pins σ' H' s7/\tn i s7.heap/\(∀ b∈fp,H' b=none)/\W i m σ' H':=λ{σ7 H7} I7 n7=>by
   obtain ⟨m',hm,w7⟩:=hN σ7 H7 n7;refine ⟨m',hm,i+1,σ7,H7,I7.unpinned,T.keep _ _ _ st5 λb hb o e=>(I7.pin (b,o) (mem_append_right _ (mem_append_right _ (zl hb e)))).1,λb hb=>?_,w7⟩;obtain ⟨o,e,d⟩:=T.obj _ _ st5 b hb;exact (I7.pin (b,o) (mem_append_right _ (mem_append_right _ (zl hb e)))).2.1
  cases f with
  |next=>obtain ⟨σ7,H7,I7,n7⟩:=q7;exact again I7 n7
  |cont=>obtain ⟨σ7,H7,I7,n7⟩:=q7;exact again I7 n7
  |brk=>obtain ⟨σ7,H7,I7,q7⟩:=q7;exact ⟨σ7,H7,I7.unpinned,q7⟩
  |ret v=>obtain ⟨x7,σ7,H7,I7,r7,q7⟩:=q7;exact ⟨x7,σ7,H7,I7.unpinned,r7,q7⟩
end
abbrev R2:=V->V->Hp->VK->Prop
def OpR (X:Cx) (f:Value->Value->Sem Value) (r:R2):Prop:=
 ∀ (pins:List (Addr×Obj)) (s:Shared) (σ:St) (H:Hp) (x y:V) (v u:Value) (Q:VK),Inv X pins σ H s->jt x v->jt y u->r x y H Q ->
  wpAny (model X.prog X.w) X.A (f v u) (EP X pins σ Q) X.xe s
def UnR (X:Cx) (f:Value->Sem Value) (r:V->Hp->VK->Prop):Prop:=
 ∀ (pins:List (Addr×Obj)) (s:Shared) (σ:St) (H:Hp) (x:V) (v:Value) (Q:VK),Inv X pins σ H s->jt x v->r x H Q ->
  wpAny (model X.prog X.w) X.A (f v) (EP X pins σ Q) X.xe s
def ZI (X:Cx) (f:Value) (r:List V->Hp->VK->Prop):Prop:=
 ∀ (pins:List (Addr×Obj)) (s:Shared) (σ:St) (H:Hp) (xs:List V) (us:List Value) (Q:VK),Inv X pins σ H s->zx xs us->r xs H Q ->
  wpAny (model X.prog X.w) X.A (call f us) (EP X pins σ Q) X.xe s
def tOp (r:R2) (ta tb:TE):TE:=λσ H Q=>ta σ H λx H1=>tb σ H1 λy H2=>r x y H2 Q
def tUn (r:V->Hp->VK->Prop) (ta:TE):TE:=λσ H Q=>ta σ H λx H1=>r x H1 Q
def rI (C:Int->Int->Prop) (g:Int->Int->V):R2:=λx y H Q=>∃ i j,x=.int i/\y=.int j/\C i j/\Q (g i j) H
def rI0 (g:Int->Int->V):R2:=λx y H Q=>∃ i j,x=.int i/\y=.int j/\Q (g i j) H
def rU (g:Int->V):V->Hp->VK->Prop:=λx H Q=>∃ i,x=.int i/\Q (g i) H
section
variable {X:Cx} {a b c:Expr} {ta tb tc:TE} {pos:Pos}
def qm7 (ha:PE X a ta) (hb:PE X b tb) {pins:List (Addr×Obj)} {s:Shared} {σ:St} {H:Hp} {R:V->V->Hp->Prop} (I:Inv X pins σ H s)
  (h:ta σ H λx H1=>tb σ H1 λy H2=>R x y H2) {Q:Value->Shared->Prop} {f:Value->Value->Sem Value}
  (hf:∀ v u s2 x y H2,Inv X pins σ H2 s2->jt x v->jt y u->R x y H2->wpAny (model X.prog X.w) X.A (f v u) Q X.xe s2) :
  wpAny (model X.prog X.w) X.A (eval a X.env) (λv s₁=>wpAny (model X.prog X.w) X.A (eval b X.env) (λu s₂=>wpAny (model X.prog X.w) X.A (f v u) Q X.xe s₂) X.xe s₁) X.xe s:=by
 refine thn (ha pins s σ H _ I h) λv s1 ⟨x,H1,I1,r1,q1⟩=>?_;refine thn (hb pins s1 σ H1 _ I1 q1) λu s2 ⟨y,H2,I2,r2,q2⟩=>?_;exact hf v u s2 x y H2 I2 r1 r2 q2
def qm2 {op:Operator} {r:R2} (ho:OpR X (binaryOp op) r) (ha:PE X a ta) (hb:PE X b tb):PE X (.BinOp a op b pos) (tOp r ta tb):=by
 intro pins s σ H Q I h;exact wpAny_BinOp (qm7 ha hb I h λv u s2 x y H2 I2 rx ry q=>ho pins s2 σ H2 x y v u Q I2 rx ry q)
def qoh {op:UnaryOp} {r:V->Hp->VK->Prop} (ho:UnR X (unaryOp op) r) (ha:PE X a ta):PE X (.UnaryOp op a pos) (tUn r ta):=by
 intro pins s σ H Q I h;exact UnaryOp_ (thn (ha pins s σ H _ I h) λv s1 ⟨x,H1,I1,r1,q1⟩=>ho pins s1 σ H1 x v Q I1 r1 q1)
def opI {f:Value->Value->Sem Value} {C:Int->Int->Prop} {g:Int->Int->Int}
  (rule:∀ (i j:Int) (t u:Tok) (s:Shared) (Q:Value->Shared->Prop) (E:Value->Shared->Prop),C i j->Q (.int (g i j) s.toks) { s with toks:=s.toks+1 }->wpAny (model X.prog X.w) X.A (f (.int i t) (.int j u)) Q E s) :
  OpR X f (rI C λi j=>.int (g i j)):=by
 intro pins s σ H x y v u Q I rx ry h;obtain ⟨i,j,rfl,rfl,hc,q⟩:=h;obtain ⟨t,rfl⟩:=rx;obtain ⟨t',rfl⟩:=ry;exact rule i j t t' s _ _ hc ⟨.int (g i j),H,I.tok _,⟨_,rfl⟩,q⟩
def qoB {f:Value->Value->Sem Value} {g:Int->Int->Int}
  (rule:∀ (i j:Int) (t u:Tok) (s:Shared) (Q:Value->Shared->Prop) (E:Value->Shared->Prop),Q (.int (g i j) s.toks) { s with toks:=s.toks+1 }->wpAny (model X.prog X.w) X.A (f (.int i t) (.int j u)) Q E s) :
  OpR X f (rI0 λi j=>.int (g i j)):=by
 intro pins s σ H x y v u Q I rx ry h;obtain ⟨i,j,rfl,rfl,q⟩:=h;obtain ⟨t,rfl⟩:=rx;obtain ⟨t',rfl⟩:=ry;exact rule i j t t' s _ _ ⟨.int (g i j),H,I.tok _,⟨_,rfl⟩,q⟩
def qlF {f:Value->Value->Sem Value} {g:Int->Int->Bool}
  (rule:∀ (i j:Int) (t u:Tok) (s:Shared) (Q:Value->Shared->Prop) (E:Value->Shared->Prop),Q (.bool (g i j)) s->wpAny (model X.prog X.w) X.A (f (.int i t) (.int j u)) Q E s) :
  OpR X f (rI0 λi j=>.bl (g i j)):=by
 intro pins s σ H x y v u Q I rx ry h;obtain ⟨i,j,rfl,rfl,q⟩:=h;obtain ⟨t,rfl⟩:=rx;obtain ⟨t',rfl⟩:=ry;exact rule i j t t' s _ _ ⟨.bl (g i j),H,I,rfl,q⟩
def qbw (i j:Int):Prop:=0<j/\j<1073741824
def qlo (i j:Int):Prop:=0<=j/\j<=1000000/\i.natAbs<2 ^ 64
def J1 (i j:Int):Prop:=(-(2 ^ 64)<i/\i<2 ^ 64)\/(-(2 ^ 64)<j/\j<2 ^ 64)
def J1.ok {i j:Int} (h:J1 i j):IntMulOk i j:=by
 rcases h with ⟨h1,h2⟩|⟨h1,h2⟩
 ·exact .of_left (intBits_le_64 h1 h2)
 ·exact .of_right (intBits_le_64 h1 h2)
def qeK:OpR X (binaryOp .Add) (rI0 λi j=>.int (i+j)):=qoB λ_ _ _ _ _ _ _ q=>add_int q
def qhp:OpR X (binaryOp .Sub) (rI0 λi j=>.int (i-j)):=qoB λ_ _ _ _ _ _ _ q=>sub_int q
def qhM:OpR X (binaryOp .Mult) (rI J1 λi j=>.int (i*j)):=opI λ_ _ _ _ _ _ _ hc q=>mul_int q hc.ok
def qgh:OpR X (binaryOp .FloorDiv) (rI qbw λi j=>.int (i/j)):=opI λi j _ _ _ _ _ hc q=>by
 have h1:(0:Int)<j:=hc.1;have h2:j<1073741824:=hc.2;exact floordiv_int (by omega) (by rw [Int.fdiv_eq_ediv_of_nonneg i (by omega)];exact q) (.inl (PyProof.noPylong_small (by omega)))
def qiC:OpR X (binaryOp .Mod) (rI (λ_ j=>0<j) λi j=>.int (i%j)):=opI λi j _ _ _ _ _ hc q=>by
 have h1:(0:Int)<j:=hc;exact mod_int' (by omega) (by rw [Int.fmod_eq_emod_of_nonneg i (by omega)];exact q)
def qkb:OpR X (binaryOp .Pow) (rI qlo λi j=>.int (i ^ j.toNat)):=opI λ_ _ _ _ _ _ _ hc q=>pow_int_small hc.1 hc.2.1 hc.2.2 q
def unI {f:Value->Sem Value} {g:Int->Int}
  (rule:∀ (i:Int) (t:Tok) (s:Shared) (Q:Value->Shared->Prop) (E:Value->Shared->Prop),Q (.int (g i) s.toks) { s with toks:=s.toks+1 }->wpAny (model X.prog X.w) X.A (f (.int i t)) Q E s) :
  UnR X f (rU λi=>.int (g i)):=by
 intro pins s σ H x v Q I rx h;obtain ⟨i,rfl,q⟩:=h;obtain ⟨t,rfl⟩:=rx;exact rule i t s _ _ ⟨.int (g i),H,I.tok _,⟨_,rfl⟩,q⟩
def qiw:UnR X (unaryOp .USub) (rU λi=>.int (-i)):=unI λ_ _ _ _ _ q=>neg_int q
end
def qmp:V->V->Bool
 |.non,.non=>true|.non,.int _=>true|.int _,.non=>true|.non,.bl _=>true|.bl _,.non=>true|.non,.str _=>true|.str _,.non=>true
 |.int _,.int _=>true|.bl _,.bl _=>true|.str _,.str _=>true|.byt _,.byt _=>true
 |.int _,.str _=>true|.str _,.int _=>true|.bl _,.str _=>true|.str _,.bl _=>true
 |_,_=>false
def rEq:R2:=λx y H Q=>qmp x y=true/\Q (.bl (decide (x=y))) H
def rNe:R2:=λx y H Q=>qmp x y=true/\Q (.bl (!decide (x=y))) H
def qaw {i j:Int}:decide (V.int i=V.int j)=(i==j):=by
 rw [Bool.eq_iff_iff];simp
def qc6 {i j:Bool}:decide (V.bl i=V.bl j)=(i==j):=by
 rw [Bool.eq_iff_iff];simp
def MO {i j:Str}:decide (V.str i=V.str j)=(i==j):=by
 rw [Bool.eq_iff_iff];simp
def MQ {i j:Array UInt8}:decide (V.byt i=V.byt j)=(i.toList==j.toList):=by
 rw [Bool.eq_iff_iff];cases i;cases j;simp
section
variable {X:Cx} {a b c:Expr} {ta tb tc:TE} {pos:Pos}
def qM {pins:List (Addr×Obj)} {σ:St} {H:Hp} {s:Shared} {Q:VK} {k k':Bool} (I:Inv X pins σ H s) (q:Q (.bl k) H) (e:k=k'):EP X pins σ Q (.bool k') s:=by
 subst e;exact ⟨.bl k,H,I,rfl,q⟩
def qnu:OpR X (compareOp .Eq) rEq:=by
 intro pins s σ H x y v u Q I rx ry h;obtain ⟨hs,q⟩:=h;cases x with
 |non=>
  cases rx;cases y with
  |non=>cases ry;exact PySem.EqNone.eq_none_none (qM I q (by simp))
  |bl j=>cases ry;exact PySem.EqNone.eq_none_bool (qM I q (by simp))
  |int j=>obtain ⟨t',rfl⟩:=ry;exact PySem.EqNone.eq_none_int (qM I q (by simp))
  |str j=>obtain ⟨t',rfl⟩:=ry;exact PySem.EqNone.eq_none_str (qM I q (by simp))
  |_=>exact absurd (show false=true from hs) Bool.false_ne_true
 |bl i=>
  cases rx;cases y with
  |non=>cases ry;exact PySem.EqNone.eq_bool_none (qM I q (by simp))
  |bl j=>cases ry;exact eq_bool (qM I q qc6)
  |str j=>obtain ⟨t',rfl⟩:=ry;exact PySem.EqMixed.eq_bool_str (qM I q (by simp))
  |_=>exact absurd (show false=true from hs) Bool.false_ne_true
 |int i=>
  obtain ⟨t,rfl⟩:=rx;cases y with
  |non=>cases ry;exact PySem.EqNone.eq_int_none (qM I q (by simp))
  |int j=>obtain ⟨t',rfl⟩:=ry;exact eq_int (qM I q qaw)
  |str j=>obtain ⟨t',rfl⟩:=ry;exact PySem.EqMixed.eq_int_str (qM I q (by simp))
  |_=>exact absurd (show false=true from hs) Bool.false_ne_true
 |str i=>
  obtain ⟨t,rfl⟩:=rx;cases y with
  |non=>cases ry;exact PySem.EqNone.eq_str_none (qM I q (by simp))
  |bl j=>cases ry;exact PySem.EqMixed.eq_str_bool (qM I q (by simp))
  |int j=>obtain ⟨t',rfl⟩:=ry;exact PySem.EqMixed.eq_str_int (qM I q (by simp))
  |str j=>obtain ⟨t',rfl⟩:=ry;exact eq_str (qM I q MO)
  |_=>exact absurd (show false=true from hs) Bool.false_ne_true
 |byt i=>
  obtain ⟨t,rfl⟩:=rx;cases y with
  |byt j=>obtain ⟨t',rfl⟩:=ry;exact PySem.W.eq_bytes (qM I q MQ)
  |_=>exact absurd (show false=true from hs) Bool.false_ne_true
 |_=>cases y<;>exact absurd (show false=true from hs) Bool.false_ne_true
def qmj:OpR X (compareOp .NotEq) rNe:=by
 intro pins s σ H x y v u Q I rx ry h;obtain ⟨hs,q⟩:=h;cases x with
 |non=>
  cases rx;cases y with
  |non=>cases ry;exact PySem.EqNone.ne_none_none (qM I q (by simp))
  |bl j=>cases ry;exact PySem.EqNone.ne_none_bool (qM I q (by simp))
  |int j=>obtain ⟨t',rfl⟩:=ry;exact PySem.EqNone.ne_none_int (qM I q (by simp))
  |str j=>obtain ⟨t',rfl⟩:=ry;exact PySem.EqNone.ne_none_str (qM I q (by simp))
  |_=>exact absurd (show false=true from hs) Bool.false_ne_true
 |bl i=>
  cases rx;cases y with
  |non=>cases ry;exact PySem.EqNone.ne_bool_none (qM I q (by simp))
  |bl j=>cases ry;exact ne_bool (qM I q (congrArg not qc6))
  |str j=>obtain ⟨t',rfl⟩:=ry;exact PySem.EqMixed.ne_bool_str (qM I q (by simp))
  |_=>exact absurd (show false=true from hs) Bool.false_ne_true
 |int i=>
  obtain ⟨t,rfl⟩:=rx;cases y with
  |non=>cases ry;exact PySem.EqNone.ne_int_none (qM I q (by simp))
  |int j=>obtain ⟨t',rfl⟩:=ry;exact ne_int (qM I q (congrArg not qaw))
  |str j=>obtain ⟨t',rfl⟩:=ry;exact PySem.EqMixed.ne_int_str (qM I q (by simp))
  |_=>exact absurd (show false=true from hs) Bool.false_ne_true
 |str i=>
  obtain ⟨t,rfl⟩:=rx;cases y with
  |non=>cases ry;exact PySem.EqNone.ne_str_none (qM I q (by simp))
  |bl j=>cases ry;exact PySem.EqMixed.ne_str_bool (qM I q (by simp))
  |int j=>obtain ⟨t',rfl⟩:=ry;exact PySem.EqMixed.ne_str_int (qM I q (by simp))
  |str j=>obtain ⟨t',rfl⟩:=ry;exact ne_str (qM I q (congrArg not MO))
  |_=>exact absurd (show false=true from hs) Bool.false_ne_true
 |byt i=>
  obtain ⟨t,rfl⟩:=rx;cases y with
  |byt j=>obtain ⟨t',rfl⟩:=ry;exact PySem.W.ne_bytes (qM I q (congrArg not MQ))
  |_=>exact absurd (show false=true from hs) Bool.false_ne_true
 |_=>cases y<;>exact absurd (show false=true from hs) Bool.false_ne_true
def qcq:OpR X (compareOp .Lt) (rI0 λi j=>.bl (decide (i<j))):=qlF λ_ _ _ _ _ _ _ q=>lt_int q
def qkJ:OpR X (compareOp .LtE) (rI0 λi j=>.bl (decide (i<=j))):=qlF λ_ _ _ _ _ _ _ q=>le_int q
def qmG:OpR X (compareOp .Gt) (rI0 λi j=>.bl (decide (j<i))):=qlF λ_ _ _ _ _ _ _ q=>gt_int q
def qjP:OpR X (compareOp .GtE) (rI0 λi j=>.bl (decide (j<=i))):=qlF λ_ _ _ _ _ _ _ q=>ge_int q
def NL:OpR X (compareOp .Is) (λx y H Q=>y=.non/\Q (.bl (decide (x=.non))) H):=by
 intro pins s σ H x y v u Q I rx ry h;obtain ⟨rfl,q⟩:=h;cases ry;refine is_none_gen (qM I q ?_);cases x<;>first
  | (cases rx;rfl)
  | (obtain ⟨t,rfl⟩:=rx;rfl)
def OpR.or {f:Value->Value->Sem Value} {r r':R2} (h:OpR X f r) (h':OpR X f r'):OpR X f (λx y H Q=>r x y H Q\/r' x y H Q):=by
 intro pins s σ H x y v u Q I rx ry q;rcases q with q|q
 ·exact h pins s σ H x y v u Q I rx ry q
 ·exact h' pins s σ H x y v u Q I rx ry q
def qq (b:Expr) {op:CmpOp} (h:op≠.In:=by decide) (h2:op≠.NotIn:=by decide):behindInMarks op b=false:=by
 have e1:(op==CmpOp.In)=false:=by cases op<;>first|rfl|exact absurd rfl h
 have e2:(op==CmpOp.NotIn)=false:=by cases op<;>first|rfl|exact absurd rfl h2
 cases b<;>simp [behindInMarks,e1,e2]
def qga {op:CmpOp} {r:R2} (ho:OpR X (compareOp op) r) (ha:PE X a ta) (hb:PE X b tb) (hm:behindInMarks op b=false):PE X (.Compare a [op] [b] pos) (tOp r ta tb):=by
 intro pins s σ H Q I h;exact wpAny_Compare1 (qm7 ha hb I h λv u s2 x y H2 I2 rx ry q=>ho pins s2 σ H2 x y v u Q I2 rx ry q) hm
def qgg (t:TE):TT:=λσ H Q=>t σ H λx H'=>∃ k,x=.bl k/\Q k H'
def qa4 {op:CmpOp} {r:R2} (ho:OpR X (compareOp op) r) (ha:PE X a ta) (hb:PE X b tb) (hm:behindInMarks op b=false):PT X (.Compare a [op] [b] pos) (qgg (tOp r ta tb)):=by
 intro pins s σ H Q I h;refine wpAny_isTrue_Compare1 (thn (ha pins s σ H _ I h) λv s1 ⟨x,H1,I1,r1,q1⟩=>thn (hb pins s1 σ H1 _ I1 q1) λu s2 ⟨y,H2,I2,r2,q2⟩=>
  thn (ho pins s2 σ H2 x y v u _ I2 r1 r2 q2) λc s3 ⟨z,H3,I3,r3,k,e,q3⟩=>?_) hm
 subst e;cases r3;exact wpAny_truthy_bool ⟨H3,I3,q3⟩
def qeM (r r':R2) (ta tb tc:TE):TE:=λσ H Q=>ta σ H λx H1=>tb σ H1 λy H2=>r x y H2 λz H3=>∃ k,z=.bl k /\
 (if k=true then tc σ H3 λw' H4=>r' y w' H4 Q else Q (.bl false) H3)
def qcT {op op':CmpOp} {r r':R2} (ho:OpR X (compareOp op) r) (ho':OpR X (compareOp op') r') (ha:PE X a ta) (hb:PE X b tb) (hc:PE X c tc)
  (hm:lastMarks [op,op'] [b,c]=false:=by with_unfolding_all rfl):PT X (.Compare a [op,op'] [b,c] pos) (qgg (qeM r r' ta tb tc)):=by
 intro pins s σ H Q I h;refine isTrue_chain (thn (ha pins s σ H _ I h) λv s1 ⟨x,H1,I1,r1,q1⟩=>test_link (thn (hb pins s1 σ H1 _ I1 q1) λu s2 ⟨y,H2,I2,r2,q2⟩=>
  thn (ho pins s2 σ H2 x y v u _ I2 r1 r2 q2) λd s3 ⟨z,H3,I3,r3,k,e,q3⟩=>?_)) hm
 subst e;cases r3;refine wpAny_truthy_bool ?_;cases k with
 |false=>
  obtain ⟨k',e',q'⟩:=q3;cases e';exact ite_ff ⟨H3,I3,q'⟩
 |true=>
  refine ite_tt (test_last (thn (hc pins s3 σ H3 _ I3 q3) λw' s4 ⟨z',H4,I4,r4,q4⟩=>thn (ho' pins s4 σ H4 y z' u w' _ I4 r2 r4 q4) λd' s5 ⟨z2,H5,I5,r5,k2,e2,q5⟩=>?_));subst e2;cases r5;exact wpAny_truthy_bool ⟨H5,I5,q5⟩
def CH:(sizeLine:Nat)<2 ^ 63:=by rw [sizeLine_eq];decide
def EM {x:V} {us:List Value} (r:zx [x] us):∃ u,us=[u]/\jt x u:=by
 cases r with
 |cons r1 r2=>cases r2;exact ⟨_,rfl,r1⟩
def qbm {x y:V} {us:List Value} (r:zx [x,y] us):∃ u w',us=[u,w']/\jt x u/\jt y w':=by
 cases r with
 |cons r1 r2=>
  cases r2 with
  |cons r3 r4=>cases r4;exact ⟨_,_,rfl,r1,r3⟩
def S6:ZI X (.builtin "abs") (λxs H Q=>∃ i,xs=[.int i]/\Q (.int (if i<0 then -i else i)) H):=by
 intro pins s σ H xs us Q I r h;obtain ⟨i,rfl,q⟩:=h;obtain ⟨u,rfl,t,rfl⟩:=EM r;exact call_abs_int λu tk=>⟨.int (if i<0 then -i else i),H,I.tok _,⟨_,rfl⟩,q⟩
def NU (hc:X.calm=true):ZI X (.builtin "min") (λxs H Q=>∃ i j,xs=[.int i,.int j]/\Q (.int (if j<i then j else i)) H):=by
 intro pins s σ H xs us Q I r h;obtain ⟨i,j,rfl,q⟩:=h;obtain ⟨u,w',rfl,⟨t,rfl⟩,⟨t',rfl⟩⟩:=qbm r;refine min_two_ints (I.ok.hd hc) λh' tk k=>⟨_,H,I.kept k,?_,q⟩
 by_cases hj:j<i
 ·rw [if_pos hj,if_pos hj];exact ⟨_,rfl⟩
 ·rw [if_neg hj,if_neg hj];exact ⟨_,rfl⟩
def ZT:ZI X (.type "int") (λxs H Q=>(∃ i,xs=[.int i]/\Q (.int i) H)\/∃ k,xs=[.bl k]/\Q (.int (if k then 1 else 0)) H):=by
 intro pins s σ H xs us Q I r h;rcases h with ⟨i,rfl,q⟩|⟨k,rfl,q⟩
 ·obtain ⟨u,rfl,t,rfl⟩:=EM r;exact call_int_int ⟨.int i,H,I,⟨_,rfl⟩,q⟩
 ·obtain ⟨u,rfl,r1⟩:=EM r;cases r1;exact call_int_bool ⟨.int (if k then 1 else 0),H,I.tok _,⟨_,rfl⟩,q⟩
def qoM (K:Frg) (x:V) (H:Hp) (n:Nat):Prop:=
 match x with
 |.str y=>y.length<=sizeLine/\n=y.length
 |.byt y=>y.size<=sizeLine/\n=y.size
 |.ref p=>(∃ xs,SqL K H p xs/\n=xs.length)\/∃ xs,SqT K H p xs/\n=xs.length
 |_=>False
def zy:ZI X (.builtin "len") (λxs H Q=>∃ x n,xs=[x]/\qoM X.K x H n/\Q (.int n) H):=by
 intro pins s σ H xs us Q I r h;obtain ⟨x,n,rfl,e,q⟩:=h;obtain ⟨u,rfl,rx⟩:=EM r;have hl:=CH;have hs:sizeLine=16777216:=sizeLine_eq;cases x with
 |str y=>
  obtain ⟨t,rfl⟩:=rx;obtain ⟨hy,e'⟩:y.length<=sizeLine/\n=y.length:=e;subst e';exact len_str (by omega) ⟨.int _,H,I.tok _,⟨_,rfl⟩,q⟩
 |byt y=>
  obtain ⟨t,rfl⟩:=rx;obtain ⟨hy,e'⟩:y.size<=sizeLine/\n=y.size:=e;subst e';exact PySem.W.len_bytes (by omega) ⟨.int _,H,I.tok _,⟨_,rfl⟩,q⟩
 |ref p=>
  cases rx;have e':(∃ xs,SqL X.K H p xs/\n=xs.length)\/∃ xs,SqT X.K H p xs/\n=xs.length:=e;rcases e' with ⟨xs,hx,e'⟩|⟨xs,hx,e'⟩
  ·subst e';obtain ⟨its,r',pl,hz⟩:=I.list hx;have hlen:=r'.length;exact Calls.call_len_list pl.isList (by simp only [size_toArray];omega) ⟨.int xs.length,H,I.tok _,⟨_,by simp only [size_toArray];rw [hlen]⟩,q⟩
  ·subst e';obtain ⟨its,r',pl,hz⟩:=I.tuple hx;have hlen:=r'.length;exact len_tuple pl (by simp only [size_toArray];omega) ⟨.int xs.length,H,I.tok _,⟨_,by simp only [size_toArray];rw [hlen]⟩,q⟩
 |_=>exact (show False from e).elim
end
section
variable {prog:Program} {w:World} {A:Around} {E:Value->Shared->Prop} {s:Shared} {K:Frg} {x dx C f:Addr} {mA:Str->Option Value} {name:Str} {v:Value}
end
section
variable {P:Program} {w:World} {H H':Hp} {h h':Heap} {a C dx:Addr} {fs fs':List (Str×V)}
end
section
variable {X:Cx} {pins:List (Addr×Obj)} {σ:St} {H:Hp} {s:Shared} {a C dx:Addr} {fs:List (Str×V)} {f:Str} {v:V} {A:Around} {E:Value->Shared->Prop}
def Inv.made (I:Inv X pins σ H s):Inv X pins σ (upd (upd H s.heap.objs.size (.own (s.heap.objs.size+1))) (s.heap.objs.size+1) (.ins C s.heap.objs.size []))
  { s with heap:=(s.heap.push PySem.W.emptyDict).push (PySem.W.instObj C s.heap.objs.size) }:=by
 have e1:(s.heap.push PySem.W.emptyDict).get? s.heap.objs.size=some PySem.W.emptyDict:=Heap.get?_push_size s.heap rfl;have e2:((s.heap.push PySem.W.emptyDict).push (PySem.W.instObj C s.heap.objs.size)).get? (s.heap.objs.size+1)=some (PySem.W.instObj C s.heap.objs.size):=by
  have:=Heap.get?_push_size (s.heap.push PySem.W.emptyDict) (o:=PySem.W.instObj C s.heap.objs.size) rfl
  rwa [Heap.size_push] at this
 have e3:(s.heap.push PySem.W.emptyDict).Ns s.heap.objs.size (λ_=>none):=⟨PySem.W.emptyDict,#[],_,e1,rfl,(λe he=>absurd he (by simp)),λ_=>rfl⟩
 have I1:=I.laid (a:=s.heap.objs.size) (o:=.own (s.heap.objs.size+1)) (h':=s.heap.push PySem.W.emptyDict) (t':=s.toks) (λb u q=>Heap.get?_push_of_some _ q) (Nat.le_refl _) ⟨_,e1⟩;refine I1.laid (a:=s.heap.objs.size+1) (o:=.ins C s.heap.objs.size []) (t':=s.toks) (λb u q=>Heap.get?_push_of_some _ q) (Nat.le_of_eq (Heap.size_push _ _)) ?_;have ne:s.heap.objs.size≠s.heap.objs.size+1:=Nat.ne_of_lt (Nat.lt_succ_self _);refine ⟨by rw [qv ne,qT],Nat.zero_le _,ne,e2,λ_=>none,(Heap.Ns1.of_empty e3).at λo q=>Heap.get?_push_of_some _ q,λ_=>True.intro,λy hy=>absurd rfl hy⟩
end
section
variable {X:Cx} {o e value:Expr} {f:Str} {pos pos' tpos:Pos} {ta tv:TE}
end
section
variable {X:Cx} {pins:List (Addr×Obj)} {σ:St} {H:Hp} {s:Shared} {A:Around} {E:Value->Shared->Prop} {Q:Value->Shared->Prop} {c:Value} {b:Bool}
end
structure Room (k:Nat) (A:Around):Prop where
 hd:A.handled=none
 dp:A.depth+3*k+5<recursionLimit
 un:A.units+16*k+200<cLine
 gd:A.guards=some []
def Room.mono {j k:Nat} {A:Around} (r:Room k A) (h:j<=k):Room j A:=⟨r.hd,by have:=r.dp;omega,by have:=r.un;omega,r.gd⟩
def Room.deeper {k:Nat} {A:Around} (r:Room (k+1) A) (env:Env):Room k (A.deeper env):=
 ⟨r.hd,by have:=r.dp;show A.depth+1+3*k+5<_;omega,by have:=r.un;show A.units+3+16*k+200<_;omega,r.gd⟩
def Room.in1 {k:Nat} {A:Around} (r:Room (k+1) A):Room k A.in1:=
 ⟨r.hd,by have:=r.dp;show A.depth+3*k+5<_;omega,by have:=r.un;show A.units+1+16*k+200<_;omega,r.gd⟩
def Room.depth {k:Nat} {A:Around} (r:Room k A):A.depth<recursionLimit:=by have:=r.dp;omega
def Room.units {k:Nat} {A:Around} (r:Room k A):A.units+64<cLine:=by have:=r.un;omega
def qo4:TA:=λ_ H Q=>Q [] H
def qnb (ta:TE) (tr:TA):TA:=λσ H Q=>ta σ H λx H1=>tr σ H1 λxs H2=>Q (x::xs) H2
section
variable {X:Cx} {e:Expr} {es:List Expr} {te:TE} {t:TA} {pos:Pos}
def SV:PA X [] qo4:=λ_ _ _ _ H Q I h=>Calls.spliced_nil ⟨[],H,I,.nil,h⟩
def JQ (ha:PE X e te) (hr:PA X es t) (hs:starEach (e::es) X.env=(false,eval e X.env)::starEach es X.env:=by rfl):PA X (e::es) (qnb te t):=by
 intro pos pins s σ H Q I h;rw [hs];show wpAny _ _ (spliced ((false,eval e X.env)::backTo pos (starEach es X.env))) _ _ s;refine Calls.spliced_cons (thn (ha pins s σ H _ I h) λu s1 ⟨x,H1,I1,r1,q1⟩=>?_);exact thn (hr pos pins s1 σ H1 _ I1 q1) λus s2 ⟨xs,H2,I2,r2,q2⟩=>⟨x::xs,H2,I2,.cons r1 r2,q2⟩
def qpx (t:TA):TE:=λσ H Q=>t σ H λxs H1=>xs.length<=sizeLine/\∀ p,H1 p=none->Q (.ref p) (upd H1 p (.tup xs))
def qpe (t:TA):TE:=λσ H Q=>t σ H λxs H1=>xs.length<=sizeLine/\∀ p,H1 p=none->Q (.ref p) (upd H1 p (.lst xs))
def qdM {x1} (h:PA X es t):PE X (.Tuple es x1 pos) (qpx t):=by
 intro pins s σ H Q I hq;refine wpAny_Tuple_spliced (thn (h pos pins s σ H _ I hq) λus s1 ⟨xs,H1,I1,r,z,q⟩=>⟨by rw [← r.length];exact z,?_⟩);have hf:H1 s1.heap.objs.size=none:=I1.hok.fresh (Nat.le_refl _);refine ⟨.ref s1.heap.objs.size,upd H1 s1.heap.objs.size (.tup xs),I1.laid (t':=s1.toks) (λb u e=>Heap.get?_push_of_some _ e) (Nat.le_refl _) ?_,rfl,q _ hf⟩;exact ⟨z,us,r,⟨_,Heap.get?_push_size _ rfl,rfl,_,rfl,rfl⟩⟩
def qjG (h:PA X es t):PE X (.List es pos) (qpe t):=by
 intro pins s σ H Q I hq;refine wpAny_List_spliced (thn (h pos pins s σ H _ I hq) λus s1 ⟨xs,H1,I1,r,z,q⟩=>⟨by rw [← r.length];exact z,?_⟩);have hf:H1 s1.heap.objs.size=none:=I1.hok.fresh (Nat.le_refl _);refine ⟨.ref s1.heap.objs.size,upd H1 s1.heap.objs.size (.lst xs),I1.laid (t':=s1.toks) (λb u e=>Heap.get?_push_of_some _ e) (Nat.le_refl _) ?_,rfl,q _ hf⟩;exact ⟨z,us,0,r,Heap.get?_push_size _ rfl⟩
end
abbrev Sp:=List V->Hp->VK->XK->Prop
abbrev CXT:=List Env->Hp->Shared->XK->Value->Shared->Prop
structure Env0 (P:Program) (w:World) (K:Frg) (mg:Str->Option Value) (base:Heap) (A:Around) (outer:List Env) (s:Shared) (H:Hp):Prop where
 frames:A.frames=some outer
 mod:Mod K mg base
 bs:∀ b o,base.get? b=some o->s.heap.get? b=some o/\H b=none
 bsz:base.objs.size<=s.heap.objs.size
 funs:s.heap.FunFrames base outer
 frf:∀ b∈frs outer,H b=none
 hok:HOk P w H s.heap
 bare:AllBare s.gens
def CE (outer:List Env) (P:Program) (w:World) (H:Hp) (s:Shared) (Q:VK) (u:Value) (s':Shared):Prop:=
 ∃ v H',s'.os=s.os/\AllBare s'.gens/\Un (frs outer) [] H H' s.heap s'.heap/\HOk P w H' s'.heap/\jt v u/\Q v H'
def CR (CX:CXT) (outer:List Env) (P:Program) (w:World) (H:Hp) (s:Shared) (Q:VK) (E:XK) (r:Result) (s':Shared):Prop:=
 match r with
 |.ok (.ret u)=>CE outer P w H s Q u s'
 |.ok _=>False
 |.error e=>CX outer H s E e s'
structure FnOk (P:Program) (w:World) (K:Frg) (mg:Str->Option Value) (base:Heap) (CX:CXT) (k:Nat) (f:Addr) (fd:FuncData) (ps:List Str) (sp:Sp):Prop where
 len:∀ vs H Q E,sp vs H Q E->vs.length=ps.length
 run:∀ (A:Around) (outer:List Env) (s:Shared) (H:Hp) (args:Args) (us:List Value) (vs:List V) (Q:VK) (E:XK),Room k A->Env0 P w K mg base A outer s H->BindsTo s fd args (ps.zip us)->zx vs us->sp vs H Q E ->
  codeAny (model P w) A (.call (.ref f) args) (CR CX outer P w H s Q E) s
def FnOk.mono {P:Program} {w:World} {K:Frg} {mg:Str->Option Value} {base:Heap} {CX:CXT} {j k:Nat} {f:Addr} {fd:FuncData} {ps:List Str} {sp:Sp} (F:FnOk P w K mg base CX j f fd ps sp) (h:j<=k) :
  FnOk P w K mg base CX k f fd ps sp:=⟨F.len,λA outer s H args us vs Q E hr=>F.run A outer s H args us vs Q E (hr.mono h)⟩
def FnOk.imp {P:Program} {w:World} {K:Frg} {mg:Str->Option Value} {base:Heap} {CX:CXT} {k:Nat} {f:Addr} {fd:FuncData} {ps:List Str} {sp sp':Sp} (F:FnOk P w K mg base CX k f fd ps sp)
  (h:∀ vs H Q E,sp' vs H Q E->sp vs H Q E):FnOk P w K mg base CX k f fd ps sp':=
 ⟨λvs H Q E q=>F.len vs H Q E (h _ _ _ _ q),λA outer s H args us vs Q E hr he hb hv hs=>F.run A outer s H args us vs Q E hr he hb hv (h _ _ _ _ hs)⟩
def Env0.in1 {P:Program} {w:World} {K:Frg} {mg:Str->Option Value} {base:Heap} {A:Around} {outer:List Env} {s:Shared} {H:Hp} (e:Env0 P w K mg base A outer s H) :
  Env0 P w K mg base A.in1 outer s H:=⟨e.frames,e.mod,e.bs,e.bsz,e.funs,e.frf,e.hok,e.bare⟩
section
variable {X:Cx} {pins:List (Addr×Obj)} {σ:St} {H:Hp} {s s':Shared}
def Inv.env0 (I:Inv X pins σ H s):Env0 X.prog X.w X.K X.mg X.base X.A X.stack s H:=
 ⟨I.ok.frames,I.ok.mod,I.bs,Nat.le_trans I.ok.bsz I.sz,I.stack,I.stkFree,I.hok,I.bare⟩
def Inv.after {Q:VK} {u:Value} (I:Inv X pins σ H s) (h:CE X.stack X.prog X.w H s Q u s'):EP X pins σ Q u s':=by
 obtain ⟨v,H',os,bare,un,hok,r,q⟩:=h;obtain ⟨hh,g,d,t,os'⟩:=s';obtain rfl:os'=s.os:=os;exact ⟨v,H',I.call (h':=hh) (g':=g) (d':=d) (t':=t) (ch:=[]) un hok bare (λb z=>absurd z (by simp)),r,q⟩
end
def qmF (sp:Sp) (dvs:List V) (E:XK) (t:TA):TE:=λσ H Q=>t σ H λvs H1=>sp (vs++dvs) H1 Q E
def zw (K:Frg) (fd:FuncData) (ps:List Str) (ds:List Value):Prop:=
 ∀ (s:Shared) (us:List Value),K.In s.heap->(us++ds).length=ps.length->BindsTo s fd ⟨us,[]⟩ (ps.zip (us++ds))
def zw.all {K:Frg} {fd:FuncData} {ps:List Str} (h:∀ us:List Value,us.length=ps.length->bindArgs fd ⟨us,[]⟩=pure (ps.zip us)):zw K fd ps []:=λs us _ hl=>by
 rw [List.append_nil] at hl ⊢;exact .of_eq (h us hl)
def qaf (CX:CXT) (X:Cx) (E:XK):Prop:=∀ (pins:List (Addr×Obj)) (σ:St) (H:Hp) (s:Shared) (e:Value) (s':Shared),Inv X pins σ H s->CX X.stack H s E e s'->X.xe e s'
section
variable {X:Cx} {CX:CXT} {k:Nat} {f C:Addr} {fd:FuncData} {ps:List Str} {sp:Sp} {dvs:List V} {ds:List Value} {E:XK} {x m:Str} {p pos apos:Pos} {e o:Expr} {es:List Expr} {ta:TE} {t:TA}
def qiQ {pins:List (Addr×Obj)} {σ:St} {H:Hp} {s:Shared} {Q:VK} {us:List Value} {vs:List V} (F:FnOk X.prog X.w X.K X.mg X.base CX k f fd ps sp) (hr:Room k X.A) (hb:zw X.K fd ps ds) (hd:zx dvs ds) (hx:qaf CX X E)
  (I:Inv X pins σ H s) (r:zx vs us) (h:sp (vs++dvs) H Q E):wpAny (model X.prog X.w) X.A (call (.ref f) us) (EP X pins σ Q) X.xe s:=by
 have r2:zx (vs++dvs) (us++ds):=r.append hd;have hl:(us++ds).length=ps.length:=by rw [← r2.length];exact F.len _ _ _ _ h
 refine wpAny_call (codeAny_mono (F.run X.A X.stack s H ⟨us,[]⟩ (us++ds) (vs++dvs) Q E hr I.env0 (hb s us I.kIn hl) r2 h) λr s' hq=>?_);cases r with
 |error e=>exact hx pins σ H s e s' I hq
 |ok fl=>
  cases fl with
  |ret u=>exact I.after hq
  |next=>exact False.elim hq
  |brk=>exact False.elim hq
  |cont=>exact False.elim hq
def qfE (F:FnOk X.prog X.w X.K X.mg X.base CX k f fd ps sp) (hr:Room k X.A) (hg:Gl X x) (hm:X.mg x=some (.ref f)) (hk:PySem.W.keepIn X.K (.ref f)=true) (hb:zw X.K fd ps ds) (hd:zx dvs ds) (hx:qaf CX X E)
  (ha:PA X (e::es) t) (hdb:(x==("__debug__" : Str))=false:=by decide) (he:starEach (e::es) X.env=(false,eval e X.env)::starEach es X.env:=by rfl) (hpl:(backTo pos (starEach es X.env)).any (·.1)=false:=by rfl) :
  PE X (.Call (.Name x p) (e::es) [] pos) (qmF sp dvs E t):=by
 intro pins s σ H Q I h;refine wpAny_Call_Name_kw (qaM I hg hm ?_ hdb);refine PySem.W.callWith_K (h₀:=X.base) I.ok.mod.kin hk (thn (ha pos pins s σ H _ I h) λus s1 ⟨vs,H1,I1,r,q⟩=>⟨I1.kIn,?_⟩) he hpl;exact qiQ F hr hb hd hx I1 r q
end
section
variable {X:Cx} {CX:CXT} {k:Nat} {f C:Addr} {fd:FuncData} {ps ks:List Str} {sp:Sp} {E:XK} {x m:Str} {p pos apos kpos:Pos} {e o:Expr} {es:List Expr} {kws:List Keyword} {te ta:TE} {t tk:TA} {nm:Option Str}
variable {g:List Value->List Value->List Value} {gV:List V->List V->List V}
end
structure FnScope (N P:List Str) (sc:Scope):Prop where
 kind:sc.kind=.function
 co:sc.isCoroutine=false
 gen:sc.isGenerator=false
 nd:N.Nodup
 pre:N.take P.length=P
 par:∀ x∈P,sc.names.lookup x=some .local\/sc.names.lookup x=some .cell
 nofree:∀ y∈sc.names,y.2≠.free
def C8 {kindOf:Str->Option NameKind} {x:Str}:∀ {binds:List (Str×Value)} {m:Str->Option Value},(∀ v,(x,v)∉binds)->bindL kindOf binds m x=m x
 |[],_,_=>rfl
 | (n,v)::r,m,h=>by
  unfold bindL;rw [C8 λw hw=>h w (List.mem_cons_of_mem _ hw)];split
  ·have:x≠n:=by rintro rfl;exact h v List.mem_cons_self
   simp [this]
  ·rfl
def X6 {kindOf:Str->Option NameKind} {x:Str}:∀ {binds:List (Str×Value)} {m:Str->Option Value},(∀ v,(x,v)∉binds)->bindC kindOf binds m x=m x
 |[],_,_=>rfl
 | (n,v)::r,m,h=>by
  unfold bindC;rw [X6 λw hw=>h w (List.mem_cons_of_mem _ hw)];split
  ·rfl
  ·have:x≠n:=by rintro rfl;exact h v List.mem_cons_self
   simp [this]
def RB {kindOf:Str->Option NameKind} {x:Str} {v:Value}:∀ {P:List Str} {vs:List Value} {i:Nat} {m:Str->Option Value},P.Nodup->P[i]?=some x->vs[i]?=some v->kindOf x=some .local ->
  bindL kindOf (P.zip vs) m x=some v
 |[],_,_,_,_,h,_,_=>by simp at h
 |_::_,[],_,_,_,_,h,_=>by simp at h
 |p::P,w::vs,0,m,nd,h1,h2,hk=>by
  simp at h1 h2;subst h1;subst h2;show bindL kindOf ((p,w)::P.zip vs) m p=_;unfold bindL;rw [C8 λv hv=>(List.nodup_cons.mp nd).1 (List.of_mem_zip hv).1,if_pos hk];simp
 |p::P,w::vs,i+1,m,nd,h1,h2,hk=>by
  show bindL kindOf ((p,w)::P.zip vs) m x=_;unfold bindL;exact RB (i:=i) (List.nodup_cons.mp nd).2 (by simpa using h1) (by simpa using h2) hk
def XZ {kindOf:Str->Option NameKind} {x:Str} {v:Value}:∀ {P:List Str} {vs:List Value} {i:Nat} {m:Str->Option Value},P.Nodup->P[i]?=some x->vs[i]?=some v->kindOf x≠some .local ->
  bindC kindOf (P.zip vs) m x=some v
 |[],_,_,_,_,h,_,_=>by simp at h
 |_::_,[],_,_,_,_,h,_=>by simp at h
 |p::P,w::vs,0,m,nd,h1,h2,hk=>by
  simp at h1 h2;subst h1;subst h2;show bindC kindOf ((p,w)::P.zip vs) m p=_;unfold bindC;rw [X6 λv hv=>(List.nodup_cons.mp nd).1 (List.of_mem_zip hv).1,if_neg hk];simp
 |p::P,w::vs,i+1,m,nd,h1,h2,hk=>by
  show bindC kindOf ((p,w)::P.zip vs) m x=_;unfold bindC;exact XZ (i:=i) (List.nodup_cons.mp nd).2 (by simpa using h1) (by simpa using h2) hk
def start (N:List Str) (vs:List V):St:=vs.map some++List.replicate (N.length-vs.length) none
def qbt (CX:CXT) (P:Program) (w:World) (K:Frg) (mg:Str->Option Value) (base:Heap) (N:List Str) (qual:Str) (scope:Scope) (f:Addr) (cd:Value) (A:Around) (outer:List Env) (s:Shared) (H:Hp) (E:XK):Cx where
 prog:=P
 w:=w
 K:=K
 mg:=mg
 base:=base
 A:=A.deeper (envOfC qual scope s.heap.objs.size f cd)
 N:=N
 s₀:=s
 H₀:=H
 env:=envOfC qual scope s.heap.objs.size f cd
 outer:=outer
 stack:=envOfC qual scope s.heap.objs.size f cd::outer
 ex:=[]
 calm:=true
 fn:=λ_=>true
 pn:=[]
 xe:=λe s'=>wpAny (model P w) (A.deeper (envOfC qual scope s.heap.objs.size f cd)) (leaving (envOfC qual scope s.heap.objs.size f cd) e) (λ_ s''=>CX outer H s E e s'') (λe' s''=>CX outer H s E e' s'') s'
def TJ {sc:Scope} {n:Nat} {x:Str} (h:sc.names.lookup x=some .cell):∃ c,(cellsFrom n sc.names []).lookup x=some c:=by
 have q:=PySem.W.cellsFrom_some sc.names n [] (.inl h);exact Option.isSome_iff_exists.mp q
def MW {CX:CXT} {P:Program} {w:World} {K:Frg} {mg:Str->Option Value} {base:Heap} {N ps:List Str} {qual:Str} {scope:Scope} {f:Addr} {cd:Value} {A:Around} {outer:List Env} {s s1:Shared} {H:Hp} {E:XK} {us:List Value} {vs:List V}
  (S:FnScope N ps scope) (hd:A.handled=none) (e0:Env0 P w K mg base A outer s H) (hl:vs.length=ps.length) (r:zx vs us)
  (x:InCallC s s.heap.objs.size (bindL (envOfC qual scope s.heap.objs.size f cd).kindOf (ps.zip us) λ_=>none) (cellsFrom (s.heap.objs.size+1) scope.names []) (bindC (envOfC qual scope s.heap.objs.size f cd).kindOf (ps.zip us) λ_=>none) s1) :
  Inv (qbt CX P w K mg base N qual scope f cd A outer s H E) [] (start N vs) H s1:=by
 have hpl:ps.length<=N.length:=by have:=congrArg List.length S.pre;rw [List.length_take] at this;omega
 obtain ⟨h1,tk,rfl,hk⟩:=x.done;have noA:∀ b:Addr,b∉(qbt CX P w K mg base N qual scope f cd A outer s H E).ex:=λb z=>absurd (show b∈([]:List Addr) from z) (by simp);refine ⟨⟨e0.mod,S.kind,rfl,rfl,Nat.le_refl _,λy z c h1 h2=>?_,λy hy=>?_,λy c _ h=>?_,λ_=>hd,Around.frames_deeper e0.frames,.inr ⟨rfl,rfl⟩,λb z=>absurd z (noA b),e0.bs,e0.bsz,λb _ _=>noA b,λb z=>absurd z (noA b),e0.funs,e0.frf⟩,
  rfl,e0.bare,Un.kept hk,⟨_,x.toInCall.ns,λi y v h1 h2 h3=>?_⟩,λy c h=>⟨_,x.cell y c h⟩,e0.hok.fresh (Nat.le_refl _),λy c h=>?_,λp hp=>absurd (show p∈([]:List (Addr×Obj)) from hp) (by simp),e0.hok.kept hk,?_⟩
 ·exact name_of_addr x.apart (PySem.mem_of_lookup h1) (PySem.mem_of_lookup h2)
 ·have hy:scope.names.lookup y=some .cell\/scope.names.lookup y=some .free:=hy;rcases hy with hy|hy
  ·exact TJ hy
  ·exact absurd rfl (S.nofree _ (PySem.mem_of_lookup hy))
 ·exact Nat.le_of_lt (x.above y c (PySem.mem_of_lookup h))
 ·have hi:i<vs.length:=by
   unfold start at h2;by_cases hi:i<vs.length
   ·exact hi
   ·rw [List.getElem?_append_right (by simpa using hi)] at h2;rw [List.getElem?_replicate] at h2;split at h2<;>cases h2
  have ha:vs[i]?=some v:=by
   unfold start at h2;rw [List.getElem?_append_left (by simpa using hi),getElem?_map] at h2;cases e:vs[i]? with
   |none=>rw [e] at h2;cases h2
   |some a=>rw [e] at h2;cases h2;rfl
  obtain ⟨u,hu,rv⟩:=r.get ha;have hp:ps[i]?=some y:=by
   rw [← S.pre,List.getElem?_take_of_lt (by omega)];exact h1
  have ndP:ps.Nodup:=by rw [← S.pre];exact S.nd.sublist (List.take_sublist _ _)
  refine ⟨u,rv,?_⟩;rcases S.par y (mem_of_getElem? hp) with k|k
  ·exact .inl ⟨k,RB ndP hp hu k⟩
  ·obtain ⟨c,e⟩:=TJ (n:=s.heap.objs.size+1) k;refine .inr ⟨.inl k,c,e,?_⟩;have q:=x.cell y c e;rw [XZ ndP hp hu (by show scope.names.lookup y≠_;rw [k];decide)] at q;exact q
 ·exact e0.hok.fresh (Nat.le_of_lt (x.above y c (PySem.mem_of_lookup h)))
 ·unfold start;show _=N.length;rw [length_append,length_map,List.length_replicate];omega
def qnv {CX:CXT} {P:Program} {w:World} {K:Frg} {mg:Str->Option Value} {base:Heap} {k:Nat} {f:Addr} {name qual:Str} {params:Arguments} {body:List Stmt} {scope:Scope} {dV kV doc pm cdv ct oc:Value} {an od:Option Addr}
  {osl:Array (Option Value)} {N ps:List Str} {sp:Sp} (lk:K.lookup f=some ⟨oc,od,.func (PySem.W.fnOf name qual params body scope dV kV doc pm an cdv ct),osl⟩) (hcd:PySem.W.codeIn K cdv qual=true) (S:FnScope N ps scope)
  (len:∀ vs H Q E,sp vs H Q E->vs.length=ps.length)
  (hbody:∀ (A:Around) (outer:List Env) (s:Shared) (H:Hp) (vs:List V) (Q:VK) (E:XK),Room k (A.deeper (envOfC qual scope s.heap.objs.size f cdv))->sp vs H Q E ->
   ∃ t,PSs (qbt CX P w K mg base N qual scope f cdv A outer s H E) body t/\t { nx:=λ_ H'=>Q .non H',rt:=Q } (start N vs) H) :
  FnOk P w K mg base CX (k+1) f (PySem.W.fnOf name qual params body scope dV kV doc pm an cdv ct) ps sp:=by
 refine ⟨len,λA outer s H args us vs Q E hr e0 hb r hsp=>?_⟩;have hl:=len _ _ _ _ hsp;have KX:K.In s.heap:=e0.mod.kin.keeps λb o e=>(e0.bs b o e).1;have lim:s.heap.NoLimit:=e0.mod.nolimit.keeps λb o e=>(e0.bs b o e).1;have hkind:∀ y∈ps.zip us,scope.names.lookup y.1=some .local\/(scope.names.lookup y.1=some .cell/\((cellsFrom (s.heap.objs.size+1) scope.names []).lookup y.1).isSome=true):=λ⟨n,v⟩ hy=>by
  rcases S.par n (List.of_mem_zip hy).1 with q|q
  ·exact .inl q
  ·exact .inr ⟨q,PySem.W.cellsFrom_some _ _ _ (.inl q)⟩
 refine codeAny_call_function hr.depth (KX _ _ lk) rfl S.co S.gen rfl (PySem.W.codeRec_of KX hcd) (hb _ _ _ _ ?_);refine wpAny_newFunctionEnv_cells S.kind hkind λenv he s1 x=>?_;subst he;refine ⟨lim.keeps x.toInCall.keep,codeAny_func ?_⟩;obtain ⟨t,ht,hq⟩:=hbody A outer s H vs Q E (hr.deeper _) hsp;have I:Inv (qbt CX P w K mg base N qual scope f cdv A outer s H E) [] (start N vs) H s1:=MW S hr.hd e0 hl r x;refine wpAny_mono (ht [] s1 (start N vs) H _ I hq) (λfl s' hs=>?_) λe s' hs=>hs;have fin:∀ {σ':St} {H':Hp} {v:V} {u:Value},Inv (qbt CX P w K mg base N qual scope f cdv A outer s H E) [] σ' H' s'->jt v u->Q v H'->CE outer P w H s Q u s':=
  λ{σ' H' v u} J rv q=>⟨v,H',J.os,J.bare,J.base,J.hok,rv,q⟩
 cases fl with
 |ret u=>
  obtain ⟨v,σ',H',J,rv,q⟩:=hs;exact fin J rv q
 |next=>
  obtain ⟨σ',H',J,q⟩:=hs;exact fin (v:=V.non) (u:=Value.none) J rfl q
 |brk=>
  obtain ⟨_,_,_,q⟩:=hs;exact False.elim q
 |cont=>
  obtain ⟨_,_,_,q⟩:=hs;exact False.elim q
section
variable {X:Cx} {x:Str} {p pos:Pos} {e:Expr} {es:List Expr} {t:TA} {id T:String} {r:List V->Hp->VK->Prop}
def tCB (r:List V->Hp->VK->Prop) (t:TA):TE:=λσ H Q=>t σ H λvs H1=>r vs H1 Q
def WH (hc:ZI X (.builtin id) r) (hg:Gl X x) (hm:X.mg x=none) (hv:bootBuiltins x=some (.builtin id)) (ha:PA X (e::es) t) (hn:x≠"__name__" := by decide) (hdb:(x==("__debug__" : Str))=false:=by decide)
  (he:starEach (e::es) X.env=(false,eval e X.env)::starEach es X.env:=by rfl) (hpl:(backTo pos (starEach es X.env)).any (·.1)=false:=by rfl):PE X (.Call (.Name x p) (e::es) [] pos) (tCB r t):=by
 intro pins s σ H Q I h;refine wpAny_Call_Name_kw (V1 I hg hm hv ?_ hn hdb);exact PyProof.Rows.callWith_builtin1 (thn (ha pos pins s σ H _ I h) λus s1 ⟨vs,H1,I1,r1,q1⟩=>hc pins s1 σ H1 vs us Q I1 r1 q1) he hpl
def MJ (hc:ZI X (.type T) r) (hg:Gl X x) (hm:X.mg x=none) (hv:bootBuiltins x=some (.type T)) (ha:PA X (e::es) t) (hn:x≠"__name__" := by decide) (hdb:(x==("__debug__" : Str))=false:=by decide)
  (he:starEach (e::es) X.env=(false,eval e X.env)::starEach es X.env:=by rfl) (hpl:(backTo pos (starEach es X.env)).any (·.1)=false:=by rfl):PE X (.Call (.Name x p) (e::es) [] pos) (tCB r t):=by
 intro pins s σ H Q I h;refine wpAny_Call_Name_kw (V1 I hg hm hv ?_ hn hdb);exact PyProof.Rows.callWith_type1 (thn (ha pos pins s σ H _ I h) λus s1 ⟨vs,H1,I1,r1,q1⟩=>hc pins s1 σ H1 vs us Q I1 r1 q1) he hpl
end
end L2
namespace HT
open PySem PyProof.Rows
section
open PySem.SeqAt
open PySem.MeetsSeq PySem.MeetsSeq2 PySem.MeetsSeq3
end
section
variable {prog:Program} {w:World} {A:Around} {E:Value->Shared->Prop} {s:Shared}
def qfW {t b:Addr} {vs ws:List Value} {Q:Value->Shared->Prop} (ht:IsTup s.heap t vs.toArray) (hb:IsTup s.heap b ws.toArray) (hv:vs≠[])
  (h1:ws=[]->Q (.ref t) s) (h2:ws≠[]->Q (.ref s.heap.objs.size) { s with heap:=s.heap.push { cls:=.type "tuple",data:=.seq (vs++ws).toArray } })
  (hsz:vs.length+ws.length<=sizeLine):wpAny (model prog w) A (binaryOp .Add (.ref t) (.ref b)) Q E s:=by
 obtain ⟨⟨cls,dd,data,sl⟩,ho,hc,n,hd⟩:=id ht;obtain ⟨⟨cls2,dd2,data2,sl2⟩,ho2,hc2,n2,hd2⟩:=id hb;simp only at hc hd hc2 hd2;subst hc hd hc2 hd2;have e:vs.toArray++ws.toArray=(vs++ws).toArray:=by simp
 by_cases hw:ws=[]
 ·exact concat_meets ⟨_,ho,rfl⟩ ⟨_,ho2,rfl⟩ noFill_tuple_add seq_tuple_add PySem.F.slot_tuple_add PySem.F.entry_tuple_add (PySem.F.args_tuple_add_2 _ _)
   (tuple_addW1 t b vs.toArray ws.toArray n n2 dd dd2 sl sl2 (by simpa using hv) (by simp [hw])) ⟨ho,ho2,h1 hw⟩
 ·refine concat_meets ⟨_,ho,rfl⟩ ⟨_,ho2,rfl⟩ noFill_tuple_add seq_tuple_add PySem.F.slot_tuple_add PySem.F.entry_tuple_add (PySem.F.args_tuple_add_2 _ _)
   (tuple_addW2 t b vs.toArray ws.toArray n n2 dd dd2 sl sl2 (by simpa using hv) (by simpa using hw) (by rw [size_toArray,size_toArray];exact hsz)) ⟨ho,ho2,?_⟩
  rw [e];exact h2 hw
def sIx (n d:Nat):Option Int->Nat
 |none=>d
 |some v=>if v<0 then (v+(n:Int)).toNat else min v.toNat n
def qcH (n d:Nat):sIx n d none=d:=rfl
def qfR (n d k:Nat):sIx n d (some (k:Int))=min k n:=by
 show (if (k:Int)<0 then ((k:Int)+(n:Int)).toNat else min (k:Int).toNat n)=min k n;rw [if_neg (by omega),Int.toNat_natCast]
def qia (n d:Nat) (hd:d<=n) (o:Option Int):sIx n d o<=n:=by
 cases o with
 |none=>exact hd
 |some v=>
  show (if v<0 then (v+(n:Int)).toNat else min v.toNat n)<=n;by_cases hv:v<0
  ·rw [if_pos hv];omega
  ·rw [if_neg hv];exact Nat.min_le_right _ _
def N7 (v:Int) (n d:Nat):(if v<0 then max (v+(n:Int)) 0 else min v (n:Int))=((sIx n d (some v):Nat):Int):=by
 show (if v<0 then max (v+(n:Int)) 0 else min v (n:Int))=(((if v<0 then (v+(n:Int)).toNat else min v.toNat n):Nat):Int);by_cases hv:v<0
 ·simp only [if_pos hv];omega
 ·simp only [if_neg hv];omega
def LJ (lo hi:Option Int) (n:Nat):Builtin.Slice.sliceAdjust lo hi 1 (n:Int)=(((sIx n 0 lo:Nat):Int),((sIx n n hi:Nat):Int)):=by
 have h1:¬ ((1:Int)<0):=by omega
 unfold Builtin.Slice.sliceAdjust;simp only [h1,if_false];refine Prod.ext ?_ ?_
 ·cases lo with
  |none=>rfl
  |some v=>exact N7 v n 0
 ·cases hi with
  |none=>rfl
  |some v=>exact N7 v n n
def L9 (i j:Nat):Builtin.Slice.slicePlaces (i:Int) (j:Int) 1=j-i:=by
 unfold Builtin.Slice.slicePlaces;have h1:(1:Int) > 0:=by omega
 simp only [h1,if_true,Int.ediv_one];split<;>omega
def DZ {v:Value} {o:Option Int} {Q:Option Int->Shared->Prop} (p:IsPart v o) (h:Q o s):wpAny (model prog w) A (Builtin.Slice.slicePartIndex v) Q E s:=by
 cases p with
 |none=>exact slicePart_none h
 |int i t=>exact slicePart_int h
def ZH {sl:Addr} {vl vu:Value} {lo hi:Option Int} {n:Nat} {Q:Int×Int×Nat->Shared->Prop} (hs:s.heap.IsSliceOf sl vl vu .none) (pl:IsPart vl lo) (pu:IsPart vu hi)
  (h:Q (((sIx n 0 lo:Nat):Int),1,sIx n n hi-sIx n 0 lo) s):wpAny (model prog w) A (Builtin.Slice.sliceApplied (.ref sl) (pure (n:Int))) Q E s:=by
 obtain ⟨os,hos,hcs,hds⟩:=id hs;unfold Builtin.Slice.sliceApplied Builtin.Slice.sliceFields;refine wpAny_bind (wpAny_bind (wpAny_field hos hds (x:=vl) rfl (wpAny_bind (wpAny_field hos hds (x:=vu) rfl (wpAny_bind (wpAny_field hos hds (x:=.none) rfl (wpAny_pure ?_)))))));refine wpAny_bind (slicePart_none ?_);show wpAny _ _ (if ((1:Int)==0)=true then _ else _) _ _ s;rw [if_neg (by decide)];refine wpAny_bind (DZ pl (wpAny_bind (DZ pu (wpAny_bind (wpAny_pure ?_)))));show wpAny _ _ (match Builtin.Slice.sliceAdjust lo hi 1 (n:Int) with|(lo,hi)=>pure (lo,(1:Int),Builtin.Slice.slicePlaces lo hi 1)) _ _ s;rw [LJ lo hi n];show wpAny _ _ (pure (((sIx n 0 lo:Nat):Int),(1:Int),Builtin.Slice.slicePlaces ((sIx n 0 lo:Nat):Int) ((sIx n n hi:Nat):Int) 1)) _ _ s;rw [L9];exact wpAny_pure h
def qcm (xs:Array Value) (i k:Nat):((List.range k).filterMap λ(m:Nat)=>xs[((i:Int)+(m:Int)*1).toNat]?).toArray=((xs.toList.drop i).take k).toArray:=by
 have e:(λ(m:Nat)=>xs[((i:Int)+(m:Int)*1).toNat]?)=λm=>xs[i+m]?:=by
  funext m;have:((i:Int)+(m:Int)*1).toNat=i+m:=by omega
  rw [this]
 rw [e];have:=pick_run xs i k;rw [List.filterMap_map] at this;have e2:((λx=>xs[x]?)∘λx=>i+x)=λm=>xs[i+m]?:=rfl;rw [e2] at this;rw [this]
def YU {t sl:Addr} {items:Array Value} {vl vu:Value} {lo hi:Option Int} {Q:Value->Shared->Prop} (ht:IsTup s.heap t items) (hs:s.heap.IsSliceOf sl vl vu .none) (pl:IsPart vl lo) (pu:IsPart vu hi)
  (hw:¬ (sIx items.size 0 lo=0/\sIx items.size items.size hi=items.size))
  (h:Q (.ref s.heap.objs.size) { s with heap:=s.heap.push { cls:=.type "tuple",data:=.seq ((items.toList.drop (sIx items.size 0 lo)).take (sIx items.size items.size hi-sIx items.size 0 lo)).toArray } })
  (hsz:items.size<=sizeLine):wpAny (model prog w) A (getItem (.ref t) (.ref sl)) Q E s:=by
 have htake:sizeOk (.seq ((items.toList.drop (sIx items.size 0 lo)).take (sIx items.size items.size hi-sIx items.size 0 lo)).toArray):=by
  show ((items.toList.drop (sIx items.size 0 lo)).take (sIx items.size items.size hi-sIx items.size 0 lo)).toArray.size<=sizeLine;rw [size_toArray,List.length_take,List.length_drop,Array.length_toList];omega
 have hj:sIx items.size items.size hi<=items.size:=qia _ _ (Nat.le_refl _) hi;obtain ⟨os,hos,hcs,hds⟩:=id hs;have hTs:s.TypeIs (.ref sl) "slice" := ⟨os,hos,hcs⟩
 unfold getItem
 try with_reducible refine wpAny_holding ?_
 first|refine wpAny_bind (wpAny_pure ?_)|skip
 refine wpAny_bind (wpAny_sequenceKey ht.typeIs (by decide) ?_);refine wpAny_bind (wpAny_callSpecial?_slot (name:=Str.ofString "__getitem__") ht.typeIs PyProof.Rows.slot_tuple_getitem
  (wpAny_call_entry PyProof.Rows.slot_tuple_getitem ht.typeIs entry_tuple_getitem ?_ (args_tuple_getitem _ _)))
 show wpAny _ _ (Builtin.Tuple.tupleItemsOf (.ref t) >>= _) _ _ s;refine wpAny_bind (tupleItemsOf_ ht ?_);refine wpAny_bind (wpAny_typeOf hTs ?_);rw [if_pos (by decide)];refine wpAny_bind (ZH hs pl pu ?_);have hno:¬ ((((sIx items.size 0 lo:Nat):Int)==0&&(1:Int)==1&&(sIx items.size items.size hi-sIx items.size 0 lo)==items.size)=true):=by
  intro q;rw [Bool.and_eq_true,Bool.and_eq_true] at q;have q1:((sIx items.size 0 lo:Nat):Int)=0:=eq_of_beq q.1.1;have q2:sIx items.size items.size hi-sIx items.size 0 lo=items.size:=eq_of_beq q.2;exact hw ⟨by omega,by omega⟩
 show wpAny _ _ (if (((sIx items.size 0 lo:Nat):Int)==0&&(1:Int)==1&&(sIx items.size items.size hi-sIx items.size 0 lo)==items.size)=true then _ else _) _ _ s;rw [if_neg hno,qcm]
 first
  |exact wpAny_bind (m:=Builtin.Tuple.tupleExact _) (wpAny_newObj_type (wpAny_pure ⟨_,rfl,wpAny_pure h⟩) htake)
  |exact wpAny_bind (m:=Builtin.Tuple.tupleExact _) (wpAny_newObj_type (wpAny_bind (wpAny_pure (wpAny_pure ⟨_,rfl,wpAny_pure h⟩))) htake)
  |exact wpAny_bind (wpAny_bind (m:=Builtin.Tuple.tupleExact _) (wpAny_newObj_type (wpAny_pure (wpAny_pure ⟨_,rfl,wpAny_pure h⟩)) htake))
  |exact wpAny_bind (wpAny_bind (m:=Builtin.Tuple.tupleExact _) (wpAny_newObj_type (wpAny_pure ⟨_,rfl,wpAny_pure h⟩) htake))
end
end HT
namespace L2
open PySem PySem.Spec PyProof.Rows
abbrev TO:=St->Hp->(Option Int->Hp->Prop)->Prop
def PO (X:Cx) (e:Option Expr) (t:TO):Prop:=
 ∀ (pins:List (Addr×Obj)) (s:Shared) (σ:St) (H:Hp) (Q:Option Int->Hp->Prop),Inv X pins σ H s->t σ H Q ->
  wpAny (model X.prog X.w) X.A (evalPart e X.env) (λu s'=>∃ o H',Inv X pins σ H' s'/\IsPart u o/\Q o H') X.xe s
def qfD:TO:=λ_ H Q=>Q none H
def qnk (t:TE):TO:=λσ H Q=>t σ H λx H1=>∃ i,x=.int i/\Q (some i) H1
section
variable {X:Cx} {e:Expr} {te:TE} {lo hi:Option Expr} {tl th:TO} {pos p2:Pos}
def qfA:PO X none qfD:=by
 intro pins s σ H Q I h;rw [evalPart_none];exact wpAny_pure ⟨none,H,I,.none,h⟩
def qfV (h:PE X e te):PO X (some e) (qnk te):=by
 intro pins s σ H Q I hw;rw [evalPart_some];refine thn (h pins s σ H _ I hw) λu s1 ⟨x,H1,I1,r1,q1⟩=>?_;obtain ⟨i,rfl,q⟩:=q1;obtain ⟨t,rfl⟩:=r1;exact ⟨some i,H1,I1,.int i t,q⟩
def SlR (X:Cx) (r:V->Option Int->Option Int->Hp->VK->Prop):Prop:=
 ∀ (pins:List (Addr×Obj)) (s:Shared) (σ:St) (H:Hp) (x:V) (v vl vu:Value) (lo hi:Option Int) (sl:Addr) (Q:VK),Inv X pins σ H s->jt x v->s.heap.IsSliceOf sl vl vu .none->IsPart vl lo->IsPart vu hi->r x lo hi H Q ->
  ∃ T id,typeLookup (.type T) "__getitem__" = pure (some (.builtin id))/\s.TypeIs v T/\wpAny (model X.prog X.w) X.A (getItem v (.ref sl)) (EP X pins σ Q) X.xe s
def SlR.or {r r':V->Option Int->Option Int->Hp->VK->Prop} (h:SlR X r) (h':SlR X r'):SlR X (λx lo hi H Q=>r x lo hi H Q\/r' x lo hi H Q):=by
 intro pins s σ H x v vl vu lo hi sl Q I rx hs pl pu q;rcases q with q|q
 ·exact h pins s σ H x v vl vu lo hi sl Q I rx hs pl pu q
 ·exact h' pins s σ H x v vl vu lo hi sl Q I rx hs pl pu q
def tSl (r:V->Option Int->Option Int->Hp->VK->Prop) (te:TE) (tl th:TO):TE:=λσ H Q=>te σ H λx H1=>tl σ H1 λl H2=>th σ H2 λu H3=>r x l u H3 Q
def W2 {r:V->Option Int->Option Int->Hp->VK->Prop} (hr:SlR X r) (he:PE X e te) (hl:PO X lo tl) (hu:PO X hi th):PE X (.Subscript e (.Slice lo hi none p2) pos) (tSl r te tl th):=by
 intro pins s σ H Q I h;refine Subscript_ (thn (he pins s σ H _ I h) λv s1 ⟨x,H1,I1,r1,q1⟩=>?_);refine wpAny_Slice (thn (hl pins s1 σ H1 _ I1 q1) λvl s2 ⟨l,H2,I2,pl,q2⟩=>thn (hu pins s2 σ H2 _ I2 q2) λvu s3 ⟨u,H3,I3,pu,q3⟩=>?_);rw [evalPart_none];refine wpAny_pure ?_;have I4:Inv X pins σ H3 { s3 with heap:=s3.heap.push { cls:=.type "slice",data:=.fields #[vl,vu,.none] } }:=I3.kept (t':=s3.toks) λb ob q=>Heap.get?_push_of_some _ q;obtain ⟨T,id,hT,ht,hg⟩:=hr pins { s3 with heap:=s3.heap.push { cls:=.type "slice",data:=.fields #[vl,vu,.none] } } σ H3 x v vl vu l u s3.heap.objs.size Q I4 r1 (Heap.IsSliceOf.new ..) pl pu q3;show wpAny (model X.prog X.w) X.A (subscriptTail e (.Slice lo hi none p2) v (.ref s3.heap.objs.size)) (EP X pins σ Q) X.xe { s3 with heap:=s3.heap.push { cls:=.type "slice",data:=.fields #[vl,vu,.none] } };exact tail_any (ops:=[.ref s3.heap.objs.size,v]) ht hT hg (by with_unfolding_all rfl)
def qd5 (xs:List V) (lo hi:Option Int):List V:=(xs.drop (HT.sIx xs.length 0 lo)).take (HT.sIx xs.length xs.length hi-HT.sIx xs.length 0 lo)
def EK (xs:List V) (lo hi:Option Int):(qd5 xs lo hi).length<=xs.length:=by
 unfold qd5;rw [List.length_take,List.length_drop];omega
def qpH (K:Frg):V->Option Int->Option Int->Hp->VK->Prop:=λx lo hi H Q=>∃ a xs,x=.ref a/\SqT K H a xs /\
 ¬ (HT.sIx xs.length 0 lo=0/\HT.sIx xs.length xs.length hi=xs.length)/\∀ p,H p=none->Q (.ref p) (upd H p (.tup (qd5 xs lo hi)))
def qdw:SlR X (qpH X.K):=by
 intro pins s σ H x v vl vu lo hi sl Q I rx hs pl pu h;obtain ⟨a,xs,rfl,hx,hw,q⟩:=h;cases rx;obtain ⟨its,r,ht,hz⟩:=I.tuple hx;have hlen:its.toArray.size=xs.length:=by rw [size_toArray];exact r.length.symm
 refine ⟨"tuple",_,PyProof.Rows.slot_tuple_getitem.lookup,ht.typeIs,?_⟩;refine HT.YU ht hs pl pu (by rw [hlen];exact hw) ?_ (by rw [hlen];exact hz);rw [hlen];refine ⟨.ref s.heap.objs.size,_,I.laid (t':=s.toks) (o:=.tup (qd5 xs lo hi)) (λb ob q=>Heap.get?_push_of_some _ q) (Nat.le_refl _) ?_,rfl,q _ (I.hok.fresh (Nat.le_refl _))⟩;exact ⟨Nat.le_trans (EK xs lo hi) hz,_,(r.drop (HT.sIx xs.length 0 lo)).take (HT.sIx xs.length xs.length hi-HT.sIx xs.length 0 lo),VW.new _ _⟩
def qf8 (K:Frg):R2:=λx y H Q=>∃ a b xs ys,x=.ref a/\y=.ref b/\SqT K H a xs/\SqT K H b ys/\xs≠[]/\xs.length+ys.length<=sizeLine /\
 (ys=[]->Q (.ref a) H)/\(ys≠[]->∀ p,H p=none->Q (.ref p) (upd H p (.tup (xs++ys))))
def zx.nil_iff {xs:List V} {us:List Value} (r:zx xs us):us=[]↔xs=[]:=by
 cases r with
 |nil=>simp
 |cons _ _=>simp
def M6:OpR X (binaryOp .Add) (qf8 X.K):=by
 intro pins s σ H x y v u Q I rx ry h;obtain ⟨a,b,xs,ys,rfl,rfl,ha,hb,hx,hz,q1,q2⟩:=h;cases rx;cases ry;obtain ⟨its,r1,p1,_⟩:=I.tuple ha;obtain ⟨its2,r2,p2,_⟩:=I.tuple hb;refine HT.qfW p1 p2 (λz=>hx (r1.nil_iff.mp z)) (λz=>⟨.ref a,H,I,rfl,q1 (r2.nil_iff.mp z)⟩) (λz=>?_) (by rw [← r1.length,← r2.length];exact hz);refine ⟨.ref s.heap.objs.size,_,I.laid (t':=s.toks) (o:=.tup (xs++ys)) (λb ob q=>Heap.get?_push_of_some _ q) (Nat.le_refl _) ?_,rfl,q2 (λw=>z (r2.nil_iff.mpr w)) _ (I.hok.fresh (Nat.le_refl _))⟩;exact ⟨by rw [length_append];exact hz,_,r1.append r2,VW.new _ _⟩
end
def ixN (n:Nat) (i:Int):Option Nat:=if 0<=i then (if i<n then some i.toNat else none) else if -(n:Int)<=i then some (i+n).toNat else none
def atI {α:Type} (xs:List α) (i:Int):Option α:=(ixN xs.length i).bind λj=>xs[j]?
def NN {n:Nat} {i:Int} {j:Nat} (h:ixN n i=some j):seqIndex? i n=some j/\j<n/\-(n:Int)<=i/\i<n:=by
 unfold ixN at h;by_cases h0:0<=i
 ·rw [if_pos h0] at h;by_cases h1:i<n
  ·rw [if_pos h1] at h;have e:i.toNat=j:=Option.some.inj h;exact ⟨by rw [seqIndex_of h0 h1,e],by omega,by omega,h1⟩
  ·rw [if_neg h1] at h;cases h
 ·rw [if_neg h0] at h;by_cases h1:-(n:Int)<=i
  ·rw [if_pos h1] at h;have e:(i+n).toNat=j:=Option.some.inj h;exact ⟨by rw [seqIndex_neg (by omega) h1,e],by omega,h1,by omega⟩
  ·rw [if_neg h1] at h;cases h
def SJ {α:Type} {xs:List α} {i:Int} {v:α} (h:atI xs i=some v):∃ j,seqIndex? i xs.length=some j/\xs[j]?=some v/\j<xs.length/\-(xs.length:Int)<=i/\i<xs.length:=by
 unfold atI at h;cases e:ixN xs.length i with
 |none=>rw [e] at h;cases h
 |some j=>
  rw [e] at h;obtain ⟨h1,h2,h3,h4⟩:=NN e;exact ⟨j,h1,h,h2,h3,h4⟩
def WZ (b:Expr):Prop:=∀ o i,subscripted b false o i=operate [o,i] (getItem o i)
def IxR (X:Cx) (r:R2):Prop:=
 ∀ (value slice:Expr) (pins:List (Addr×Obj)) (s:Shared) (σ:St) (H:Hp) (x y:V) (v u:Value) (Q:VK),Inv X pins σ H s->jt x v->jt y u->r x y H Q ->
  subscripted slice false v u=operate [v,u] (getItem v u)->wpAny (model X.prog X.w) X.A (subscriptTail value slice v u) (EP X pins σ Q) X.xe s
def MtR (X:Cx) (id:String) (r:V->List V->Hp->VK->Prop):Prop:=
 ∀ (pins:List (Addr×Obj)) (s:Shared) (σ:St) (H:Hp) (x:V) (xs:List V) (v:Value) (us:List Value) (Q:VK),Inv X pins σ H s->jt x v->zx xs us->r x xs H Q ->
  wpAny (model X.prog X.w) X.A (call (.builtin id) (v::us)) (EP X pins σ Q) X.xe s
section
variable {X:Cx} {a b:Expr} {ta tb:TE} {pos:Pos}
def IxR.or {r r':R2} (h:IxR X r) (h':IxR X r'):IxR X (λx y H Q=>r x y H Q\/r' x y H Q):=by
 intro value slice pins s σ H x y v u Q I rx ry q hs;rcases q with q|q
 ·exact h value slice pins s σ H x y v u Q I rx ry q hs
 ·exact h' value slice pins s σ H x y v u Q I rx ry q hs
def qix {r:R2} (hr:IxR X r) (ha:PE X a ta) (hb:PE X b tb) (hs:WZ b):PE X (.Subscript a b pos) (tOp r ta tb):=by
 intro pins s σ H Q I h;exact Subscript_ (qm7 ha hb I h λv u s2 x y H2 I2 rx ry q=>hr a b pins s2 σ H2 x y v u Q I2 rx ry q (hs _ _))
def qoY (K:Frg):R2:=λx y H Q=>∃ p xs i v,x=.ref p/\y=.int i/\SqL K H p xs/\atI xs i=some v/\Q v H
def qox (K:Frg):R2:=λx y H Q=>∃ p xs i v,x=.ref p/\y=.int i/\SqT K H p xs/\atI xs i=some v/\Q v H
def qoy:R2:=λx y H Q=>∃ z i c,x=.str z/\y=.int i/\z.length<=sizeLine/\atI z.cps.toList i=some c/\Q (.str ⟨#[c]⟩) H
def qgt:IxR X (qoY X.K):=by
 intro value slice pins s σ H x y v u Q I rx ry h hs;obtain ⟨p,xs,i,z,rfl,rfl,hq,he,q⟩:=h;cases rx;obtain ⟨t,rfl⟩:=ry;obtain ⟨its,r,pl,hz⟩:=I.list hq;obtain ⟨j,h1,h2,h3,h4,h5⟩:=SJ he;obtain ⟨w,ew,rw'⟩:=r.get h2;have hl:=r.length;have hn:=CH;have fin:EP X pins σ Q w s:=⟨z,H,I,rw',q⟩
 by_cases h0:0<=i
 ·have hj:i.toNat=j:=by
   rw [seqIndex_of h0 h5] at h1;exact Option.some.inj h1
  exact item_listR pl.isList h0 (by omega) (by rw [hj];simpa using ew) fin hs
 ·have hj:(i+(its.toArray.size:Int)).toNat=j:=by
   rw [seqIndex_neg (by omega) h4] at h1;rw [size_toArray,← hl];exact Option.some.inj h1
  exact subscriptTail_builtinR (x:=w) pl.isList.typeIs slot_list_getitem.lookup
   (wpAny_getItem_list_neg (Q:=λr s'=>r=w/\EP X pins σ Q r s') pl.isList (by omega) (by rw [size_toArray]<;>omega) (by omega) (by rw [hj];simpa using ew) ⟨rfl,fin⟩) hs
def qjZ:IxR X (qox X.K):=by
 intro value slice pins s σ H x y v u Q I rx ry h hs;obtain ⟨p,xs,i,z,rfl,rfl,hq,he,q⟩:=h;cases rx;obtain ⟨t,rfl⟩:=ry;obtain ⟨its,r,pl,hz⟩:=I.tuple hq;obtain ⟨j,h1,h2,h3,h4,h5⟩:=SJ he;obtain ⟨w,ew,rw'⟩:=r.get h2;have hl:=r.length;have hn:=CH;have fin:EP X pins σ Q w s:=⟨z,H,I,rw',q⟩
 exact subscriptTail_builtinR (x:=w) pl.typeIs slot_tuple_getitem.lookup
  (getItem_tuple (j:=j) (Q:=λr s'=>r=w/\EP X pins σ Q r s') pl (by omega) (by omega) (by rw [size_toArray,← hl];exact h1) (by simpa using ew) ⟨rfl,fin⟩) hs
def qjI:IxR X qoy:=by
 intro value slice pins s σ H x y v u Q I rx ry h hs;obtain ⟨z,i,c,rfl,rfl,hz,he,q⟩:=h;obtain ⟨t,rfl⟩:=rx;obtain ⟨t',rfl⟩:=ry;obtain ⟨j,h1,h2,h3,h4,h5⟩:=SJ he;have hl:z.cps.toList.length=z.length:=by simp [Str.length]
 rw [hl] at h1 h4 h5;have hn:=CH;exact tail_any (typeIs_str s z t) slot_str_getitem.lookup (getItem_str (c:=c) (by
  have e1:decide (i < -(2 ^ 63:Int))=false:=decide_eq_false (by omega);have e2:decide (i ≥ 2 ^ 63)=false:=decide_eq_false (by omega);rw [e1,e2,Bool.or_false]) (by rw [h1];simpa using h2) ⟨.str ⟨#[c]⟩,H,I.tok _,⟨_,rfl⟩,q⟩) hs
def rIx (K:Frg):R2:=λx y H Q=>qoY K x y H Q\/qox K x y H Q\/qoy x y H Q
def qkE:IxR X (rIx X.K):=qgt.or (qjZ.or qjI)
def K1 (its:List Value) (n j:Nat) (u:Value):Obj.mapSeq (·.setIfInBounds j u) { cls:=.type "list",data:=.seq its.toArray n }={ cls:=.type "list",data:=.seq (its.set j u).toArray n }:=by
 simp [Obj.mapSeq]
def Inv.lst {pins:List (Addr×Obj)} {σ:St} {H:Hp} {s:Shared} {p:Addr} {xs:List V} (I:Inv X pins σ H s) (h:H p=some (.lst xs)) :
  ∃ (its:List Value) (n:Nat),zx xs its/\s.heap.get? p=some { cls:=.type "list",data:=.seq its.toArray n }/\xs.length<=sizeLine:=by
 obtain ⟨z,its,n,r,e⟩:=I.hok p _ h;exact ⟨its,n,r,e,z⟩
def Inv.lstUpd {pins:List (Addr×Obj)} {σ:St} {H:Hp} {s:Shared} {p:Addr} {xs ys:List V} {its its':List Value} {n n':Nat} {f:Obj->Obj} (I:Inv X pins σ H s) (h:H p=some (.lst xs))
  (ho:s.heap.get? p=some { cls:=.type "list",data:=.seq its.toArray n }) (hf:f { cls:=.type "list",data:=.seq its.toArray n }={ cls:=.type "list",data:=.seq its'.toArray n' }) (r:zx ys its') (hz:ys.length<=sizeLine) (t:Nat) :
  Inv X pins σ (upd H p (.lst ys)) { s with heap:=s.heap.update p f,toks:=t }:=by
 have e:(s.heap.update p f).get? p=some { cls:=.type "list",data:=.seq its'.toArray n' }:=by
  rw [Heap.get?_update_self f ho (by rw [hf]<;>rfl),hf]
 refine I.write (x:=p) (e:=p) (by rw [h];trivial) (.inl rfl) (λb u hb q=>(Heap.get?_update_other _ _ (Ne.symm hb)).trans q) ⟨_,e⟩ ?_;exact ⟨hz,its',n',r,e⟩
def qm6:V->V->V->Hp->(Hp->Prop)->Prop:=λo i v H Q=>∃ p xs k j,o=.ref p/\i=.int k/\H p=some (.lst xs)/\ixN xs.length k=some j/\Q (upd H p (.lst (xs.set j v)))
def qcL:qea X qm6:=by
 intro pins s σ H o i v ov iv u Q I ro ri rv h;obtain ⟨p,xs,k,j,rfl,rfl,hp,hj,q⟩:=h;cases ro;obtain ⟨t,rfl⟩:=ri;obtain ⟨its,n,r,ho,hz⟩:=I.lst hp;obtain ⟨h1,h2,h3,h4⟩:=NN hj;have hl:=r.length;have hn:=CH;have I':Inv X pins σ (upd H p (.lst (xs.set j v))) { s with heap:=s.heap.update p (Obj.mapSeq (·.setIfInBounds j u)) }:=
  I.lstUpd hp ho (K1 its n j u) (r.set rv j) (by rw [List.length_set];exact hz) s.toks
 by_cases h0:0<=k
 ·have hk:k.toNat=j:=by
   rw [seqIndex_of h0 h4] at h1;exact Option.some.inj h1
  exact PySem.W.ki_setAt ho h0 (by omega) (by rw [size_toArray,← hl];exact h4) (by rw [hk];exact ⟨_,I',q⟩)
 ·have hk:(k+(its.toArray.size:Int)).toNat=j:=by
   rw [seqIndex_neg (by omega) h3] at h1;rw [size_toArray,← hl];exact Option.some.inj h1
  exact PySem.W.ki_setBack ho (by omega) (by rw [size_toArray,← hl];exact h3) (by omega) (by rw [hk];exact ⟨_,I',q⟩)
def CJ (lo hi:Option Int) (n:Nat):(sliceBounds lo hi none n).1=((HT.sIx n 0 lo:Nat):Int)/\(sliceBounds lo hi none n).2.1=((HT.sIx n n hi:Nat):Int)/\(sliceBounds lo hi none n).2.2=1:=by
 refine ⟨?_,?_,rfl⟩
 ·cases lo with
  |none=>simp [sliceBounds,HT.sIx]
  |some i=>
   simp only [sliceBounds,HT.sIx,Option.getD_none,show (1:Int) > 0 by decide,if_true];by_cases h:i<0
   ·simp only [h,if_true]<;>omega
   ·simp only [h,if_false]<;>omega
 ·cases hi with
  |none=>simp [sliceBounds,HT.sIx]
  |some i=>
   simp only [sliceBounds,HT.sIx,Option.getD_none,show (1:Int) > 0 by decide,if_true];by_cases h:i<0
   ·simp only [h,if_true]<;>omega
   ·simp only [h,if_false]<;>omega
def XG (its:List Value) (lo hi:Option Int):slicePick its.toArray lo hi none=((its.drop (HT.sIx its.length 0 lo)).take (HT.sIx its.length its.length hi-HT.sIx its.length 0 lo)).toArray:=by
 obtain ⟨h1,h2,h3⟩:=CJ lo hi its.toArray.size;unfold slicePick;rw [h1,h2,h3];simp only [sliceRange_one,pick_run,size_toArray]<;>rfl
def qpa (K:Frg):V->Option Int->Option Int->Hp->VK->Prop:=λx lo hi H Q=>∃ a xs,x=.ref a/\SqL K H a xs/\∀ p,H p=none->Q (.ref p) (upd H p (.lst (qd5 xs lo hi)))
def ND:SlR X (qpa X.K):=by
 intro pins s σ H x v vl vu lo hi sl Q I rx hs pl pu h;obtain ⟨a,xs,rfl,hx,q⟩:=h;cases rx;obtain ⟨its,r,ht,hz⟩:=I.list hx;have hlen:=r.length;refine ⟨"list",_,slot_list_getitem.lookup,ht.isList.typeIs,?_⟩;refine wpAny_getItem_list_slice ht.isList hs pl pu .none (by simp) ?_ (by rw [size_toArray]<;>omega);rw [XG,← hlen];refine ⟨.ref s.heap.objs.size,_,I.laid (t':=s.toks) (o:=.lst (qd5 xs lo hi)) (λb ob q=>Heap.get?_push_of_some _ q) (Nat.le_refl _) ?_,rfl,q _ (I.hok.fresh (Nat.le_refl _))⟩;exact ⟨Nat.le_trans (EK xs lo hi) hz,_,0,(r.drop (HT.sIx xs.length 0 lo)).take (HT.sIx xs.length xs.length hi-HT.sIx xs.length 0 lo),Heap.get?_push_size _ rfl⟩
def CQ:ZI X (.type "list") (λxs H Q=>∃ p ys,xs=[.ref p]/\(SqL X.K H p ys\/SqT X.K H p ys)/\∀ l,H l=none->Q (.ref l) (upd H l (.lst ys))):=by
 intro pins s σ H xs us Q I r h;obtain ⟨p,ys,rfl,hq,q⟩:=h;obtain ⟨u,rfl,rx⟩:=EM r;cases rx;have fin:∀ (its:List Value),zx ys its->ys.length<=sizeLine->∀ (h':Heap) (c':Nat),(∀ b o',s.heap.get? b=some o'->h'.get? b=some o') ->
   h'.get? s.heap.objs.size=some { cls:=.type "list",dict:=none,data:=.seq its.toArray c',slots:=#[] }->EP X pins σ Q (.ref s.heap.objs.size) { s with heap:=h' }:=λits r' hz h' c' kp e=>
  ⟨.ref s.heap.objs.size,_,I.laid (t':=s.toks) kp (Nat.le_refl _) (show ZN X.prog X.w _ h' _ (.lst ys) from ⟨hz,its,c',r',e⟩),rfl,q _ (I.hok.fresh (Nat.le_refl _))⟩
 rcases hq with hq|hq
 ·obtain ⟨its,r',pl,hz⟩:=I.list hq;have hlen:=r'.length;obtain ⟨o,ho,hc,n,hd⟩:=pl.isList;exact call_list_seq p (.inl rfl) ho hc hd (λh' c' kp e=>fin its r' hz h' c' kp e) (by simp only [size_toArray]<;>omega)
 ·obtain ⟨its,r',pl,hz⟩:=I.tuple hq;have hlen:=r'.length;obtain ⟨o,ho,hc,n,hd⟩:=pl;exact call_list_seq p (.inr rfl) ho hc hd (λh' c' kp e=>fin its r' hz h' c' kp e) (by simp only [size_toArray]<;>omega)
def jG:ZI X (.type "tuple") (λxs H Q=>∃ p ys,xs=[.ref p]/\((SqL X.K H p ys/\∀ l,H l=none->Q (.ref l) (upd H l (.tup ys)))\/(SqT X.K H p ys/\Q (.ref p) H))):=by
 intro pins s σ H xs us Q I r h;obtain ⟨p,ys,rfl,h⟩:=h;obtain ⟨u,rfl,rx⟩:=EM r;cases rx;rcases h with ⟨hq,q⟩|⟨hq,q⟩
 ·obtain ⟨its,r',pl,hz⟩:=I.list hq;have hlen:=r'.length;refine call_tuple_list pl.isList (λh' kp=>?_) (by simp only [size_toArray]<;>omega);have I1:Inv X pins σ H { s with heap:=h' }:=I.kept (t':=s.toks) kp;have I2:Inv X pins σ (upd H h'.objs.size (.tup ys)) { s with heap:=h'.push { cls:=.type "tuple",data:=.seq its.toArray } }:=
   I1.laid (t':=s.toks) (λb o e=>Heap.get?_push_of_some _ e) (Nat.le_refl _) (show ZN X.prog X.w _ _ _ (.tup ys) from ⟨hz,its,r',VW.new _ _⟩)
  exact ⟨.ref h'.objs.size,_,I2,rfl,q _ (I1.hok.fresh (Nat.le_refl _))⟩
 ·obtain ⟨its,r',pl,hz⟩:=I.tuple hq;exact call_tuple_same pl ⟨.ref p,H,I,rfl,q⟩
def tyV (K:Frg) (T:String) (x:V) (H:Hp):Prop:=match x with
 |.str _=>T="str"
 |.int _=>T="int"
 |.ref p=>(T="list"/\∃ xs,SqL K H p xs)\/(T="tuple"/\∃ o,K.lookup p=some o/\o.cls=.type "tuple"/\o.dict=none) ∨
   (T="dict"/\((∃ kvs,H p=some (.dK kvs))\/∃ kvs,H p=some (.dT kvs)))\/(T="set"/\∃ S n,H p=some (.set S n))
 |_=>False
def qlg {pins:List (Addr×Obj)} {σ:St} {H:Hp} {s:Shared} {T:String} {x:V} {v:Value} (I:Inv X pins σ H s) (r:jt x v) (ty:tyV X.K T x H) :
  s.TypeIs v T/\∀ a,v=.ref a->∃ ob,s.heap.get? a=some ob/\ob.dict=none:=by
 cases x with
 |str z=>
  obtain ⟨t,rfl⟩:=r;cases (show T="str" from ty);exact ⟨typeIs_str s z t,λ_ e=>nomatch e⟩
 |int i=>
  obtain ⟨t,rfl⟩:=r;cases (show T="int" from ty);exact ⟨typeIs_int s i t,λ_ e=>nomatch e⟩
 |ref p=>
  cases r;rcases ty with ⟨rfl,xs,hq⟩|⟨rfl,o,hk,hc,hd⟩|⟨rfl,hk⟩|⟨rfl,S,n,hk⟩
  ·obtain ⟨its,_,pl,_⟩:=I.list hq;refine ⟨pl.isList.typeIs,λa e=>?_⟩;cases e;obtain ⟨o,n,e,c,hd,_⟩:=pl;exact ⟨o,e,hd⟩
  ·refine ⟨⟨o,I.kIn p o hk,hc⟩,λa e=>?_⟩;cases e;exact ⟨o,I.kIn _ o hk,hd⟩
  ·have z:∃ o,s.heap.get? p=some o/\o.ExactDict:=by
    rcases hk with ⟨kvs,hk⟩|⟨kvs,hk⟩
    ·obtain ⟨_,_,_,_,o,_,_,e,ex,_⟩:=I.hok p _ hk;exact ⟨o,e,ex⟩
    ·obtain ⟨_,_,_,_,o,_,_,e,ex,_⟩:=I.hok p _ hk;exact ⟨o,e,ex⟩
   obtain ⟨o,e,ex⟩:=z;refine ⟨⟨o,e,ex.1⟩,λa e2=>?_⟩;cases e2;exact ⟨o,e,ex.2.1⟩
  ·obtain ⟨o,_,_,_,e,ex,_⟩:=I.hok p _ hk;refine ⟨⟨o,e,ex.1⟩,λa e2=>?_⟩;cases e2;exact ⟨o,e,ex.2.1⟩
 |_=>exact False.elim ty
def tBM (K:Frg) (T:String) (r:V->List V->Hp->VK->Prop) (to:TE) (t:TA):TE:=λσ H Q=>to σ H λx H1=>tyV K T x H1/\t σ H1 λxs H2=>r x xs H2 Q
variable {o e:Expr} {es:List Expr} {to:TE} {t:TA} {name:Str} {apos cpos:Pos} {T id:String} {r:V->List V->Hp->VK->Prop}
def qjy (pa:PlainAttrs T) (slot:Slot T name id) (hty:typeOf (.builtin id)=pure (.type "method_descriptor")) (hm:MtR X id r) (ho:PE X o to) (ha:PA X (e::es) t)
  (hbase:attributeBase o name X.env (eval o X.env)=eval o X.env:=by rfl)
  (hfew:((backTo cpos (starEach (e::es) X.env)).all (λx=>!x.1)&&(backToKw cpos (keywordEach [] X.env)).all (λx=>x.1.isSome)
   && decide ((e::es).length+([]:List Keyword).length+(if ([]:List Keyword).isEmpty then 0 else 1)<30))=true:=by rfl)
  (hline:(apos.endLine==cpos.line)=true:=by rfl) (hs:starEach (e::es) X.env=(false,eval e X.env)::starEach es X.env:=by rfl) (hplain:(backTo cpos (starEach es X.env)).any (·.1)=false:=by rfl) :
  PE X (.Call (.Attribute o name apos) (e::es) [] cpos) (tBM X.K T r to t):=by
 intro pins s σ H Q I h;refine wpAny_Call_method_late hbase hfew hline rfl (thn (ho pins s σ H _ I h) λv s1 ⟨x,H1,I1,r1,ty,q1⟩=>?_);obtain ⟨h1,h2⟩:=qlg I1 r1 ty;refine ⟨T,id,pa,slot,hty,h1,h2,?_⟩;have hA:=ha cpos pins s1 σ H1 _ I1 q1;rw [hs] at hA ⊢;refine Calls.callWith_builtin (by show (false||(backTo cpos (starEach es X.env)).any (·.1))=false;rw [hplain]<;>rfl) (Calls.evalArgs_plain ?_);exact thn hA λus s2 ⟨vs,H2,I2,r2,q2⟩=>hm pins s2 σ H2 x vs v us Q I2 r1 r2 q2
end
def MtM (X:Cx) (id:String) (r:V->List V->Hp->VK->Prop):Prop:=
 ∀ (pins:List (Addr×Obj)) (s:Shared) (σ:St) (H:Hp) (x:V) (xs:List V) (v:Value) (us:List Value) (Q:VK),Inv X pins σ H s->jt x v->zx xs us->r x xs H Q ->
  wpAny (model X.prog X.w) X.A (call (.builtin id) (v::us)) (EP X pins σ Q) X.xe s
def zx.one:∀ {x:V} {us:List Value},zx [x] us->∃ u,us=[u]/\jt x u
 |_,_,.cons r .nil=>⟨_,rfl,r⟩
def zx.reverse {xs:List V} {us:List Value} (h:zx xs us):zx xs.reverse us.reverse:=by
 induction h with
 |nil=>exact .nil
 |cons r t ih=>rw [List.reverse_cons,List.reverse_cons];exact zx.append ih (.cons r .nil)
section
variable {X:Cx} {pins:List (Addr×Obj)} {σ:St} {H:Hp} {s:Shared} {l b:Addr} {xs ys zs:List V}
def Inv.lset {its its':List Value} {n:Nat} {f:Array Value->Array Value} {t':Nat} (I:Inv X pins σ H s) (hH:H l=some (.lst xs))
  (e:s.heap.get? l=some { cls:=.type "list",data:=.seq its.toArray n }) (hf:f its.toArray=its'.toArray) (hv:zx ys its') (hz:ys.length<=sizeLine) :
  Inv X pins σ (upd H l (.lst ys)) { s with heap:=s.heap.update l (Obj.mapSeq f),toks:=t' }:=by
 have q:=PySem.IsL.update e f;rw [hf] at q;refine I.write (x:=l) (e:=l) (by rw [hH];exact trivial) (.inl rfl) (λb' u hb hu=>(Heap.get?_update_other s.heap (Obj.mapSeq f) (Ne.symm hb)).trans hu) ⟨_,q⟩ ?_;exact ⟨hz,its',_,hv,q⟩
def Inv.lnew {its:List Value} {t':Nat} (I:Inv X pins σ H s) (hv:zx ys its) (hz:ys.length<=sizeLine) :
  Inv X pins σ (upd H s.heap.objs.size (.lst ys)) { s with heap:=s.heap.push { cls:=.type "list",data:=.seq its.toArray },toks:=t' }:=
 I.laid (λ_ _ q=>Heap.get?_push_of_some _ q) (Nat.le_refl _) ⟨hz,its,0,hv,Heap.get?_push_size _ rfl⟩
def Inv.fresh (I:Inv X pins σ H s):H s.heap.objs.size=none:=I.hok.fresh (Nat.le_refl _)
def Inv.lstM (I:Inv X pins σ H s) (hH:H l=some (.lst xs)):xs.length<=sizeLine/\∃ (its:List Value) (n:Nat),zx xs its/\xs.length=its.length/\s.heap.get? l=some { cls:=.type "list",data:=.seq its.toArray n }:=by
 obtain ⟨z,its,n,r,e⟩:=I.hok l _ hH;exact ⟨z,its,n,r,r.length,e⟩
end
section
variable {X:Cx}
def qaZ:V->List V->Hp->VK->Prop:=λx vs H Q=>∃ l xs y,x=.ref l/\vs=[y]/\H l=some (.lst xs)/\xs.length<sizeLine/\Q .non (upd H l (.lst (xs++[y])))
def EG:MtM X "list.append" qaZ:=by
 intro pins s σ H x vs v us Q I rx rv h;obtain ⟨l,xs,y,rfl,rfl,hH,hz,q⟩:=h;cases rx;obtain ⟨u,rfl,ru⟩:=rv.one;obtain ⟨z,its,n,r,hl,e⟩:=I.lstM hH;refine call_meets F.slot_list_append ⟨_,e,rfl⟩ F.entry_list_append (F.args_list_append_2 _ _) (PySem.list_append l its.toArray n u (by rw [size_toArray];omega)) ⟨e,?_⟩;refine ⟨.non,_,I.lset (its':=its++[u]) hH e (by simp) (r.append (.cons ru .nil)) ?_,rfl,q⟩;rw [length_append,List.length_singleton];omega
def qmV:R2:=λx y H Q=>∃ l b xs zs,x=.ref l/\y=.ref b/\H l=some (.lst xs)/\H b=some (.lst zs)/\xs.length+zs.length<=sizeLine/\∀ p,H p=none->Q (.ref p) (upd H p (.lst (xs++zs)))
def qdv:OpR X (binaryOp .Add) qmV:=by
 intro pins s σ H x y v u Q I rx ry h;obtain ⟨l,b,xs,zs,rfl,rfl,hH,hB,hz,q⟩:=h;cases rx;cases ry;obtain ⟨z,its,n,r,hl,e⟩:=I.lstM hH;obtain ⟨z2,its2,n2,r2,hl2,e2⟩:=I.lstM hB;refine PySem.P.add_list e e2 ?_ (by rw [size_toArray,size_toArray];omega);have ea:its.toArray++its2.toArray=(its++its2).toArray:=by simp
 rw [ea];exact ⟨.ref _,_,I.lnew (t':=s.toks) (r.append r2) (by rw [length_append];omega),rfl,q _ I.fresh⟩
end
section
variable {prog:Program} {w:World} {A:Around} {E:Value->Shared->Prop} {s:Shared}
end
section
variable {X:Cx}
end
end L2
namespace Att
open PySem PySem.W PySem.Calls PyProof.Rows
def ER {P:Params} {h:Heap}:∀ (ns:List Int) (vs:List Value),WellAll P h vs (ns.map WData.int)->IntsAre vs ns:=by
 intro ns;induction ns with
 |nil=>
  intro vs w;rw [List.map_nil] at w;cases w;exact .nil
 |cons n ns ih=>
  intro vs w;rw [map_cons] at w;cases w with
  |cons a b=>
   cases a;exact .cons _ _ (ih _ b)
def N2 {l:OpenLaw} {n:Nat} (hn:l.most=some n) {P:Params} {h:Heap} {args:List WData} {vals:List Value}
  (hpre:l.row.toRowW.claim.pre args=true) (hwl:WellAll P h vals args) :
  ∃ a vs ns,vals=[Value.ref a]/\args=[WData.list (ns.map WData.int)]/\h.get? a=some { cls:=.type "list",data:=.seq vs.toArray }/\IntsAre vs ns/\ns.length<=n:=by
 have hsh:WShape.hasAll [] args [.list .int]=true:=(pre_splitW hpre).1;have hc:l.pre.holds [] { args:=args }=true:=(pre_splitW hpre).2;obtain ⟨d,r,rfl,h1,h2⟩:=hasAllW_cons hsh;obtain rfl:=hasAllW_nil h2;obtain ⟨xs,rfl,h3⟩:=hasW_list h1;obtain ⟨ns,rfl⟩:=items_int h3;have hlen:ns.length<=n:=by
  unfold OpenLaw.pre at hc;have h4:(WTm.not (.lt (.lit (.int (n:Int))) (.len (.arg 0)))).holds [] { args:=[.list (ns.map .int)] }=true:=by
   have h4:=(holds_andW hc).1;rw [hn] at h4;exact h4
  have h5:=condW_of h4 (w_not (w_lt w_lit (w_len_list (w_arg rfl))));rw [length_map] at h5;refine Nat.le_of_not_lt λq=>?_;have q':(n:Int)<((ns.length:Nat):Int):=by omega
  first
   | (rw [decide_eq_true q'] at h5;exact absurd h5 (by decide))
   | (simp at h5;omega)
 cases hwl with
 |cons w1 w2=>
  cases w2;cases w1 with
  |list ho hall=>exact ⟨_,_,ns,rfl,rfl,ho,ER ns _ hall,hlen⟩
def NA (l:OpenLaw) (args:List WData):l.row.toRowW.claim.post args (.bool true) args=true:=
 postW_of (r:=l.row.toRowW) (X:=(true==true))
  (show WShape.has [] (.bool true) .bool=true by first|rfl|decide|simp [WShape.has,WShape.arms,WShape.armsAll])
  (show (WTm.eq .res (.lit (.bool true))).value [] { args:=args,res:=some (.bool true),after:=args }=some (.bool (true==true)) from w_eq_bool (w_res rfl) w_lit) rfl
def SH {l:OpenLaw} {n:Nat} {q:Program} {loose:List Str} {XP:(Str->Option Value)->Heap->Prop} {YP:World->Heap->Prop} {d:DefRec}
  (hn:l.most=some n) (hdf:d.params.defaults=[])
  (call:∀ (w:World) (s₀ s₁:Shared) (mg mb:Str->Option Value) (fa:Addr) (o:Obj) (pm cd doc:Value) (a:Addr) (vs:List Value) (ns:List Int),
   Ground q loose [] XP w s₀ mg mb s₁.heap->YP w s₁.heap ->
   s₁.heap.get? fa=some o->o.data=.func (docDef d.name d.params d.body d.scope pm cd doc)->s₁.heap.CodeRec cd d.name->mg d.name=some (.ref fa) ->
   s₁.heap.get? a=some { cls:=.type "list",data:=.seq vs.toArray }->IntsAre vs ns->ns.length<=n->s₁.gens=#[] ->
   codeAny (model l.prog w) callerA (.call (.ref fa) ⟨[.ref a],[]⟩) (λr s'=>r=.ok (.ret (.bool true))/\OldK s₁.heap s'.heap/\s'.os=s₁.os/\AllBare s'.gens) s₁) :
  WalkO q loose XP YP l.row.toRowW d [] (λf vs=>PySem.call f vs):=by
 intro w s₀ s₁ mg mb G Y fa o pm cd doc dV kV ho hd hcd hD hmg hg args vals as hpre hlay hrd hwl hlo;obtain rfl:dV=.none:=Dflts.none hD hdf;obtain rfl:kV=.none:=Dflts.noKw hD;obtain ⟨a,vs,ns,rfl,rfl,hobj,hints,hlen⟩:=N2 hn hpre hwl;refine enter_call (codeAny_mono (call w s₀ s₁ mg mb fa o pm cd doc a vs ns G Y ho (fd_plain hd) hcd hmg hobj hints hlen hg) λr s' hq=>?_);obtain ⟨rfl,h2,h3,h4⟩:=hq;exact ⟨.inl ⟨.bool true,.bool true,[],rfl,λ_=>rfl,.bool true,NA l _,λ_=>⟨List.Pairwise.nil,λ_ hm=>(nomatch hm)⟩⟩,h2,h3,h4⟩
section
variable {prog:Program} {w:World} {A:Around} {E:Value->Shared->Prop} {s:Shared} {K:Frag}
end
end Att
namespace L2
open PySem PySem.Spec PyProof.Rows
def CS:∀ {vs:List Value} {ns:List Int},IntsAre vs ns->zx (ns.map V.int) vs
 |_,_,.nil=>.nil
 |_,_,.cons n t h=>.cons ⟨t,rfl⟩ (CS h)
def qlV (H:Hp):Prop:=∀ b,H b=none\/∃ o xs,H b=some (.frz o (.lst xs))
def qcf {P:Program} {w:World} {K:Frg} {mg mb:Str->Option Value} {CX:CXT} {k:Nat} {fa a:Addr} {fd:FuncData} {x:Str} {sp:Sp} {s₁:Shared} {vs:List Value} {ns:List Int}
  (KX:K.In s₁.heap) (hns:s₁.heap.Ns mainGlobals mg) (hb:s₁.heap.Ns builtinsNs mb) (hbb:∀ x:Str,x≠"__name__" -> mb x=bootBuiltins x) (hlim:s₁.heap.NoLimit) (hg:s₁.gens=#[])
  (ha:s₁.heap.get? a=some { cls:=.type "list",data:=.seq vs.toArray }) (hi:IntsAre vs ns) (hl:ns.length<=sizeLine) (hr:Room k callerA)
  (F:∀ base:Heap,K.In base->base.Ns mainGlobals mg->FnOk P w K mg base CX k fa fd [x] sp) (hbind:∀ (s:Shared) (u:Value),BindsTo s fd ⟨[u],[]⟩ [(x,u)])
  (hsp:∀ H:Hp,qlV H->SqL K H a (ns.map V.int)->sp [.ref a] H (λv _=>v=.bl true) λ_ _ _=>False)
  (hCX:∀ H e s',CX [] H s₁ (λ_ _ _=>False) e s'->False) :
  codeAny (model P w) callerA (.call (.ref fa) ⟨[.ref a],[]⟩) (λr s'=>r=.ok (.ret (.bool true))/\OldK s₁.heap s'.heap/\s'.os=s₁.os/\AllBare s'.gens) s₁:=by
 have rv:=CS hi;have lenV:=hi.length
 -- from an abstract heap in which nothing but the script may be tracked
 have core:∀ H:Hp,qlV H->SqL K H a (ns.map V.int)->HOk P w H s₁.heap->(∀ b,H b≠none->b=a)->(H a≠none->K.lookup a=none) ->
   codeAny (model P w) callerA (.call (.ref fa) ⟨[.ref a],[]⟩) (λr s'=>r=.ok (.ret (.bool true))/\OldK s₁.heap s'.heap/\s'.os=s₁.os/\AllBare s'.gens) s₁:=by
  intro H hO hS hok hA hK;have base_of:∀ {b:Addr} {o:Obj},s₁.heap.get? b=some o->H b=none->(qct s₁.heap H).get? b=some o:=λe n=>qbO e n;have noA:∀ {b:Addr} {o:Obj} {es:Array DictEntry} {ep:Nat},s₁.heap.get? b=some o->o.data=.dict es ep->H b=none:=λ{b o es ep} e d=>by
   cases q:H b with
   |none=>rfl
   |some u=>
    have e':b=a:=hA b (by rw [q];simp);subst e';rw [ha] at e;cases e;have d':Data.seq vs.toArray _=Data.dict es ep:=d;cases d'
  have nsK:∀ {b:Addr} {m:Str->Option Value},s₁.heap.Ns b m->(qct s₁.heap H).Ns b m:=λ{b m} ⟨o,es,ep,e,d,r⟩=>⟨o,es,ep,base_of e (noA e d),d,r⟩
  have hKb:K.In (qct s₁.heap H):=λb o e=>base_of (KX b o e) (by
   cases q:H b with
   |none=>rfl
   |some u=>
    have e':b=a:=hA b (by rw [q];simp);subst e';rw [hK (by rw [q];simp)] at e;cases e)
  have hM:Mod K mg (qct s₁.heap H):=⟨hKb,nsK hns,⟨mb,nsK hb,hbb⟩,let ⟨mc,h1,h2⟩:=hlim;⟨mc,nsK h1,h2⟩⟩
  have e0:Env0 P w K mg (qct s₁.heap H) callerA [] s₁ H:=⟨rfl,hM,λb o e=>qgk e,Nat.le_of_eq (qab _ _),trivial,λb hb=>absurd (show b∈([]:List Addr) from hb) (by simp),hok,.of_eq hg⟩
  refine codeAny_mono ((F _ hKb (nsK hns)).run callerA [] s₁ H ⟨[.ref a],[]⟩ [.ref a] [.ref a] _ _ hr e0 (hbind s₁ (.ref a)) (.cons rfl .nil) (hsp H hO hS)) λr s' h=>?_;cases r with
  |error e=>exact (hCX H e s' h).elim
  |ok fl=>
   cases fl with
   |next=>exact False.elim h
   |brk=>exact False.elim h
   |cont=>exact False.elim h
   |ret u=>
    obtain ⟨v,H',os,bare,un,hok',r',q⟩:=h;have q':v=.bl true:=q;subst q';obtain rfl:u=Value.bool true:=r';refine ⟨rfl,OldK.of_keep λb o e=>?_,os,bare⟩;cases q:H b with
    |none=>exact un.keep b o e q (by intro z;exact absurd (show b∈([]:List Addr) from z) (by simp)) (by simp)
    |some u=>
     rcases hO b with z|⟨ob,xs,z⟩
     ·rw [q] at z;cases z
     ·have z2:=un.frzs b ob _ z;obtain ⟨e1,_⟩:=hok b _ z;obtain ⟨e2,_⟩:=hok' b _ z2;rw [e] at e1;cases e1;exact e2
 cases hk:K.lookup a with
 |some o=>
  -- the script is one of the module's own objects
  have e:=KX a o hk;rw [ha] at e;cases e;refine core (λ_=>none) (λ_=>.inl rfl) (.inr ⟨_,vs.toArray,_,hk,rfl,rfl,rfl,by rw [size_toArray,lenV];exact hl,by simpa using rv⟩) (λb u z=>by have z':(none:Option HO)=some u:=z;cases z') (λb z=>absurd rfl z) λz=>absurd rfl z
 |none=>
  refine core (λb=>if b=a then some (.frz { cls:=.type "list",data:=.seq vs.toArray } (.lst (ns.map V.int))) else none) (λb=>?_) (.inl (.inr ⟨{ cls:=.type "list",data:=.seq vs.toArray },if_pos rfl⟩)) (λb u z=>?_) (λb z=>?_) λ_=>hk
  ·by_cases hb:b=a
   ·exact .inr ⟨_,_,if_pos hb⟩
   ·exact .inl (if_neg hb)
  ·by_cases hb:b=a
   ·have z':=(if_pos hb).symm.trans z;cases z';subst hb;exact ⟨ha,by rw [length_map];exact hl,vs,_,rv,ha⟩
   ·have z':=(if_neg hb).symm.trans z;cases z'
  ·by_cases hb:b=a
   ·exact hb
   ·exact absurd (if_neg hb) z
def qfo {l:PySem.W.OpenLaw} {n k:Nat} {q:Program} {loose:List Str} {XP:(Str->Option Value)->Heap->Prop} {YP:World->Heap->Prop} {d:DefRec} {K:Params->PySem.W.Frag} {CX:World->CXT} {sp:World->Sp} {x:Str}
  (hn:l.most=some n) (hn2:n<=sizeLine) (hdf:d.params.defaults=[]) (hr:Room k callerA)
  (hY:∀ (w:World) (h:Heap),YP w h->(K w.params).In h)
  (F:∀ (w:World) (mg:Str->Option Value) (fa:Addr) (h:Heap),(K w.params).In h->h.Ns mainGlobals mg->mg d.name=some (.ref fa) ->
   ∃ fd:FuncData,(∀ (s:Shared) (u:Value),BindsTo s fd ⟨[u],[]⟩ [(x,u)]) /\
    ∀ base:Heap,(K w.params).In base->base.Ns mainGlobals mg->FnOk l.prog w (K w.params) mg base (CX w) k fa fd [x] (sp w))
  (hsp:∀ (w:World) (H:Hp) (a:Addr) (ns:List Int),ns.length<=n->qlV H->SqL (K w.params) H a (ns.map V.int)->sp w [.ref a] H (λv _=>v=.bl true) λ_ _ _=>False)
  (hCX:∀ (w:World) (H:Hp) (s:Shared) (e:Value) (s':Shared),CX w [] H s (λ_ _ _=>False) e s'->False) :
  PySem.W.WalkO q loose XP YP l.row.toRowW d [] (λf vs=>PySem.call f vs):=by
 refine Att.SH hn hdf λw s₀ s₁ mg mb fa o pm cd doc a vs ns G Y ho hd hcd hmg hobj hints hlen hg=>?_;have KX:=hY w _ Y;obtain ⟨fd,hb,hF⟩:=F w mg fa _ KX G.T.g hmg;exact qcf KX G.T.g G.T.b G.T.builtins G.T.nolimit hg hobj hints (Nat.le_trans hlen hn2) hr hF hb (λH hO hS=>hsp w H a ns hlen hO hS) λH e s'=>hCX w H s₁ e s'
def Q7 (s:Stmt):Arguments:=match s with
 |.FunctionDef _ a _ _ _ _ _ _ _ _=>a
 |_=>{ posonlyargs:=[],args:=[],vararg:=none,kwonlyargs:=[],kw_defaults:=[],kwarg:=none,defaults:=[] }
def zP (s:Stmt):List Stmt:=match s with
 |.FunctionDef _ _ b _ _ _ _ _ _ _=>b
 |_=>[]
def qh (s:Stmt):Scope:=match s with
 |.FunctionDef _ _ _ _ _ _ sc _ _ _=>sc
 |_=>{ kind:=.function,names:=[],isGenerator:=false,isCoroutine:=false }
abbrev CX0:CXT:=λ_ _ _ _ _ _=>False
abbrev E0:XK:=λ_ _ _=>False
def qnV {X:Cx}:qaf CX0 X E0:=λ_ _ _ _ _ _ _ h=>h.elim
structure Fun (K:Frg) (x qual:Str) (st:Stmt) (f:Addr) (fd:FuncData):Prop where
 ex:∃ (oc:Value) (od:Option Addr) (kV doc pm:Value) (an:Option Addr) (cdv ct:Value) (osl:Array (Option Value)),
  fd=PySem.W.fnOf x qual (Q7 st) (zP st) (qh st) .none kV doc pm an cdv ct/\K.lookup f=some ⟨oc,od,.func fd,osl⟩/\PySem.W.codeIn K cdv qual=true
 kp:PySem.W.keepIn K (.ref f)=true
section
variable {P:Program} {w:World} {K:Frg} {mg:Str->Option Value} {base:Heap}
def Fun.ok {x qual:Str} {st:Stmt} {f:Addr} {fd:FuncData} {N ps:List Str} {k:Nat} {sp:Sp} (F:Fun K x qual st f fd) (S:FnScope N ps (qh st)) (len:∀ vs H Q E,sp vs H Q E->vs.length=ps.length)
  (hbody:∀ (cdv:Value) (A:Around) (outer:List Env) (s:Shared) (H:Hp) (vs:List V) (Q:VK) (E:XK),Room k (A.deeper (envOfC qual (qh st) s.heap.objs.size f cdv))->sp vs H Q E ->
   ∃ t,PSs (qbt CX0 P w K mg base N qual (qh st) f cdv A outer s H E).nox (zP st) t/\t { nx:=λ_ H'=>Q .non H',rt:=Q } (start N vs) H):FnOk P w K mg base CX0 (k+1) f fd ps sp:=by
 obtain ⟨oc,od,kV,doc,pm,an,cdv,ct,osl,rfl,lk,hcd⟩:=F.ex;refine qnv lk hcd S len λA outer s H vs Q E hr hsp=>?_;obtain ⟨t,h,q⟩:=hbody cdv A outer s H vs Q E hr hsp;exact ⟨t,h.nox,q⟩
def Fun.binds {x qual:Str} {st:Stmt} {f:Addr} {fd:FuncData} {ps:List Str} (F:Fun K x qual st f fd)
  (h:∀ (kV doc pm:Value) (an:Option Addr) (cdv ct:Value) (us:List Value),us.length=ps.length->bindArgs (PySem.W.fnOf x qual (Q7 st) (zP st) (qh st) .none kV doc pm an cdv ct) ⟨us,[]⟩=pure (ps.zip us)):zw K fd ps []:=by
 obtain ⟨oc,od,kV,doc,pm,an,cdv,ct,osl,rfl,lk,hcd⟩:=F.ex;exact .all (h kV doc pm an cdv ct)
def qhY {x qual:Str} {st:Stmt} {f:Addr} {oc:Value} {od an:Option Addr} {osl:Array (Option Value)} {kV doc pm cdv ct:Value} (l:K.lookup f=some ⟨oc,od,.func (PySem.W.fnOf x qual (Q7 st) (zP st) (qh st) .none kV doc pm an cdv ct),osl⟩)
  (c:PySem.W.codeIn K cdv qual=true) (k:PySem.W.keepIn K (.ref f)=true):Fun K x qual st f (PySem.W.fnOf x qual (Q7 st) (zP st) (qh st) .none kV doc pm an cdv ct):=⟨⟨oc,od,kV,doc,pm,an,cdv,ct,osl,rfl,l,c⟩,k⟩
end
section
variable {X:Cx}
end
def qlE {A B:Prop} (h:B):if false=true then A else B:=by
 rw [if_neg Bool.false_ne_true];exact h
def qlR {A B:Prop} (h:A):if true=true then A else B:=by
 rw [if_pos rfl];exact h
end L2
set_option maxHeartbeats 4000000
namespace L3
open PySem PySem.Spec PyProof.Rows L2
set_option genInjectivity true in
inductive T where
 |non|bl (b:Bool)|int (i:Int)|str (x:Str)|tup (xs:List T)|ref (a:Addr)
inductive O where
 |lst (xs:List T)
 |frz (xs:List T)
 |dct (kvs:List (Int×T))
 |exn (C:Addr)
 |tab (ks:List Str) (xs:List T)
abbrev Gp:=Addr->Option O
def gu (G:Gp) (a:Addr) (o:O):Gp:=λb=>if b=a then some o else G b
def qz {G:Gp} {a:Addr} {o:O}:gu G a o a=some o:=by unfold gu;rw [if_pos rfl]
def zm {G:Gp} {a b:Addr} {o:O} (h:b≠a):gu G a o b=G b:=by unfold gu;rw [if_neg h]
mutual
inductive Rp (K:Frg) (H:Hp):T->V->Prop
 |non:Rp K H .non .non
 |bl (b:Bool):Rp K H (.bl b) (.bl b)
 |int (i:Int):Rp K H (.int i) (.int i)
 |str (x:Str):Rp K H (.str x) (.str x)
 |ref (a:Addr):Rp K H (.ref a) (.ref a)
 |tup {xs:List T} {a:Addr} {vs:List V}:SqT K H a vs->Rps K H xs vs->Rp K H (.tup xs) (.ref a)
inductive Rps (K:Frg) (H:Hp):List T->List V->Prop
 |nil:Rps K H [] []
 |cons {x:T} {v:V} {xs:List T} {vs:List V}:Rp K H x v->Rps K H xs vs->Rps K H (x::xs) (v::vs)
end
def IsX (a C:Addr) (h:Heap):Prop:=∃ o vs,h.get? a=some o/\o.cls=.ref C/\o.data=.fields vs
def OR (K:Frg) (H:Hp) (a:Addr):O->Prop
 |.lst xs=>∃ vs,H a=some (.lst vs)/\Rps K H xs vs
 |.frz xs=>∃ vs,(∃ o,H a=some (.frz o (.lst vs)))/\Rps K H xs vs
 |.dct kvs=>∃ vs,H a=some (.dK ((kvs.map λp=>(Sum.inl p.1:Key)).zip vs))/\Rps K H (kvs.map λp=>p.2) vs
 |.exn C=>H a=some (.ext (IsX a C))
 |.tab ks xs=>∃ vs,H a=some (.dK ((ks.map λk=>(Sum.inr k:Key)).zip vs))/\Rps K H xs vs
def HR (K:Frg) (G:Gp) (H:Hp):Prop:=∀ a o,G a=some o->OR K H a o
def Kp (G:Gp) (H:Hp) (G':Gp) (H':Hp):Prop:=∀ a o,H a=some o->G a=none->H' a=some o/\G' a=none
def Kp.refl {G:Gp} {H:Hp}:Kp G H G H:=λ_ _ h g=>⟨h,g⟩
def Kp.trans {G G1 G2:Gp} {H H1 H2:Hp} (a:Kp G H G1 H1) (b:Kp G1 H1 G2 H2):Kp G H G2 H2:=λx o h g=>
 let ⟨h1,g1⟩:=a x o h g;b x o h1 g1
section
variable {K:Frg} {G G':Gp} {H H':Hp}
def HR.noneT (hr:HR K G H) {a:Addr} {vs:List V} (h:Rd H a (.tup vs)):G a=none:=by
 cases e:G a with
 |none=>rfl
 |some o=>
  have q:=hr a o e;cases o with
  |lst xs=>
   obtain ⟨us,q1,_⟩:=q;rcases h with h|⟨ob,h⟩<;>(rw [q1] at h;cases h)
  |frz xs=>
   obtain ⟨us,⟨o1,q1⟩,_⟩:=q;rcases h with h|⟨ob,h⟩<;>(rw [q1] at h;cases h)
  |dct kvs=>
   obtain ⟨us,q1,_⟩:=q;rcases h with h|⟨ob,h⟩<;>(rw [q1] at h;cases h)
  |exn C=>
   have q1:H a=some (.ext (IsX a C)):=q;rcases h with h|⟨ob,h⟩<;>(rw [q1] at h;cases h)
  |tab ks xs=>
   obtain ⟨us,q1,_⟩:=q;rcases h with h|⟨ob,h⟩<;>(rw [q1] at h;cases h)
def WK (hr:HR K G H) (k:Kp G H G' H') {a:Addr} {vs:List V} (h:SqT K H a vs):SqT K H' a vs:=by
 rcases h with h|h
 ·have g:=hr.noneT h;rcases h with h|⟨o,h⟩
  ·exact .inl (.inl (k a _ h g).1)
  ·exact .inl (.inr ⟨o,(k a _ h g).1⟩)
 ·exact .inr h
mutual
def Rp.keep (hr:HR K G H) (k:Kp G H G' H'):∀ {x:T} {v:V},Rp K H x v->Rp K H' x v
 |_,_,.non=>.non
 |_,_,.bl b=>.bl b
 |_,_,.int i=>.int i
 |_,_,.str x=>.str x
 |_,_,.ref a=>.ref a
 |_,_,.tup h hs=>.tup (WK hr k h) (Rps.keep hr k hs)
def Rps.keep (hr:HR K G H) (k:Kp G H G' H'):∀ {x:List T} {v:List V},Rps K H x v->Rps K H' x v
 |_,_,.nil=>.nil
 |_,_,.cons a b=>.cons (Rp.keep hr k a) (Rps.keep hr k b)
end
def Rps.length:∀ {xs:List T} {vs:List V},Rps K H xs vs->xs.length=vs.length
 |_,_,.nil=>rfl
 |_,_,.cons _ b=>by simp [Rps.length b]
def Rps.get:∀ {xs:List T} {vs:List V} {i:Nat} {x:T},Rps K H xs vs->xs[i]?=some x->∃ v,vs[i]?=some v/\Rp K H x v
 |_,_,_,_,.nil,e=>by simp at e
 |_,_,0,_,.cons r _,e=>by simp at e;subst e;exact ⟨_,rfl,r⟩
 |_,_,i+1,x,.cons _ t,e=>by
  obtain ⟨u,h1,h2⟩:=Rps.get (i:=i) (x:=x) t (by simpa using e);exact ⟨u,by simpa using h1,h2⟩
def Rps.append:∀ {xs ys:List T} {vs us:List V},Rps K H xs vs->Rps K H ys us->Rps K H (xs++ys) (vs++us)
 |_,_,_,_,.nil,s=>s
 |_,_,_,_,.cons r t,s=>.cons r (Rps.append t s)
def Rps.take:∀ {xs:List T} {vs:List V} (n:Nat),Rps K H xs vs->Rps K H (xs.take n) (vs.take n)
 |_,_,0,_=>.nil
 |_,_,_+1,.nil=>.nil
 |_,_,n+1,.cons r t=>.cons r (Rps.take n t)
def Rps.drop:∀ {xs:List T} {vs:List V} (n:Nat),Rps K H xs vs->Rps K H (xs.drop n) (vs.drop n)
 |_,_,0,r=>r
 |_,_,_+1,.nil=>.nil
 |_,_,n+1,.cons _ t=>Rps.drop n t
def Rps.set {x:T} {v:V} (r:Rp K H x v):∀ {xs:List T} {vs:List V} (i:Nat),Rps K H xs vs->Rps K H (xs.set i x) (vs.set i v)
 |_,_,_,.nil=>.nil
 |_,_,0,.cons _ t=>.cons r t
 |_,_,i+1,.cons q t=>.cons q (Rps.set r i t)
def Rps.ints:∀ (ns:List Int),Rps K H (ns.map T.int) (ns.map V.int)
 |[]=>.nil
 |n::r=>.cons (.int n) (Rps.ints r)
def Rps.reverse {xs:List T} {vs:List V} (h:Rps K H xs vs):Rps K H xs.reverse vs.reverse:=by
 induction xs generalizing vs with
 |nil=>cases h;exact .nil
 |cons x r ih=>
  cases h with
  |cons a b=>
   rw [List.reverse_cons,List.reverse_cons];exact (ih b).append (.cons a .nil)
def Kp.laid {p:Addr} {ho:HO} (hp:H p=none):Kp G H G (upd H p ho):=λa o h g=>⟨by rw [qv (qr h hp)];exact h,g⟩
def HR.free (hr:HR K G H) {p:Addr} (hp:H p=none):G p=none:=by
 cases e:G p with
 |none=>rfl
 |some o=>
  have q:=hr p o e;cases o with
  |lst xs=>obtain ⟨us,q1,_⟩:=q;rw [hp] at q1;cases q1
  |frz xs=>obtain ⟨us,⟨o1,q1⟩,_⟩:=q;rw [hp] at q1;cases q1
  |dct kvs=>obtain ⟨us,q1,_⟩:=q;rw [hp] at q1;cases q1
  |exn C=>have q1:H p=some (.ext (IsX p C)):=q;rw [hp] at q1;cases q1
  |tab ks xs=>obtain ⟨us,q1,_⟩:=q;rw [hp] at q1;cases q1
def OR.keep (hr:HR K G H) (k:Kp G H G' H') {a:Addr} {o:O} (h:OR K H a o) (e:∀ u,H a=some u->H' a=some u):OR K H' a o:=by
 cases o with
 |lst xs=>obtain ⟨vs,h1,h2⟩:=h;exact ⟨vs,e _ h1,h2.keep hr k⟩
 |frz xs=>obtain ⟨vs,⟨o,h1⟩,h2⟩:=h;exact ⟨vs,⟨o,e _ h1⟩,h2.keep hr k⟩
 |dct kvs=>obtain ⟨vs,h1,h2⟩:=h;exact ⟨vs,e _ h1,h2.keep hr k⟩
 |exn C=>exact e _ h
 |tab ks xs=>obtain ⟨vs,h1,h2⟩:=h;exact ⟨vs,e _ h1,h2.keep hr k⟩
def HR.laid (hr:HR K G H) {p:Addr} {ho:HO} (hp:H p=none):HR K G (upd H p ho):=λa o e=>
 (hr a o e).keep hr (Kp.laid hp) λu h=>by rw [qv (qr h hp)];exact h
def Kp.newL {p:Addr} {ho:HO} {o':O} (hp:H p=none):Kp G H (gu G p o') (upd H p ho):=λa o h g=>
 ⟨by rw [qv (qr h hp)];exact h,by rw [zm (qr h hp)];exact g⟩
def HR.newL (hr:HR K G H) {p:Addr} {xs:List T} {vs:List V} (hp:H p=none) (r:Rps K H xs vs):HR K (gu G p (.lst xs)) (upd H p (.lst vs)):=λa o e=>by
 by_cases ha:a=p
 ·subst ha;rw [qz] at e;cases e;exact ⟨vs,qT,r.keep hr (Kp.laid hp)⟩
 ·rw [zm ha] at e;exact (hr a o e).keep hr (Kp.laid hp) λu h=>by rw [qv ha];exact h
def Kp.wr {p:Addr} {ho:HO} {o o':O} (g:G p=some o):Kp G H (gu G p o') (upd H p ho):=λa ob h ga=>by
 have ha:a≠p:=by intro e;subst e;rw [g] at ga;cases ga
 exact ⟨by rw [qv ha];exact h,by rw [zm ha];exact ga⟩
def HR.wr (hr:HR K G H) {p:Addr} {ys xs:List T} {vs:List V} (g:G p=some (.lst ys)) (r:Rps K H xs vs):HR K (gu G p (.lst xs)) (upd H p (.lst vs)):=λa o e=>by
 have k:Kp G H (gu G p (.lst xs)) (upd H p (.lst vs)):=Kp.wr g;by_cases ha:a=p
 ·subst ha;rw [qz] at e;cases e;exact ⟨vs,qT,r.keep hr k⟩
 ·rw [zm ha] at e;exact (hr a o e).keep hr k λu h=>by rw [qv ha];exact h
end
abbrev St3:=List (Option T)
structure Rel (K:Frg) (τ:St3) (G:Gp) (σ:L2.St) (H:Hp):Prop where
 hp:HR K G H
 len:τ.length=σ.length
 st:∀ (i:Nat) (t:T),τ[i]?=some (some t)->∃ v,σ[i]?=some (some v)/\Rp K H t v
def Rel.next {K:Frg} {τ:St3} {G G':Gp} {σ:L2.St} {H H':Hp} (r:Rel K τ G σ H) (hr:HR K G' H') (k:Kp G H G' H'):Rel K τ G' σ H':=
 ⟨hr,r.len,λi t e=>let ⟨v,h1,h2⟩:=r.st i t e;⟨v,h1,h2.keep r.hp k⟩⟩
def Rel.set {K:Frg} {τ:St3} {G:Gp} {σ:L2.St} {H:Hp} {t:T} {v:V} (r:Rel K τ G σ H) (i:Nat) (h:Rp K H t v):Rel K (τ.set i (some t)) G (σ.set i (some v)) H:=by
 refine ⟨r.hp,by simp [r.len],λj u e=>?_⟩;by_cases hij:i=j
 ·subst hij;rw [List.getElem?_set_self'] at e;have hl:i<τ.length:=by
   cases q:τ[i]? with
   |none=>rw [q] at e;cases e
   |some z=>exact (List.getElem?_eq_some_iff.mp q).1
  rw [getElem?_eq_getElem hl] at e;have e':t=u:=by simpa using e
  subst e';exact ⟨v,by rw [List.getElem?_set_self (by rw [← r.len];exact hl)],h⟩
 ·rw [List.getElem?_set_ne hij] at e;obtain ⟨w,h1,h2⟩:=r.st j u e;exact ⟨w,by rw [List.getElem?_set_ne hij];exact h1,h2⟩
abbrev Q3:=T->Gp->Prop
abbrev TE3:=St3->Gp->Q3->Prop
abbrev TT3:=St3->Gp->(Bool->Gp->Prop)->Prop
abbrev TA3:=St3->Gp->(List T->Gp->Prop)->Prop
def Aft (K:Frg) (G:Gp) (H:Hp) (q:Q3) (Q:VK):Prop:=∀ x G',q x G'->∀ v H',Rp K H' x v->HR K G' H'->Kp G H G' H'->Q v H'
def qlN (K:Frg) (G:Gp) (H:Hp) (q:Bool->Gp->Prop) (Q:Bool->Hp->Prop):Prop:=∀ x G',q x G'->∀ H',HR K G' H'->Kp G H G' H'->Q x H'
def qpG (K:Frg) (G:Gp) (H:Hp) (q:List T->Gp->Prop) (Q:List V->Hp->Prop):Prop:=∀ x G',q x G'->∀ v H',Rps K H' x v->HR K G' H'->Kp G H G' H'->Q v H'
def lE (K:Frg) (t:TE3):TE:=λσ H Q=>∃ τ G q,Rel K τ G σ H/\t τ G q/\Aft K G H q Q
def lT (K:Frg) (t:TT3):TT:=λσ H Q=>∃ τ G q,Rel K τ G σ H/\t τ G q/\qlN K G H q Q
def lA (K:Frg) (t:TA3):TA:=λσ H Q=>∃ τ G q,Rel K τ G σ H/\t τ G q/\qpG K G H q Q
abbrev E3 (X:Cx) (e:Expr) (t:TE3):Prop:=PE X e (lE X.K t)
abbrev C3 (X:Cx) (e:Expr) (t:TT3):Prop:=PT X e (lT X.K t)
abbrev W3 (X:Cx) (e:Expr) (t:TT3):Prop:=PW X e (lT X.K t)
abbrev A3 (X:Cx) (es:List Expr) (t:TA3):Prop:=PA X es (lA X.K t)
def Aft.back {K:Frg} {G G1:Gp} {H H1:Hp} {q:Q3} {Q:VK} (a:Aft K G H q Q) (k:Kp G H G1 H1):Aft K G1 H1 q Q:=λx G' h v H' r hr k'=>a x G' h v H' r hr (k.trans k')
def qlN.back {K:Frg} {G G1:Gp} {H H1:Hp} {q:Bool->Gp->Prop} {Q:Bool->Hp->Prop} (a:qlN K G H q Q) (k:Kp G H G1 H1):qlN K G1 H1 q Q:=λx G' h H' hr k'=>a x G' h H' hr (k.trans k')
def VM {X:Cx} {e:Expr} {t t':TE} (h:PE X e t) (w:∀ σ H Q,t' σ H Q->t σ H Q):PE X e t':=λpins s σ H Q I q=>h pins s σ H Q I (w σ H Q q)
def qkv {X:Cx} {e:Expr} {t t':TT} (h:PT X e t) (w:∀ σ H Q,t' σ H Q->t σ H Q):PT X e t':=λpins s σ H Q I q=>h pins s σ H Q I (w σ H Q q)
def qpq {X:Cx} {e:Expr} {t t':TT} (h:PW X e t) (w:∀ σ H Q,t' σ H Q->t σ H Q):PW X e t':=λwh pins s σ H Q I q=>h wh pins s σ H Q I (w σ H Q q)
def qou {X:Cx} {e:List Expr} {t t':TA} (h:PA X e t) (w:∀ σ H Q,t' σ H Q->t σ H Q):PA X e t':=λpos pins s σ H Q I q=>h pos pins s σ H Q I (w σ H Q q)
def qQ {K:Frg} {ta:TE3} {τ:St3} {G:Gp} {σ:L2.St} {H:Hp} {q:Q3} {Q:VK} (r:Rel K τ G σ H) (h:ta τ G q)
  (n:∀ x G1,q x G1->∀ v H1,Rp K H1 x v->HR K G1 H1->Kp G H G1 H1->Rel K τ G1 σ H1->Q v H1):lE K ta σ H Q:=
 ⟨τ,G,q,r,h,λx G1 hq v H1 rx hr k=>n x G1 hq v H1 rx hr k (r.next hr k)⟩
def KM {K:Frg} {ta:TT3} {τ:St3} {G:Gp} {σ:L2.St} {H:Hp} {q:Bool->Gp->Prop} {Q:Bool->Hp->Prop} (r:Rel K τ G σ H) (h:ta τ G q)
  (n:∀ x G1,q x G1->∀ H1,HR K G1 H1->Kp G H G1 H1->Rel K τ G1 σ H1->Q x H1):lT K ta σ H Q:=
 ⟨τ,G,q,r,h,λx G1 hq H1 hr k=>n x G1 hq H1 hr k (r.next hr k)⟩
def ZZ {K:Frg} {ta:TA3} {τ:St3} {G:Gp} {σ:L2.St} {H:Hp} {q:List T->Gp->Prop} {Q:List V->Hp->Prop} (r:Rel K τ G σ H) (h:ta τ G q)
  (n:∀ x G1,q x G1->∀ v H1,Rps K H1 x v->HR K G1 H1->Kp G H G1 H1->Rel K τ G1 σ H1->Q v H1):lA K ta σ H Q:=
 ⟨τ,G,q,r,h,λx G1 hq v H1 rx hr k=>n x G1 hq v H1 rx hr k (r.next hr k)⟩
section
variable {X:Cx} {a b c:Expr} {ta tb tc:TE3} {pos:Pos}
def v3 (i:Nat):TE3:=λτ G q=>match τ[i]? with|some (some t)=>q t G|_=>False
def qnj (i:Nat) {x:Str} {pos:Pos} (hN:X.N[i]?=some x:=by rfl) (hv:Vis X.env.scope x:=by first|exact Or.inl rfl|exact Or.inr (Or.inl rfl)|exact Or.inr (Or.inr rfl)) (hd:(x==("__debug__" : Str))=false:=by decide)
  (hcd:(x==("__classdict__" : Str))=false:=by decide):E3 X (.Name x pos) (v3 i):=by
 refine VM (qkj (i:=i) hN hv hd hcd) λσ H Q ⟨τ,G,q,r,h,af⟩=>?_;unfold v3 at h;split at h
 ·rename_i t e;obtain ⟨v,e2,rv⟩:=r.st i t e;exact ⟨v,e2,af t G h v H rv r.hp Kp.refl⟩
 ·exact h.elim
def c3 (t:T):TE3:=λ_ G q=>q t G
def e_c {t:T} {v:V} {e:Expr} (h:PE X e (tC v)) (hr:∀ H,Rp X.K H t v):E3 X e (c3 t):=VM h λσ H Q ⟨τ,G,q,r,h,af⟩=>af t G h v H (hr H) r.hp Kp.refl
def qms {i:Int} {j pos}:E3 X (.Constant (.int i) j pos) (c3 (.int i)):=e_c qi8 λ_=>.int i
def qpo {b:Bool} {j pos}:E3 X (.Constant (.bool b) j pos) (c3 (.bl b)):=e_c qmT λ_=>.bl b
def qnt {j pos}:E3 X (.Constant .none j pos) (c3 .non):=e_c qhh λ_=>.non
def qn4 {x:Str} {j pos}:E3 X (.Constant (.str x) j pos) (c3 (.str x)):=e_c qjk λ_=>.str x
def n3:TE3:=λ_ _ _=>False
abbrev R3:=T->T->Gp->Q3->Prop
def UH (K:Frg) (r3:R3) (r:R2):Prop:=∀ x y v u G H q Q,HR K G H->Rp K H x v->Rp K H y u->r3 x y G q->Aft K G H q Q->r v u H Q
def o3 (r:R3) (ta tb:TE3):TE3:=λτ G q=>ta τ G λx G1=>tb τ G1 λy G2=>r x y G2 q
def qcO {K:Frg} {r3:R3} {r:R2} (hr:UH K r3 r) {σ:L2.St} {H:Hp} {Q:VK} (h:lE K (o3 r3 ta tb) σ H Q):tOp r (lE K ta) (lE K tb) σ H Q:=by
 obtain ⟨τ,G,q,rl,h,af⟩:=h;refine qQ rl h λx G1 h1 v H1 rx hr1 k1 rl1=>qQ rl1 h1 λy G2 h2 u H2 ry hr2 k2 rl2=>?_;exact hr x y v u G2 H2 q Q hr2 (rx.keep hr1 k2) ry h2 (af.back (k1.trans k2))
def qfu {op:Operator} {r3:R3} {r:R2} (ho:OpR X (binaryOp op) r) (hr:UH X.K r3 r) (ha:E3 X a ta) (hb:E3 X b tb):E3 X (.BinOp a op b pos) (o3 r3 ta tb):=
 VM (qm2 ho ha hb) λ_ _ _ h=>qcO hr h
def qma {op:CmpOp} {r3:R3} {r:R2} (ho:OpR X (compareOp op) r) (hr:UH X.K r3 r) (ha:E3 X a ta) (hb:E3 X b tb) (hm:behindInMarks op b=false):E3 X (.Compare a [op] [b] pos) (o3 r3 ta tb):=
 VM (qga ho ha hb hm) λ_ _ _ h=>qcO hr h
def tb3 (t:TE3):TT3:=λτ G q=>t τ G λx G'=>match x with|.bl k=>q k G'|_=>False
def qbL {K:Frg} {t:TE3} {t2:TE} (hw:∀ σ H Q,lE K t σ H Q->t2 σ H Q) {σ:L2.St} {H:Hp} {Q:Bool->Hp->Prop} (h:lT K (tb3 t) σ H Q):qgg t2 σ H Q:=by
 obtain ⟨τ,G,q,rl,h,af⟩:=h;refine hw _ _ _ (qQ rl h λx G1 h1 v H1 rx hr1 k1 rl1=>?_);cases x with
 |bl k=>cases rx;exact ⟨k,rfl,af k G1 h1 H1 hr1 k1⟩
 |_=>exact h1.elim
def qnM {op:CmpOp} {r3:R3} {r:R2} (ho:OpR X (compareOp op) r) (hr:UH X.K r3 r) (ha:E3 X a ta) (hb:E3 X b tb) (hm:behindInMarks op b=false):C3 X (.Compare a [op] [b] pos) (tb3 (o3 r3 ta tb)):=
 qkv (qa4 ho ha hb hm) λ_ _ _ h=>qbL (λ_ _ _=>qcO hr) h
def ch3 (r r':R3) (ta tb tc:TE3):TE3:=λτ G q=>ta τ G λx G1=>tb τ G1 λy G2=>r x y G2 λz G3=>match z with
 |.bl k=>if k=true then tc τ G3 λw G4=>r' y w G4 q else q (.bl false) G3
 |_=>False
def qmz {K:Frg} {r3 r3':R3} {r r':R2} (hr:UH K r3 r) (hr':UH K r3' r') {σ:L2.St} {H:Hp} {Q:VK} (h:lE K (ch3 r3 r3' ta tb tc) σ H Q):qeM r r' (lE K ta) (lE K tb) (lE K tc) σ H Q:=by
 obtain ⟨τ,G,q,rl,h,af⟩:=h;refine qQ rl h λx G1 h1 v H1 rx hr1 k1 rl1=>qQ rl1 h1 λy G2 h2 u H2 ry hr2 k2 rl2=>?_;refine hr x y v u G2 H2 _ _ hr2 (rx.keep hr1 k2) ry h2 λz G3 h3 w H3 rz hr3 k3=>?_;cases z with
 |bl k=>
  cases rz;refine ⟨k,rfl,?_⟩;cases k with
  |false=>
   rw [if_neg Bool.false_ne_true];rw [show (match T.bl false with|.bl k=>if k=true then tc τ G3 λw G4=>r3' y w G4 q else q (.bl false) G3|_=>False)=q (.bl false) G3 from by simp] at h3;exact af _ G3 h3 _ H3 (.bl false) hr3 ((k1.trans k2).trans k3)
  |true=>
   rw [if_pos rfl];refine qQ (rl2.next hr3 k3) (show tc τ G3 λw G4=>r3' y w G4 q from by simpa using h3) λw G4 h4 w' H4 rw' hr4 k4 rl4=>?_;exact hr' y w _ _ G4 H4 q Q hr4 ((ry.keep hr2 k3).keep hr3 k4) rw' h4 (af.back (((k1.trans k2).trans k3).trans k4))
 |_=>exact h3.elim
def qgj {op op':CmpOp} {r3 r3':R3} {r r':R2} (ho:OpR X (compareOp op) r) (hr:UH X.K r3 r) (ho':OpR X (compareOp op') r') (hr':UH X.K r3' r') (ha:E3 X a ta) (hb:E3 X b tb) (hc:E3 X c tc)
  (hm:lastMarks [op,op'] [b,c]=false:=by with_unfolding_all rfl):C3 X (.Compare a [op,op'] [b,c] pos) (tb3 (ch3 r3 r3' ta tb tc)):=
 qkv (qcT ho ho' ha hb hc hm) λ_ _ _ h=>qbL (λ_ _ _=>qmz hr hr') h
def qoo (K:Frg) (r3:T->Gp->Q3->Prop) (r:V->Hp->VK->Prop):Prop:=∀ x v G H q Q,HR K G H->Rp K H x v->r3 x G q->Aft K G H q Q->r v H Q
def u3 (r:T->Gp->Q3->Prop) (ta:TE3):TE3:=λτ G q=>ta τ G λx G1=>r x G1 q
def qpt {op:UnaryOp} {r3:T->Gp->Q3->Prop} {r:V->Hp->VK->Prop} (ho:UnR X (unaryOp op) r) (hr:qoo X.K r3 r) (ha:E3 X a ta):E3 X (.UnaryOp op a pos) (u3 r3 ta):=
 VM (qoh ho ha) λ_ _ _ ⟨τ,G,q,rl,h,af⟩=>qQ rl h λx G1 h1 v H1 rx hr1 k1 rl1=>hr x v G1 H1 q _ hr1 rx h1 (af.back k1)
def qeo:T->Gp->Q3->Prop:=λx G q=>match x with|.int i=>q (.int (-i)) G|_=>False
def qgC {K:Frg}:qoo K qeo (rU λi=>.int (-i)):=λx v G H q Q hr rx h af=>by
 cases x with
 |int i=>cases rx;exact ⟨i,rfl,af _ G h _ H (.int _) hr Kp.refl⟩
 |_=>exact h.elim
def iI (f:Int->Int->Int):R3:=λx y G q=>match x,y with|.int i,.int j=>q (.int (f i j)) G|_,_=>False
def iC (C:Int->Int->Prop) (f:Int->Int->Int):R3:=λx y G q=>match x,y with|.int i,.int j=>C i j/\q (.int (f i j)) G|_,_=>False
def iB (f:Int->Int->Bool):R3:=λx y G q=>match x,y with|.int i,.int j=>q (.bl (f i j)) G|_,_=>False
def qjn {K:Frg} {f:Int->Int->Int}:UH K (iI f) (rI0 λi j=>.int (f i j)):=λx y v u G H q Q hr rx ry h af=>by
 cases x<;>try exact h.elim
 cases y<;>try exact h.elim
 cases rx;cases ry;exact ⟨_,_,rfl,rfl,af _ G h _ H (.int _) hr Kp.refl⟩
def TW {K:Frg} {C:Int->Int->Prop} {f:Int->Int->Int}:UH K (iC C f) (rI C λi j=>.int (f i j)):=λx y v u G H q Q hr rx ry h af=>by
 cases x<;>try exact h.elim
 cases y<;>try exact h.elim
 cases rx;cases ry;exact ⟨_,_,rfl,rfl,h.1,af _ G h.2 _ H (.int _) hr Kp.refl⟩
def YI {K:Frg} {f:Int->Int->Bool}:UH K (iB f) (rI0 λi j=>.bl (f i j)):=λx y v u G H q Q hr rx ry h af=>by
 cases x<;>try exact h.elim
 cases y<;>try exact h.elim
 cases rx;cases ry;exact ⟨_,_,rfl,rfl,af _ G h _ H (.bl _) hr Kp.refl⟩
def qn3 (ha:E3 X a ta) (hb:E3 X b tb):E3 X (.BinOp a .Sub b pos) (o3 (iI (·-·)) ta tb):=qfu qhp qjn ha hb
def qmQ (ha:E3 X a ta) (hb:E3 X b tb):E3 X (.BinOp a .Mult b pos) (o3 (iC J1 (·*·)) ta tb):=qfu qhM TW ha hb
def qmf (ha:E3 X a ta) (hb:E3 X b tb):E3 X (.BinOp a .Mod b pos) (o3 (iC (λ_ j=>0<j) (·%·)) ta tb):=qfu qiC TW ha hb
def ql5 (ha:E3 X a ta) (hb:E3 X b tb):E3 X (.BinOp a .FloorDiv b pos) (o3 (iC qbw (·/·)) ta tb):=qfu qgh TW ha hb
def qn9 (ha:E3 X a ta) (hb:E3 X b tb):E3 X (.BinOp a .Pow b pos) (o3 (iC qlo (λi j=>i ^ j.toNat)) ta tb):=qfu qkb TW ha hb
def ql2 (ha:E3 X a ta):E3 X (.UnaryOp .USub a pos) (u3 qeo ta):=qpt qiw qgC ha
def ZK:T->T->Option Bool
 |.non,.non=>some true|.non,.int _=>some false|.int _,.non=>some false|.non,.bl _=>some false|.bl _,.non=>some false|.non,.str _=>some false|.str _,.non=>some false
 |.int i,.int j=>some (decide (i=j))|.bl i,.bl j=>some (decide (i=j))|.str i,.str j=>some (decide (i=j))
 |.int _,.str _=>some false|.str _,.int _=>some false|.bl _,.str _=>some false|.str _,.bl _=>some false
 |_,_=>none
def TQ {K:Frg} {H:Hp} {x y:T} {v u:V} {k:Bool} (rx:Rp K H x v) (ry:Rp K H y u) (h:ZK x y=some k):qmp v u=true/\decide (v=u)=k:=by
 cases rx<;>cases ry<;>simp [ZK] at h<;>subst h<;>refine ⟨rfl,?_⟩<;>simp
def qlS (neg:Bool):R3:=λx y G q=>match y with|.non=>q (.bl (match x with|.non=>!neg|_=>neg)) G|_=>False
def qiL {K:Frg} {H:Hp} {x:T} {v:V} (rx:Rp K H x v):decide (v=.non)=(match x with|.non=>true|_=>false):=by
 cases rx<;>simp
def RT {K:Frg}:UH K (qlS false) (λx y H Q=>y=.non/\Q (.bl (decide (x=.non))) H):=λx y v u G H q Q hr rx ry h af=>by
 cases y<;>try exact h.elim
 cases ry;refine ⟨rfl,?_⟩;rw [qiL rx];refine af _ G h _ H ?_ hr Kp.refl;cases x<;>exact .bl _
variable {tA tB:TT3} {jk:List Expr}
def or3 (t u:TT3):TT3:=λτ G q=>t τ G λk G1=>if k=true then q true G1 else u τ G1 q
def RV (t:TT3):TT3:=λτ G q=>t τ G λk G1=>q (!k) G1
def qn1 (ha:C3 X a tA):W3 X (.BoolOp .Or [a] pos) tA:=qkN ha
def qpv (ha:C3 X a tA) (hb:W3 X (.BoolOp .Or (b::jk) pos) tB):W3 X (.BoolOp .Or (a::b::jk) pos) (or3 tA tB):=
 qpq (qnQ ha hb) λ_ _ _ ⟨τ,G,q,rl,h,af⟩=>KM rl h λk G1 h1 H1 hr1 k1 rl1=>by
  cases k with
  |true=>rw [if_pos rfl] at h1 ⊢;exact af _ G1 h1 H1 hr1 k1
  |false=>rw [if_neg Bool.false_ne_true] at h1 ⊢;exact ⟨τ,G1,q,rl1,h1,af.back k1⟩
def qnN (ha:C3 X a tA):C3 X (.UnaryOp .Not a pos) (RV tA):=
 qkv (qj4 ha) λ_ _ _ ⟨τ,G,q,rl,h,af⟩=>KM rl h λk G1 h1 H1 hr1 k1 rl1=>af _ G1 h1 H1 hr1 k1
def qnZ {e:Expr} {t:TE3} (h:E3 X e t) (he:∀ whole,isTrue e X.env whole=(do let v←whole;standAt e.pos;holding [v] (truthy v)):=by intro _;rfl):C3 X e (tb3 t):=
 qkv (qht h he) λ_ _ _ h=>qbL (λ_ _ _ h=>h) h
def jy (ta tb:TE3):TE3:=λτ G q=>ta τ G λx G1=>match x with|.bl k=>if k=true then tb τ G1 q else q (.bl false) G1|_=>False
def qlK (ta tb:TE3):TE3:=λτ G q=>ta τ G λx G1=>match x with|.bl k=>if k=true then q (.bl true) G1 else tb τ G1 q|_=>False
def M0 (ta:TE3):TE3:=λτ G q=>ta τ G λx G1=>match x with|.bl k=>q (.bl (!k)) G1|_=>False
def qnU {op} (h:E3 X a ta):E3 X (.BoolOp op [a] pos) ta:=qig h
def qok (ha:E3 X a ta) (hb:E3 X (.BoolOp .And (b::jk) pos) tb):E3 X (.BoolOp .And (a::b::jk) pos) (jy ta tb):=
 VM (qjY ha hb) λ_ _ _ ⟨τ,G,q,rl,h,af⟩=>qQ rl h λx G1 h1 v H1 rx hr1 k1 rl1=>by
  cases x with
  |bl k=>
   cases rx;refine ⟨k,rfl,?_⟩;cases k with
   |true=>rw [if_pos rfl];exact ⟨τ,G1,q,rl1,(show tb τ G1 q from by simpa using h1),af.back k1⟩
   |false=>rw [if_neg Bool.false_ne_true];exact af _ G1 (by simpa using h1) _ H1 (.bl false) hr1 k1
  |_=>exact h1.elim
def qps (ha:E3 X a ta) (hb:E3 X (.BoolOp .Or (b::jk) pos) tb):E3 X (.BoolOp .Or (a::b::jk) pos) (qlK ta tb):=
 VM (qn5 ha hb) λ_ _ _ ⟨τ,G,q,rl,h,af⟩=>qQ rl h λx G1 h1 v H1 rx hr1 k1 rl1=>by
  cases x with
  |bl k=>
   cases rx;refine ⟨k,rfl,?_⟩;cases k with
   |true=>rw [if_pos rfl];exact af _ G1 (by simpa using h1) _ H1 (.bl true) hr1 k1
   |false=>rw [if_neg Bool.false_ne_true];exact ⟨τ,G1,q,rl1,(show tb τ G1 q from by simpa using h1),af.back k1⟩
  |_=>exact h1.elim
def qlZ (ha:E3 X a ta):E3 X (.UnaryOp .Not a pos) (M0 ta):=
 VM (qhc ha) λ_ _ _ ⟨τ,G,q,rl,h,af⟩=>qQ rl h λx G1 h1 v H1 rx hr1 k1 rl1=>by
  cases x with
  |bl k=>cases rx;exact ⟨k,rfl,af _ G1 h1 _ H1 (.bl _) hr1 k1⟩
  |_=>exact h1.elim
def if3 (t:TT3) (ta tb:TE3):TE3:=λτ G q=>t τ G λk G1=>if k=true then ta τ G1 q else tb τ G1 q
def qpj {c:Expr} (hc:C3 X c tA) (ha:E3 X a ta) (hb:E3 X b tb):E3 X (.IfExp c a b pos) (if3 tA ta tb):=
 VM (qcX hc ha hb) λ_ _ _ ⟨τ,G,q,rl,h,af⟩=>KM rl h λk G1 h1 H1 hr1 k1 rl1=>by
  cases k with
  |true=>rw [if_pos rfl] at h1 ⊢;exact ⟨τ,G1,q,rl1,h1,af.back k1⟩
  |false=>rw [if_neg Bool.false_ne_true] at h1 ⊢;exact ⟨τ,G1,q,rl1,h1,af.back k1⟩
variable {e:Expr} {es:List Expr} {te:TE3} {t:TA3}
def qk:TA3:=λ_ G q=>q [] G
def qc (ta:TE3) (tr:TA3):TA3:=λτ G q=>ta τ G λx G1=>tr τ G1 λxs G2=>q (x::xs) G2
def qna:A3 X [] qk:=qou SV λ_ H _ ⟨τ,G,q,rl,h,af⟩=>af _ G h _ H .nil rl.hp Kp.refl
def qiW (ha:E3 X e te) (hr:A3 X es t) (hs:starEach (e::es) X.env=(false,eval e X.env)::starEach es X.env:=by rfl):A3 X (e::es) (qc te t):=
 qou (JQ ha hr hs) λ_ _ _ ⟨τ,G,q,rl,h,af⟩=>qQ rl h λx G1 h1 v H1 rx hr1 k1 rl1=>ZZ rl1 h1 λxs G2 h2 vs H2 rs hr2 k2 rl2=>
  af _ G2 h2 _ H2 (.cons (rx.keep hr1 k2) rs) hr2 (k1.trans k2)
def QE (t:TA3):TE3:=λτ G q=>t τ G λxs G1=>xs.length<=sizeLine/\q (.tup xs) G1
def VX (t:TA3):TE3:=λτ G q=>t τ G λxs G1=>xs.length<=sizeLine/\∀ p,G1 p=none->q (.ref p) (gu G1 p (.lst xs))
def qmg {x1} (h:A3 X es t):E3 X (.Tuple es x1 pos) (QE t):=
 VM (qdM h) λ_ _ _ ⟨τ,G,q,rl,h,af⟩=>ZZ rl h λxs G1 h1 vs H1 rs hr1 k1 rl1=>⟨by rw [← rs.length];exact h1.1,λp hp=>
  af _ G1 h1.2 _ _ (.tup (SqT.of qT) (rs.keep hr1 (Kp.laid hp))) (hr1.laid hp) (k1.trans (Kp.laid hp))⟩
def qno (h:A3 X es t):E3 X (.List es pos) (VX t):=
 VM (qjG h) λ_ _ _ ⟨τ,G,q,rl,h,af⟩=>ZZ rl h λxs G1 h1 vs H1 rs hr1 k1 rl1=>⟨by rw [← rs.length];exact h1.1,λp hp=>
  af _ _ (h1.2 p (hr1.free hp)) _ _ (.ref p) (hr1.newL hp rs) (k1.trans (Kp.newL hp))⟩
def TU (K:Frg) (r3:List T->Gp->Q3->Prop) (r:List V->Hp->VK->Prop):Prop:=∀ xs vs G H q Q,HR K G H->Rps K H xs vs->r3 xs G q->Aft K G H q Q->r vs H Q
def cb3 (r:List T->Gp->Q3->Prop) (t:TA3):TE3:=λτ G q=>t τ G λxs G1=>r xs G1 q
def qkO {K:Frg} {r3:List T->Gp->Q3->Prop} {r:List V->Hp->VK->Prop} (hr:TU K r3 r) {σ:L2.St} {H:Hp} {Q:VK} (h:lE K (cb3 r3 t) σ H Q):tCB r (lA K t) σ H Q:=by
 obtain ⟨τ,G,q,rl,h,af⟩:=h;exact ZZ rl h λxs G1 h1 vs H1 rs hr1 k1 rl1=>hr xs vs G1 H1 q Q hr1 rs h1 (af.back k1)
def qgD {x:Str} {p:Pos} {id:String} {r3:List T->Gp->Q3->Prop} {r:List V->Hp->VK->Prop} (hc:ZI X (.builtin id) r) (hr:TU X.K r3 r) (hg:Gl X x) (hm:X.mg x=none) (hv:bootBuiltins x=some (.builtin id)) (ha:A3 X (e::es) t) (hn:x≠"__name__" := by decide) (hdb:(x==("__debug__" : Str))=false:=by decide)
  (he:starEach (e::es) X.env=(false,eval e X.env)::starEach es X.env:=by rfl) (hpl:(backTo pos (starEach es X.env)).any (·.1)=false:=by rfl):E3 X (.Call (.Name x p) (e::es) [] pos) (cb3 r3 t):=
 VM (WH hc hg hm hv ha hn hdb he hpl) λ_ _ _ h=>qkO hr h
def qb8 {x:Str} {p:Pos} {ty:String} {r3:List T->Gp->Q3->Prop} {r:List V->Hp->VK->Prop} (hc:ZI X (.type ty) r) (hr:TU X.K r3 r) (hg:Gl X x) (hm:X.mg x=none) (hv:bootBuiltins x=some (.type ty)) (ha:A3 X (e::es) t) (hn:x≠"__name__" := by decide) (hdb:(x==("__debug__" : Str))=false:=by decide)
  (he:starEach (e::es) X.env=(false,eval e X.env)::starEach es X.env:=by rfl) (hpl:(backTo pos (starEach es X.env)).any (·.1)=false:=by rfl):E3 X (.Call (.Name x p) (e::es) [] pos) (cb3 r3 t):=
 VM (MJ hc hg hm hv ha hn hdb he hpl) λ_ _ _ h=>qkO hr h
end
def getL (G:Gp) (p:Addr):Option (List T):=match G p with|some (.lst xs)=>some xs|some (.frz xs)=>some xs|_=>none
section
variable {K:Frg} {G G':Gp} {H H':Hp}
def zz (hr:HR K G H) {p:Addr} {xs:List T} (h:getL G p=some xs):∃ vs,SqL K H p vs/\Rps K H xs vs:=by
 unfold getL at h;split at h
 ·rename_i ys e;cases h;obtain ⟨vs,h1,h2⟩:=hr p _ e;exact ⟨vs,SqL.of h1,h2⟩
 ·rename_i ys e;cases h;obtain ⟨vs,⟨o,h1⟩,h2⟩:=hr p _ e;exact ⟨vs,.inl (.inr ⟨o,h1⟩),h2⟩
 ·cases h
def HR.lst (hr:HR K G H) {p:Addr} {xs:List T} (h:G p=some (.lst xs)):∃ vs,H p=some (.lst vs)/\Rps K H xs vs:=hr p _ h
def Rps.atI {xs:List T} {vs:List V} {i:Int} {x:T} (r:Rps K H xs vs) (h:atI xs i=some x):∃ v,L2.atI vs i=some v/\Rp K H x v:=by
 unfold L2.atI at h ⊢;rw [← r.length];cases e:ixN xs.length i with
 |none=>rw [e] at h;cases h
 |some j=>
  rw [e] at h;exact r.get (by simpa using h)
end
def ix3:R3:=λx y G q=>match x,y with
 |.tup xs,.int i=>(match atI xs i with|some z=>q z G|none=>False)
 |.ref p,.int i=>(match getL G p with|some xs=>(match atI xs i with|some z=>q z G|none=>False)|none=>False)
 |_,_=>False
section
variable {X:Cx} {a b c e:Expr} {es:List Expr} {ta tb tc te:TE3} {t:TA3} {pos:Pos}
def qkn {K:Frg}:UH K ix3 (rIx K):=λx y v u G H q Q hr rx ry h af=>by
 cases x<;>try exact h.elim
 case tup xs=>
  cases y<;>try exact h.elim
  case int i=>
   unfold ix3 at h;simp only at h;split at h
   ·rename_i z e;cases ry;cases rx with
    |tup hs rs=>
     obtain ⟨w,e2,rw'⟩:=rs.atI e;exact .inr (.inl ⟨_,_,i,w,rfl,rfl,hs,e2,af z G h w H rw' hr Kp.refl⟩)
   ·exact h.elim
 case ref p=>
  cases y<;>try exact h.elim
  case int i=>
   unfold ix3 at h;simp only at h;split at h
   ·rename_i xs e0;split at h
    ·rename_i z e;cases ry;cases rx;obtain ⟨vs,hs,rs⟩:=zz hr e0;obtain ⟨w,e2,rw'⟩:=rs.atI e;exact .inl ⟨p,vs,i,w,rfl,rfl,hs,e2,af z G h w H rw' hr Kp.refl⟩
    ·exact h.elim
   ·exact h.elim
def qo3 (ha:E3 X a ta) (hb:E3 X b tb) (hs:WZ b:=by intro _ _;rfl):E3 X (.Subscript a b pos) (o3 ix3 ta tb):=VM (qix qkE ha hb hs) λ_ _ _ h=>qcO qkn h
def XN {α:Type} (xs:List α) (lo hi:Option Int):List α:=(xs.drop (HT.sIx xs.length 0 lo)).take (HT.sIx xs.length xs.length hi-HT.sIx xs.length 0 lo)
def Rps.cut {K:Frg} {H:Hp} {xs:List T} {vs:List V} (r:Rps K H xs vs) (lo hi:Option Int):Rps K H (XN xs lo hi) (qd5 vs lo hi):=by
 unfold XN qd5;rw [r.length];exact (r.drop _).take _
abbrev TO3:=St3->Gp->(Option Int->Gp->Prop)->Prop
def lO (K:Frg) (t:TO3):TO:=λσ H Q=>∃ τ G q,Rel K τ G σ H/\t τ G q/\∀ x G',q x G'->∀ H',HR K G' H'->Kp G H G' H'->Q x H'
abbrev P3 (X:Cx) (e:Option Expr) (t:TO3):Prop:=PO X e (lO X.K t)
def np3:TO3:=λ_ G q=>q none G
def sp3 (t:TE3):TO3:=λτ G q=>t τ G λx G1=>match x with|.int i=>q (some i) G1|_=>False
def qoN {X:Cx} {e:Option Expr} {t t':TO} (h:PO X e t) (w:∀ σ H Q,t' σ H Q->t σ H Q):PO X e t':=λpins s σ H Q I q=>h pins s σ H Q I (w σ H Q q)
def qgZ:P3 X none np3:=qoN qfA λ_ H _ ⟨τ,G,q,rl,h,af⟩=>af none G h H rl.hp Kp.refl
def qiJ (h:E3 X e te):P3 X (some e) (sp3 te):=qoN (qfV h) λ_ _ _ ⟨τ,G,q,rl,h,af⟩=>qQ rl h λx G1 h1 v H1 rx hr1 k1 rl1=>by
 cases x<;>try exact h1.elim
 cases rx;exact ⟨_,rfl,af _ G1 h1 H1 hr1 k1⟩
def sl3:T->Option Int->Option Int->Gp->Q3->Prop:=λx lo hi G q=>match x with
 |.tup xs=>¬ (HT.sIx xs.length 0 lo=0/\HT.sIx xs.length xs.length hi=xs.length)/\q (.tup (XN xs lo hi)) G
 |.ref p=>(match getL G p with|some xs=>∀ a,G a=none->q (.ref a) (gu G a (.lst (XN xs lo hi)))|none=>False)
 |_=>False
def qlW (te:TE3) (tl th:TO3):TE3:=λτ G q=>te τ G λx G1=>tl τ G1 λl G2=>th τ G2 λu G3=>sl3 x l u G3 q
def qfG {lo hi:Option Expr} {tl th:TO3} {p2:Pos} (he:E3 X e te) (hl:P3 X lo tl) (hu:P3 X hi th):E3 X (.Subscript e (.Slice lo hi none p2) pos) (qlW te tl th):=
 VM (W2 (qdw.or ND) he hl hu) λ_ _ _ ⟨τ,G,q,rl,h,af⟩=>qQ rl h λx G1 h1 v H1 rx hr1 k1 rl1=>
  ⟨τ,G1,_,rl1,h1,λl G2 h2 H2 hr2 k2=>⟨τ,G2,_,rl1.next hr2 k2,h2,λu G3 h3 H3 hr3 k3=>by
   have kk:=(k1.trans k2).trans k3;have rx3:=(rx.keep hr1 k2).keep hr2 k3;cases x<;>try exact h3.elim
   case tup xs=>
    cases rx3 with
    |tup hs rs=>
     refine .inl ⟨_,_,rfl,hs,by rw [← rs.length];exact h3.1,λp hp=>?_⟩;exact af _ G3 h3.2 _ _ (.tup (SqT.of qT) ((rs.cut _ _).keep hr3 (Kp.laid hp))) (hr3.laid hp) (kk.trans (Kp.laid hp))
   case ref p=>
    unfold sl3 at h3;simp only at h3;split at h3
    ·rename_i xs e0;cases rx3;obtain ⟨vs,hs,rs⟩:=zz hr3 e0;refine .inr ⟨p,vs,rfl,hs,λa ha=>?_⟩;exact af _ _ (h3 a (hr3.free ha)) _ _ (.ref a) (hr3.newL ha (rs.cut _ _)) (kk.trans (Kp.newL ha))
    ·exact h3.elim⟩⟩
def qat {K:Frg} {H:Hp} {xs:List T} {vs:List V} (r:Rps K H xs vs):vs=[]↔xs=[]:=by
 cases r<;>simp
def jX:R3:=λx y G q=>match x,y with
 |.tup xs,.tup ys=>xs≠[]/\xs.length+ys.length<=sizeLine/\q (.tup (xs++ys)) G
 |.ref a,.ref b=>(match G a,G b with|some (.lst xs),some (.lst ys)=>xs.length+ys.length<=sizeLine/\∀ p,G p=none->q (.ref p) (gu G p (.lst (xs++ys)))|_,_=>False)
 |.int i,.int j=>q (.int (i+j)) G
 |_,_=>False
def WR {K:Frg}:UH K jX (λx y H Q=>(rI0 (λi j=>.int (i+j)) x y H Q\/qf8 K x y H Q)\/qmV x y H Q):=λx y v u G H q Q hr rx ry h af=>by
 cases x<;>try exact h.elim
 case int i=>
  cases y<;>try exact h.elim
  cases rx;cases ry;exact .inl (.inl ⟨_,_,rfl,rfl,af _ G h _ H (.int _) hr Kp.refl⟩)
 case tup xs=>
  cases y<;>try exact h.elim
  case tup ys=>
   obtain ⟨h1,h2,h3⟩:=h;cases rx with
   |tup hs rs=>
    cases ry with
    |tup hs' rs'=>
     refine .inl (.inr ⟨_,_,_,_,rfl,rfl,hs,hs',λz=>h1 ((qat rs).mp z),by rw [← rs.length,← rs'.length];exact h2,λz=>?_,λz p hp=>?_⟩)
     ·have e:=(qat rs').mp z;subst e;rw [List.append_nil] at h3;exact af _ G h3 _ H (.tup hs rs) hr Kp.refl
     ·exact af _ G h3 _ _ (.tup (SqT.of qT) ((rs.append rs').keep hr (Kp.laid hp))) (hr.laid hp) (Kp.laid hp)
 case ref a=>
  cases y<;>try exact h.elim
  case ref b=>
   unfold jX at h;simp only at h;split at h
   ·rename_i xs ys e1 e2;cases rx;cases ry;obtain ⟨vs,g1,r1⟩:=hr.lst e1;obtain ⟨us,g2,r2⟩:=hr.lst e2;refine .inr ⟨a,b,vs,us,rfl,rfl,g1,g2,by rw [← r1.length,← r2.length];exact h.1,λp hp=>?_⟩;exact af _ _ (h.2 p (hr.free hp)) _ _ (.ref p) (hr.newL hp (r1.append r2)) (Kp.newL hp)
   ·exact h.elim
def qju (ha:E3 X a ta) (hb:E3 X b tb):E3 X (.BinOp a .Add b pos) (o3 jX ta tb):=qfu ((qeK.or M6).or qdv) WR ha hb
def U8:List T->Gp->Q3->Prop:=λxs G q=>match xs with
 |[.tup ys]=>q (.int ys.length) G
 |[.str y]=>y.length<=sizeLine/\q (.int y.length) G
 |[.ref p]=>(match getL G p with|some ys=>q (.int ys.length) G|none=>False)
 |_=>False
def XV {K:Frg} {H:Hp} {x:T} {vs:List V} (r:Rps K H [x] vs):∃ v,vs=[v]/\Rp K H x v:=by
 cases r with
 |cons a b=>cases b;exact ⟨_,rfl,a⟩
def qmJ {K:Frg} {H:Hp} {x y:T} {vs:List V} (r:Rps K H [x,y] vs):∃ v u,vs=[v,u]/\Rp K H x v/\Rp K H y u:=by
 cases r with
 |cons a b=>cases b with|cons c d=>cases d;exact ⟨_,_,rfl,a,c⟩
def jf {K:Frg}:TU K U8 (λxs H Q=>∃ x n,xs=[x]/\qoM K x H n/\Q (.int n) H):=λxs vs G H q Q hr rs h af=>by
 unfold U8 at h;split at h
 ·obtain ⟨v,rfl,r⟩:=XV rs;cases r with
  |tup hs r2=>exact ⟨_,_,rfl,.inr ⟨_,hs,rfl⟩,by rw [← r2.length];exact af _ G h _ H (.int _) hr Kp.refl⟩
 ·obtain ⟨v,rfl,r⟩:=XV rs;cases r;exact ⟨_,_,rfl,⟨h.1,rfl⟩,af _ G h.2 _ H (.int _) hr Kp.refl⟩
 ·obtain ⟨v,rfl,r⟩:=XV rs;split at h
  ·rename_i ys e;cases r;obtain ⟨us,hs,r2⟩:=zz hr e;exact ⟨_,_,rfl,.inl ⟨_,hs,rfl⟩,by rw [← r2.length];exact af _ G h _ H (.int _) hr Kp.refl⟩
  ·exact h.elim
 ·exact h.elim
def qkH:List T->Gp->Q3->Prop:=λxs G q=>match xs with|[.int i]=>q (.int (if i<0 then -i else i)) G|_=>False
def qaH {K:Frg}:TU K qkH (λxs H Q=>∃ i,xs=[.int i]/\Q (.int (if i<0 then -i else i)) H):=λxs vs G H q Q hr rs h af=>by
 unfold qkH at h;split at h
 ·obtain ⟨v,rfl,r⟩:=XV rs;cases r;exact ⟨_,rfl,af _ G h _ H (.int _) hr Kp.refl⟩
 ·exact h.elim
def qh7:List T->Gp->Q3->Prop:=λxs G q=>match xs with|[.int i,.int j]=>q (.int (if j<i then j else i)) G|_=>False
def qfm {K:Frg}:TU K qh7 (λxs H Q=>∃ i j,xs=[.int i,.int j]/\Q (.int (if j<i then j else i)) H):=λxs vs G H q Q hr rs h af=>by
 unfold qh7 at h;split at h
 ·obtain ⟨v,u,rfl,r,r'⟩:=qmJ rs;cases r;cases r';exact ⟨_,_,rfl,af _ G h _ H (.int _) hr Kp.refl⟩
 ·exact h.elim
def KQ:List T->Gp->Q3->Prop:=λxs G q=>match xs with|[.int i]=>q (.int i) G|[.bl k]=>q (.int (if k then 1 else 0)) G|_=>False
def EZ {K:Frg}:TU K KQ (λxs H Q=>(∃ i,xs=[.int i]/\Q (.int i) H)\/∃ k,xs=[.bl k]/\Q (.int (if k then 1 else 0)) H):=λxs vs G H q Q hr rs h af=>by
 unfold KQ at h;split at h
 ·obtain ⟨v,rfl,r⟩:=XV rs;cases r;exact .inl ⟨_,rfl,af _ G h _ H (.int _) hr Kp.refl⟩
 ·obtain ⟨v,rfl,r⟩:=XV rs;cases r;exact .inr ⟨_,rfl,af _ G h _ H (.int _) hr Kp.refl⟩
 ·exact h.elim
def JM:List T->Gp->Q3->Prop:=λxs G q=>match xs with
 |[.tup ys]=>q (.tup ys) G
 |[.ref p]=>(match getL G p with|some ys=>q (.tup ys) G|none=>False)
 |_=>False
def YK {K:Frg}:TU K JM (λxs H Q=>∃ p ys,xs=[.ref p]/\((SqL K H p ys/\∀ l,H l=none->Q (.ref l) (upd H l (.tup ys)))\/(SqT K H p ys/\Q (.ref p) H))):=λxs vs G H q Q hr rs h af=>by
 unfold JM at h;split at h
 ·obtain ⟨v,rfl,r⟩:=XV rs;cases r with
  |tup hs r2=>exact ⟨_,_,rfl,.inr ⟨hs,af _ G h _ H (.tup hs r2) hr Kp.refl⟩⟩
 ·obtain ⟨v,rfl,r⟩:=XV rs;split at h
  ·rename_i ys e;cases r;obtain ⟨us,hs,r2⟩:=zz hr e;exact ⟨_,_,rfl,.inl ⟨hs,λl hl=>af _ G h _ _ (.tup (SqT.of qT) (r2.keep hr (Kp.laid hl))) (hr.laid hl) (Kp.laid hl)⟩⟩
  ·exact h.elim
 ·exact h.elim
def M4:List T->Gp->Q3->Prop:=λxs G q=>match xs with
 |[.tup ys]=>∀ p,G p=none->q (.ref p) (gu G p (.lst ys))
 |[.ref p]=>(match getL G p with|some ys=>∀ p,G p=none->q (.ref p) (gu G p (.lst ys))|none=>False)
 |_=>False
def qcC {K:Frg}:TU K M4 (λxs H Q=>∃ p ys,xs=[.ref p]/\(SqL K H p ys\/SqT K H p ys)/\∀ l,H l=none->Q (.ref l) (upd H l (.lst ys))):=λxs vs G H q Q hr rs h af=>by
 unfold M4 at h;split at h
 ·obtain ⟨v,rfl,r⟩:=XV rs;cases r with
  |tup hs r2=>exact ⟨_,_,rfl,.inr hs,λl hl=>af _ _ (h l (hr.free hl)) _ _ (.ref l) (hr.newL hl r2) (Kp.newL hl)⟩
 ·obtain ⟨v,rfl,r⟩:=XV rs;split at h
  ·rename_i ys e;cases r;obtain ⟨us,hs,r2⟩:=zz hr e;exact ⟨_,_,rfl,.inl hs,λl hl=>af _ _ (h l (hr.free hl)) _ _ (.ref l) (hr.newL hl r2) (Kp.newL hl)⟩
  ·exact h.elim
 ·exact h.elim
def MC:T->List T->Gp->Q3->Prop:=λx xs G q=>match x,xs with
 |.ref l,[y]=>(match G l with|some (.lst ys)=>ys.length<sizeLine/\q .non (gu G l (.lst (ys++[y])))|_=>False)
 |_,_=>False
def qgR (K:Frg) (r3:T->List T->Gp->Q3->Prop) (r:V->List V->Hp->VK->Prop):Prop:=∀ x xs v vs G H q Q,HR K G H->Rp K H x v->Rps K H xs vs->r3 x xs G q->Aft K G H q Q->r v vs H Q
def qfI {K:Frg}:qgR K MC qaZ:=λx xs v vs G H q Q hr rx rs h af=>by
 unfold MC at h;split at h
 ·rename_i l y;split at h
  ·rename_i ys e1;cases rx;obtain ⟨u,rfl,r⟩:=XV rs;obtain ⟨vs,g1,r1⟩:=hr.lst e1;exact ⟨l,vs,u,rfl,rfl,g1,by rw [← r1.length];exact h.1,af _ _ h.2 _ _ .non (hr.wr e1 (r1.append (.cons r .nil))) (Kp.wr e1)⟩
  ·exact h.elim
 ·exact h.elim
def bm3 (r:T->List T->Gp->Q3->Prop) (to:TE3) (t:TA3):TE3:=λτ G q=>to τ G λx G1=>(match x with|.ref p=>(getL G1 p).isSome=true|_=>False)/\t τ G1 λxs G2=>r x xs G2 q
def qpc {o:Expr} {to:TE3} {name:Str} {apos cpos:Pos} {id:String} {r3:T->List T->Gp->Q3->Prop} {r:V->List V->Hp->VK->Prop} (slot:Slot "list" name id) (hty:typeOf (.builtin id)=pure (.type "method_descriptor")) (hm:MtR X id r) (hr:qgR X.K r3 r) (ho:E3 X o to) (ha:A3 X (e::es) t)
  (hbase:attributeBase o name X.env (eval o X.env)=eval o X.env:=by rfl)
  (hfew:((backTo cpos (starEach (e::es) X.env)).all (λx=>!x.1)&&(backToKw cpos (keywordEach [] X.env)).all (λx=>x.1.isSome)
   && decide ((e::es).length+([]:List Keyword).length+(if ([]:List Keyword).isEmpty then 0 else 1)<30))=true:=by rfl)
  (hline:(apos.endLine==cpos.line)=true:=by rfl) (hs:starEach (e::es) X.env=(false,eval e X.env)::starEach es X.env:=by rfl) (hplain:(backTo cpos (starEach es X.env)).any (·.1)=false:=by rfl) :
  E3 X (.Call (.Attribute o name apos) (e::es) [] cpos) (bm3 r3 to t):=
 VM (qjy PySem.F.plainAttrs_list slot hty hm ho ha hbase hfew hline hs hplain) λ_ _ _ ⟨τ,G,q,rl,h,af⟩=>qQ rl h λx G1 h1 v H1 rx hr1 k1 rl1=>by
  obtain ⟨hp,h1⟩:=h1;cases x<;>try exact hp.elim
  case ref p=>
   cases rx;have hp':(getL G1 p).isSome=true:=hp;obtain ⟨ys,e⟩:=Option.isSome_iff_exists.mp hp';obtain ⟨us,hs,r2⟩:=zz hr1 e;exact ⟨.inl ⟨rfl,us,hs⟩,ZZ rl1 h1 λxs G2 h2 vs H2 rs hr2 k2 rl2=>hr _ xs _ vs G2 H2 q _ hr2 (.ref p) rs h2 (af.back (k1.trans k2))⟩
def qbD {o:Expr} {to:TE3} {apos cpos:Pos} (ho:E3 X o to) (ha:A3 X [e] t)
  (hbase:attributeBase o "append" X.env (eval o X.env)=eval o X.env:=by rfl)
  (hfew:((backTo cpos (starEach [e] X.env)).all (λx=>!x.1)&&(backToKw cpos (keywordEach [] X.env)).all (λx=>x.1.isSome)
   && decide (([e]:List Expr).length+([]:List Keyword).length+(if ([]:List Keyword).isEmpty then 0 else 1)<30))=true:=by rfl)
  (hline:(apos.endLine==cpos.line)=true:=by rfl) (hs:starEach [e] X.env=(false,eval e X.env)::starEach [] X.env:=by rfl) (hplain:(backTo cpos (starEach [] X.env)).any (·.1)=false:=by rfl) :
  E3 X (.Call (.Attribute o "append" apos) [e] [] cpos) (bm3 MC to t):=qpc PySem.F.slot_list_append PySem.F.type_list_append EG qfI ho ha hbase hfew hline hs hplain
end
def tyT (G:Gp):T->Option String
 |.non=>some "NoneType" |.bl _=>some "bool" |.int _=>some "int" |.str _=>some "str" |.tup _=>some "tuple"
 |.ref p=>if (getL G p).isSome then some "list" else none
def j2 (t c:String):Bool:=t==c||(t == "bool" && c == "int")
def XW (K:Frg):∀ t∈["NoneType","bool","int","str","tuple","list"],∀ c∈["bool","int","str","tuple","list"],PySem.W.kitOne K (.type t) (.type c)=some (j2 t c):=by
 intro t ht c hc;simp only [mem_cons,not_mem_nil,or_false] at ht hc;rcases ht with rfl|rfl|rfl|rfl|rfl|rfl<;>rcases hc with rfl|rfl|rfl|rfl|rfl<;>kernel_rfl
section
variable {X:Cx} {a b c e:Expr} {es:List Expr} {ta tb tc te:TE3} {t:TA3} {pos:Pos}
def TyS (K:Frg) (H:Hp) (x:V) (t:String):Prop:=match x with
 |.non=>t="NoneType" |.bl _=>t="bool" |.int _=>t="int" |.str _=>t="str"
 |.ref a=>(t="tuple"/\∃ vs,SqT K H a vs)\/(t="list"/\∃ vs,SqL K H a vs)
 |_=>False
def TyS.mem {K:Frg} {H:Hp} {x:V} {t:String} (h:TyS K H x t):t∈["NoneType","bool","int","str","tuple","list"]:=by
 cases x<;>simp [TyS] at h<;>first|(subst h;decide)|(rcases h with ⟨rfl,_⟩|⟨rfl,_⟩<;>decide)
def TyS.kitx {pins:List (Addr×Obj)} {σ:L2.St} {H:Hp} {s:Shared} {x:V} {u:Value} {t:String} (I:Inv X pins σ H s) (rx:jt x u) (h:TyS X.K H x t) :
  ∃ HH:Heap->Prop,PySem.W.KitX X.K u (.type t) HH/\HH s.heap/\u≠.builtin "__main__.__loader__#opaque" := by
 cases x with
 |non=>cases (show u=Value.none from rx);cases (show t=_ from h);exact ⟨_,PySem.W.kitx_none,True.intro,λz=>nomatch z⟩
 |bl y=>cases (show u=Value.bool y from rx);cases (show t=_ from h);exact ⟨_,PySem.W.kitx_bool,True.intro,λz=>nomatch z⟩
 |int i=>obtain ⟨tk,q⟩:=(show ∃ t,u=Value.int i t from rx);cases q;cases (show t=_ from h);exact ⟨_,PySem.W.kitx_int,True.intro,λz=>nomatch z⟩
 |str y=>obtain ⟨tk,q⟩:=(show ∃ t,u=Value.str y t from rx);cases q;cases (show t=_ from h);exact ⟨_,PySem.W.kitx_str,True.intro,λz=>nomatch z⟩
 |ref a=>
  cases (show u=Value.ref a from rx);rcases (show (t="tuple"/\∃ vs,SqT X.K H a vs)\/(t="list"/\∃ vs,SqL X.K H a vs) from h) with ⟨rfl,vs,hs⟩|⟨rfl,vs,hs⟩
  ·obtain ⟨its,_,p,_⟩:=I.tuple hs;obtain ⟨o,h1,h2,_⟩:=p;exact ⟨_,PySem.W.kitx_tuple,⟨o,h1,h2⟩,λz=>nomatch z⟩
  ·obtain ⟨its,_,p,_⟩:=I.list hs;obtain ⟨o,n,h1,h2,_⟩:=p;exact ⟨_,PySem.W.kitx_list,⟨o,h1,h2⟩,λz=>nomatch z⟩
 |_=>exact False.elim h
abbrev jT:List String:=["bool","int","str","tuple","list"]
def qb3:ZI X (.builtin "isinstance") (λxs H Q=>∃ x t c,xs=[x,.ty c]/\TyS X.K H x t/\c∈jT/\Q (.bl (j2 t c)) H):=by
 intro pins s σ H xs us Q I r h;obtain ⟨x,t,c,rfl,ht,hc,q⟩:=h;obtain ⟨u,w,rfl,rx,rc⟩:=qbm r;cases (show w=Value.type c from rc);obtain ⟨HH,kx,hh,ne⟩:=ht.kitx I rx;exact PySem.W.kia_one kx I.kIn hh (XW X.K t ht.mem c hc) ne λtk=>⟨.bl _,H,I.tok tk,rfl,q⟩
def qcG (K:Frg) {t c d:String} (ht:t∈["NoneType","bool","int","str","tuple","list"]) (hc:c∈jT) (hd:d∈jT):PySem.W.kitAny K (.type t) [.type c,.type d]=some (j2 t c||j2 t d):=by
 unfold PySem.W.kitAny;rw [XW K t ht c hc];cases j2 t c with
 |true=>rfl
 |false=>
  show PySem.W.kitAny K (.type t) [.type d]=_;unfold PySem.W.kitAny;rw [XW K t ht d hd];cases j2 t d<;>rfl
def NR:ZI X (.builtin "isinstance") (λxs H Q=>∃ x t c d p,xs=[x,.ref p]/\H p=some (.tup [.ty c,.ty d])/\TyS X.K H x t/\c∈jT/\d∈jT/\Q (.bl (j2 t c||j2 t d)) H):=by
 intro pins s σ H xs us Q I r h;obtain ⟨x,t,c,d,p,rfl,hp,ht,hc,hd,q⟩:=h;obtain ⟨u,w,rfl,rx,rc⟩:=qbm r;cases (show w=Value.ref p from rc);obtain ⟨HH,kx,hh,ne⟩:=ht.kitx I rx;obtain ⟨_,its,rv,⟨o,ho,hcl,n,hda,_⟩⟩:=(show ZN X.prog X.w H s.heap p (.tup [.ty c,.ty d]) from I.hok p _ hp)
 obtain ⟨u1,u2,rfl,r1,r2⟩:=qbm rv;cases (show u1=Value.type c from r1);cases (show u2=Value.type d from r2);obtain ⟨cl,dd,da,sl⟩:=o;cases (show cl=_ from hcl);cases (show da=_ from hda);exact PySem.W.kia_tup kx I.kIn hh ho (qcG X.K ht.mem hc hd) ne λtk=>⟨.bl _,H,I.tok tk,rfl,q⟩
def qeu {K:Frg} {G:Gp} {H:Hp} (hr:HR K G H) {x:T} {v:V} {t:String} (r:Rp K H x v) (h:tyT G x=some t):TyS K H v t:=by
 cases r with
 |non=>cases h;rfl
 |bl _=>cases h;rfl
 |int _=>cases h;rfl
 |str _=>cases h;rfl
 |tup hs rs=>cases h;exact .inl ⟨rfl,_,hs⟩
 |ref a=>
  have h:(if (getL G a).isSome then some "list" else none)=some t:=h;split at h
  ·rename_i e;cases h;obtain ⟨ys,e⟩:=Option.isSome_iff_exists.mp e;obtain ⟨us,hs,_⟩:=zz hr e;exact .inr ⟨rfl,us,hs⟩
  ·cases h
def EX (f:String->Bool) (te:TE3):TE3:=λτ G q=>te τ G λx G1=>match tyT G1 x with|some t=>q (.bl (f t)) G1|none=>False
def qmE {tn:Str} {ty:String} {p p2:Pos} (he:E3 X e te) (hg:Gl X "isinstance") (hm:X.mg "isinstance" = none) (hg2:Gl X tn) (hm2:X.mg tn=none) (hv:bootBuiltins tn=some (.type ty)) (hmem:ty∈jT:=by decide) (hn:tn≠"__name__" := by decide) (hdb:(tn==("__debug__" : Str))=false:=by decide)
  (hs:starEach [e,.Name tn p2] X.env=(false,eval e X.env)::starEach [.Name tn p2] X.env:=by rfl) (hs2:starEach [.Name tn p2] X.env=(false,eval (.Name tn p2) X.env)::starEach [] X.env:=by rfl) (hpl:(backTo pos (starEach [.Name tn p2] X.env)).any (·.1)=false:=by rfl) :
  E3 X (.Call (.Name "isinstance" p) [e,.Name tn p2] [] pos) (EX (λt=>j2 t ty) te):=
 VM (WH qb3 hg hm PyProof.Rows.boot_isinstance (JQ he (JQ (RP (v:=.ty ty) hg2 hm2 hv rfl hn hdb) SV hs2) hs) (by decide) (by decide) hs hpl)
  λ_ _ _ ⟨τ,G,q,rl,h,af⟩=>qQ rl h λx G1 h1 v H1 rx hr1 k1 rl1=>by
   split at h1
   ·rename_i t e1;exact ⟨_,t,ty,rfl,qeu hr1 rx e1,hmem,af _ G1 h1 _ H1 (.bl _) hr1 k1⟩
   ·exact h1.elim
def qiP {tn tn':Str} {ty ty':String} {p p2 p3 p4:Pos} {x1} (he:E3 X e te) (hg:Gl X "isinstance") (hm:X.mg "isinstance" = none) (hg2:Gl X tn) (hm2:X.mg tn=none) (hv:bootBuiltins tn=some (.type ty)) (hg3:Gl X tn') (hm3:X.mg tn'=none) (hv3:bootBuiltins tn'=some (.type ty'))
  (hmem:ty∈jT:=by decide) (hn:tn≠"__name__" := by decide) (hdb:(tn==("__debug__" : Str))=false:=by decide) (hmem3:ty'∈jT:=by decide) (hn3:tn'≠"__name__" := by decide) (hdb3:(tn'==("__debug__" : Str))=false:=by decide)
  (hs:starEach [e,.Tuple [.Name tn p2,.Name tn' p3] x1 p4] X.env=(false,eval e X.env)::starEach [.Tuple [.Name tn p2,.Name tn' p3] x1 p4] X.env:=by rfl) (hs2:starEach [.Tuple [.Name tn p2,.Name tn' p3] x1 p4] X.env=(false,eval (.Tuple [.Name tn p2,.Name tn' p3] x1 p4) X.env)::starEach [] X.env:=by rfl)
  (hs3:starEach [.Name tn p2,.Name tn' p3] X.env=(false,eval (.Name tn p2) X.env)::starEach [.Name tn' p3] X.env:=by rfl) (hs4:starEach [.Name tn' p3] X.env=(false,eval (.Name tn' p3) X.env)::starEach [] X.env:=by rfl)
  (hpl:(backTo pos (starEach [.Tuple [.Name tn p2,.Name tn' p3] x1 p4] X.env)).any (·.1)=false:=by rfl) :
  E3 X (.Call (.Name "isinstance" p) [e,.Tuple [.Name tn p2,.Name tn' p3] x1 p4] [] pos) (EX (λt=>j2 t ty||j2 t ty') te):=
 VM (WH NR hg hm PyProof.Rows.boot_isinstance (JQ he (JQ (qdM (JQ (RP (v:=.ty ty) hg2 hm2 hv rfl hn hdb) (JQ (RP (v:=.ty ty') hg3 hm3 hv3 rfl hn3 hdb3) SV hs4) hs3)) SV hs2) hs) (by decide) (by decide) hs hpl)
  λ_ _ _ ⟨τ,G,q,rl,h,af⟩=>qQ rl h λx G1 h1 v H1 rx hr1 k1 rl1=>by
   refine ⟨by show 2<=sizeLine;decide,λpp hp=>?_⟩;split at h1
   ·rename_i t e1;have hr2:=hr1.laid (ho:=.tup [.ty ty,.ty ty']) hp;have kk:Kp G1 H1 G1 (upd H1 pp (.tup [.ty ty,.ty ty'])):=Kp.laid hp;exact ⟨_,t,ty,ty',pp,rfl,qT,qeu hr2 (rx.keep hr1 kk) e1,hmem,hmem3,af _ G1 h1 _ _ (.bl _) hr2 (k1.trans kk)⟩
   ·exact h1.elim
structure Ends3 where
 nx:St3->Gp->Prop
 rt:Q3
 bk:St3->Gp->Prop:=λ_ _=>False
 ct:St3->Gp->Prop:=λ_ _=>False
abbrev TS3:=Ends3->St3->Gp->Prop
def qdU (K:Frg) (G:Gp) (H:Hp) (q:St3->Gp->Prop) (Q:L2.St->Hp->Prop):Prop:=∀ τ G',q τ G'->∀ σ H',Rel K τ G' σ H'->Kp G H G' H'->Q σ H'
structure AftD (K:Frg) (G:Gp) (H:Hp) (d:Ends3) (D:Ends):Prop where
 nx:qdU K G H d.nx D.nx
 rt:Aft K G H d.rt D.rt
 bk:qdU K G H d.bk D.bk
 ct:qdU K G H d.ct D.ct
def qdU.back {K:Frg} {G G1:Gp} {H H1:Hp} {q:St3->Gp->Prop} {Q:L2.St->Hp->Prop} (a:qdU K G H q Q) (k:Kp G H G1 H1):qdU K G1 H1 q Q:=λx G' h v H' r k'=>a x G' h v H' r (k.trans k')
def AftD.back {K:Frg} {G G1:Gp} {H H1:Hp} {d:Ends3} {D:Ends} (a:AftD K G H d D) (k:Kp G H G1 H1):AftD K G1 H1 d D:=⟨a.nx.back k,a.rt.back k,a.bk.back k,a.ct.back k⟩
def lS (K:Frg) (t:TS3):TS:=λD σ H=>∃ τ G d,Rel K τ G σ H/\t d τ G/\AftD K G H d D
abbrev S3 (X:Cx) (st:Stmt) (t:TS3):Prop:=PS X st (lS X.K t)
abbrev B3 (X:Cx) (st:List Stmt) (t:TS3):Prop:=PSs X st (lS X.K t)
def qeN {X:Cx} {st:Stmt} {t t':TS} (h:PS X st t) (w:∀ D σ H,t' D σ H->t D σ H):PS X st t':=λpins s σ H D I q=>h pins s σ H D I (w D σ H q)
def qg8 {X:Cx} {st:List Stmt} {t t':TS} (h:PSs X st t) (w:∀ D σ H,t' D σ H->t D σ H):PSs X st t':=λpins s σ H D I q=>h pins s σ H D I (w D σ H q)
variable {st:Stmt} {jk:List Stmt} {t1 t2:TS3} {tA:TT3}
def qS:TS3:=λd τ G=>d.nx τ G
def zd (t u:TS3):TS3:=λd τ G=>t { d with nx:=u d } τ G
def qnW:B3 X [] qS:=qg8 qgu λ_ σ H ⟨τ,G,d,rl,h,af⟩=>af.nx τ G h σ H rl Kp.refl
def qh8 (h1:S3 X st t1) (h2:B3 X jk t2):B3 X (st::jk) (zd t1 t2):=qg8 (qb5 h1 h2) λD σ H ⟨τ,G,d,rl,h,af⟩=>
 ⟨τ,G,{ d with nx:=t2 d },rl,h,⟨λτ' G' h' σ' H' rl' k'=>⟨τ',G',d,rl',h',af.back k'⟩,af.rt,af.bk,af.ct⟩⟩
def qng (h1:S3 X st t1):B3 X [st] t1:=qfC h1
def E6 (te:TE3):TS3:=λd τ G=>te τ G λ_ G1=>d.nx τ G1
def qiF (he:E3 X e te) (hs:swapsWith e none pos.line X.env=pure false:=by rfl):S3 X (.Expr e pos) (E6 te):=qeN (qgJ he hs) λ_ σ H ⟨τ,G,d,rl,h,af⟩=>
 qQ rl h λx G1 h1 v H1 rx hr1 k1 rl1=>af.nx τ G1 h1 σ H1 rl1 k1
def zh (te:TE3):TS3:=λd τ G=>te τ G d.rt
def qmY (he:E3 X e te):S3 X (.Return (some e) pos) (zh te):=qeN (qih he) λ_ σ H ⟨τ,G,d,rl,h,af⟩=>⟨τ,G,d.rt,rl,h,af.rt⟩
def jx (c:TT3) (t u:TS3):TS3:=λd τ G=>c τ G λk G1=>if k=true then t d τ G1 else u d τ G1
def qpB {c:Expr} {ba bb:List Stmt} (hc:C3 X c tA) (ha:B3 X ba t1) (hb:B3 X bb t2):S3 X (.If c ba bb pos) (jx tA t1 t2):=qeN (qnF hc ha hb) λ_ σ H ⟨τ,G,d,rl,h,af⟩=>
 KM rl h λk G1 h1 H1 hr1 k1 rl1=>by
  cases k with
  |true=>rw [if_pos rfl] at h1 ⊢;exact ⟨τ,G1,d,rl1,h1,af.back k1⟩
  |false=>rw [if_neg Bool.false_ne_true] at h1 ⊢;exact ⟨τ,G1,d,rl1,h1,af.back k1⟩
def qe9:TS3:=λ_ _ _=>False
def qeY {sts:List Stmt}:B3 X sts qe9:=λ_ _ _ _ _ _ ⟨_,_,_,_,h,_⟩=>h.elim
abbrev TG3:=T->St3->Gp->(St3->Gp->Prop)->Prop
abbrev XX:=List T->St3->Gp->(St3->Gp->Prop)->Prop
def lG (K:Frg) (t:TG3):TG:=λv σ H Q=>∃ x τ G q,Rp K H x v/\Rel K τ G σ H/\t x τ G q/\qdU K G H q Q
def lGs (K:Frg) (t:XX):TGs:=λv σ H Q=>∃ x τ G q,Rps K H x v/\Rel K τ G σ H/\t x τ G q/\qdU K G H q Q
abbrev G3 (X:Cx) (e:Expr) (t:TG3):Prop:=PG X e (lG X.K t)
abbrev Gs3 (X:Cx) (es:List Expr) (t:XX):Prop:=PGs X es (lGs X.K t)
def qlC {X:Cx} {e:Expr} {t t':TG} (h:PG X e t) (w:∀ v σ H Q,t' v σ H Q->t v σ H Q):PG X e t':=λpins s σ H v u Q I r q=>h pins s σ H v u Q I r (w v σ H Q q)
def qiN {X:Cx} {e:List Expr} {t t':TGs} (h:PGs X e t) (w:∀ v σ H Q,t' v σ H Q->t v σ H Q):PGs X e t':=λpins s σ H v u Q I r q=>h pins s σ H v u Q I r (w v σ H Q q)
def gn3 (i:Nat):TG3:=λx τ G q=>q (τ.set i (some x)) G
def qiU {i:Nat} {x:Str} (hN:X.N.Nodup) (hi:X.N[i]?=some x:=by rfl) (hx:Loc X.env.scope x:=by first|exact Or.inl rfl|exact Or.inr rfl) (hf:X.fn x=true\/X.env.scope.names.lookup x=some .local:=by first|exact .inl rfl|exact .inr rfl):G3 X (.Name x pos) (gn3 i):=
 qlC (qfb hN hi hx hf) λv σ H Q ⟨x,τ,G,q,rx,rl,h,af⟩=>af _ G h _ H (rl.set i rx) Kp.refl
def UA:XX:=λxs τ G q=>match xs with|[]=>q τ G|_=>False
def zL (t:TG3) (u:XX):XX:=λxs τ G q=>match xs with|x::r=>t x τ G λτ' G'=>u r τ' G' q|[]=>False
def ql8:Gs3 X [] UA:=qiN qgE λv σ H Q ⟨x,τ,G,q,rx,rl,h,af⟩=>by
 cases rx with
 |nil=>exact ⟨rfl,af _ G h _ H rl Kp.refl⟩
 |cons _ _=>exact h.elim
def qhH {tg:TG3} {tgs:XX} (h1:G3 X e tg) (h2:Gs3 X es tgs) (hs:(assignEach (e::es) X.env).map (·.2)=assign e X.env::(assignEach es X.env).map (·.2):=by rfl):Gs3 X (e::es) (zL tg tgs):=qiN (qcB h1 h2 hs) λv σ H Q ⟨x,τ,G,q,rx,rl,h,af⟩=>by
 cases rx with
 |nil=>exact h.elim
 |cons r rs=>exact ⟨_,_,rfl,_,τ,G,_,r,rl,h,λτ' G' h' σ' H' rl' k'=>⟨_,τ',G',q,rs.keep rl.hp k',rl',h',af.back k'⟩⟩
def DK (n:Nat) (t:XX):TG3:=λx τ G q=>match x with|.tup xs=>xs.length=n/\t xs τ G q|_=>False
def qoj {k:Nat} {tgs:XX} {n:Nat} (hc:X.calm=true) (h:Gs3 X es tgs) (hn:(assignEach es X.env).length=n:=by rfl) (hst:(assignEach es X.env).findIdx? (·.1)=none:=by rfl):G3 X (.Tuple es k pos) (DK n tgs):=
 qlC (qjl hc h hn hst) λv σ H Q ⟨x,τ,G,q,rx,rl,h,af⟩=>by
  cases x<;>try exact h.elim
  case tup xs=>
   cases rx with
   |tup hs rs=>exact ⟨_,_,rfl,hs,by rw [← rs.length];exact h.1,_,τ,G,q,rs,rl,h.2,af⟩
def qfp:T->T->T->Gp->(Gp->Prop)->Prop:=λo i v G q=>match o,i with
 |.ref p,.int k=>(match G p with|some (.lst xs)=>(match ixN xs.length k with|some j=>q (gu G p (.lst (xs.set j v)))|none=>False)|_=>False)
 |_,_=>False
def WN (to ti:TE3):TG3:=λx τ G q=>to τ G λo G1=>ti τ G1 λi G2=>qfp o i x G2 λG3=>q τ G3
def qmS {o i : Expr} {to ti : TE3} (ho : E3 X o to) (hi : E3 X i ti) (ha : ∀ v,assign (.Subscript o i pos) X.env v = (do
      let ov←holding [v] (eval o X.env)
      let iv←holding [v,ov] (eval i X.env)
      standAt pos
      holding [v,ov,iv] (setItem ov iv v)
      release [v,ov,iv] []):=by intro _;rfl):G3 X (.Subscript o i pos) (WN to ti):=
  qlC (qhX ho hi qcL ha) λv σ H Q ⟨x,τ,G,q,rx,rl,h,af⟩=>qQ rl h λy G1 h1 u H1 ry hr1 k1 rl1=>qQ rl1 h1 λz G2 h2 w H2 rz hr2 k2 rl2=>by
    have rx2:=(rx.keep rl.hp k1).keep hr1 k2;have ry2:=ry.keep hr1 k2;unfold qfp at h2;split at h2
    · rename_i p k;split at h2
      · rename_i xs e;split at h2
        · rename_i j ej;cases ry2;cases rz;obtain ⟨vs,g1,r1⟩:=hr2.lst e;have kk:Kp G2 H2 (gu G2 p (.lst (xs.set j x))) (upd H2 p (.lst (vs.set j v))):=Kp.wr e;exact ⟨p,vs,k,j,rfl,rfl,g1,by rw [← r1.length];exact ej,af τ _ h2 σ _ (rl2.next (hr2.wr e (r1.set rx2 j)) kk) ((k1.trans k2).trans kk)⟩
        · exact h2.elim
      · exact h2.elim
    · exact h2.elim
def jc (te:TE3) (g:TG3):TS3:=λd τ G=>te τ G λx G1=>g x τ G1 d.nx
def qnY {tg e:Expr} {g:TG3} (he:E3 X e te) (hg:G3 X tg g) (hs:swapsWithSole [tg] e pos.line X.env=pure false:=by rfl) (hw:swappedStores [tg] e X.env=pure none:=by rfl)
  (h1:(assignEach [tg] X.env).map (·.2)=[assign tg X.env]:=by rfl):S3 X (.Assign [tg] e pos) (jc te g):=qeN (qhi he hg hs hw h1) λ_ σ H ⟨τ,G,d,rl,h,af⟩=>
 qQ rl h λx G1 h1 v H1 rx hr1 k1 rl1=>⟨x,τ,G1,d.nx,rx,rl1,h1,af.nx.back k1⟩
def qmW (i:Nat) {x:Str} {e:Expr} {pos':Pos} (hN:X.N.Nodup) (he:E3 X e te) (hi:X.N[i]?=some x:=by rfl) (hx:Loc X.env.scope x:=by first|exact Or.inl rfl|exact Or.inr rfl) (hs:swapsWith e (some (.Name x pos')) pos.line X.env=pure false:=by rfl) (hf:X.fn x=true\/X.env.scope.names.lookup x=some .local:=by first|exact .inl rfl|exact .inr rfl) :
  S3 X (.Assign [.Name x pos'] e pos) (jc te (gn3 i)):=qeN (qld hN hi hx he hs hf) λ_ σ H ⟨τ,G,d,rl,h,af⟩=>
 qQ rl h λx G1 h1 v H1 rx hr1 k1 rl1=>af.nx _ G1 h1 _ H1 (rl1.set i rx) k1
def NK (i j:Nat) (ta:TA3):TS3:=λd τ G=>ta τ G λxs G1=>match xs with|[x,y]=>d.nx ((τ.set i (some x)).set j (some y)) G1|_=>False
def qmy {i j:Nat} {x y:Str} {a b:Expr} {tt:TA3} {px py pt:Pos} {kt k2 pt2} (hc:X.calm=true) (hN:X.N.Nodup) (hi:X.N[i]?=some x) (hj:X.N[j]?=some y) (hij:i≠j)
  (hx:X.env.scope.names.lookup x=some .local) (hy:X.env.scope.names.lookup y=some .local) (ha:A3 X [a,b] tt)
  (hw:swappedStores [.Tuple [.Name x px,.Name y py] kt pt] (.Tuple [a,b] k2 pt2) X.env=pure (some [x,y]):=by rfl)
  (hs:swapsWithSole [.Tuple [.Name x px,.Name y py] kt pt] (.Tuple [a,b] k2 pt2) pos.line X.env=pure false:=by rfl) :
  S3 X (.Assign [.Tuple [.Name x px,.Name y py] kt pt] (.Tuple [a,b] k2 pt2) pos) (NK i j tt):=qeN (qj8 hc hN hi hj hij hx hy ha hw hs) λ_ σ H ⟨τ,G,d,rl,h,af⟩=>
 ZZ rl h λxs G1 h1 vs H1 rs hr1 k1 rl1=>by
  split at h1
  ·obtain ⟨v,u,rfl,r,r'⟩:=qmJ rs;exact ⟨v,u,rfl,af.nx _ G1 h1 _ H1 ((rl1.set i r).set j r') k1⟩
  ·exact h1.elim
end
abbrev TI3:=St3->Gp->(List T->(Gp->Prop)->Gp->Prop)->Prop
def qfi (K:Frg) (J:It) (items:List T) (stay:Gp->Prop) (G0:Gp) (H0:Hp):Prop:=∀ G H,HR K G H->Kp G0 H0 G H->stay G ->
 (∀ i x,items[i]?=some x->J.go i H)/\(∀ i x v H',items[i]?=some x->J.yld i H v H'->Rp K H' x v/\HR K G H'/\Kp G H G H')/\J.stop items.length H
def lI (K:Frg) (wi:TI3):TI:=λσ H R=>∃ τ G r,Rel K τ G σ H/\wi τ G r/\∀ items stay G',r items stay G'->∀ J H',HR K G' H'->Kp G H G' H'->qfi K J items stay G' H'->R J H'
abbrev I3 (X:Cx) (tg iter:Expr) (wi:TI3):Prop:=PI X tg iter (lI X.K wi)
def qlk {X:Cx} {tg e:Expr} {t t':TI} (h:PI X tg e t) (w:∀ σ H R,t' σ H R->t σ H R):PI X tg e t':=λpins s σ H R I q=>h pins s σ H R I (w σ H R q)
section
variable {X:Cx} {a b c e l tg:Expr} {es:List Expr} {ta tb tc te:TE3} {t:TA3} {pos:Pos}
def qie {tl:TE} (hl:PE X l tl):PI X tg l (λσ H R=>tl σ H λx H1=>∃ a,x=.ref a/\(((∃ xs,SqL X.K H1 a xs)/\R (Itl X.K a) H1)\/((∃ xs,SqT X.K H1 a xs)/\R (Itt X.K a) H1))):=by
 intro pins s σ H R I h;refine thn (hl pins s σ H _ I h) λv s1 ⟨x,H1,I1,r1,q1⟩=>?_;obtain ⟨a,e,⟨⟨xs,hq⟩,q⟩|⟨⟨xs,hq⟩,q⟩⟩:=q1
 ·subst e;cases r1;obtain ⟨its,rv,p,hz⟩:=I1.list hq;refine wpAny_pyIter_list p.isList ?_;refine ⟨s1.heap.objs.size,[s1.heap.objs.size],_,_,H1,rfl,I1.kept (t':=s1.toks) λb o e=>Heap.get?_push_of_some _ e,qad a _,⟨_,Heap.get?_push_size _ rfl,rfl,rfl⟩,λb hb=>?_,q⟩;have e:b=s1.heap.objs.size:=by simpa using hb
  subst e;exact I1.fpOk (Nat.le_refl _) (I1.hok.fresh (Nat.le_refl _))
 ·subst e;cases r1;obtain ⟨its,rv,p,hz⟩:=I1.tuple hq;refine wpAny_pyIter_tuple (show s1.heap.IsTuple a its.toArray from p) ?_;refine ⟨s1.heap.objs.size,[s1.heap.objs.size],_,_,H1,rfl,I1.kept (t':=s1.toks) λb o e=>Heap.get?_push_of_some _ e,K7 a _,⟨_,Heap.get?_push_size _ rfl,rfl,rfl⟩,λb hb=>?_,q⟩;have e:b=s1.heap.objs.size:=by simpa using hb
  subst e;exact I1.fpOk (Nat.le_refl _) (I1.hok.fresh (Nat.le_refl _))
def Q9 (tl:TE3):TI3:=λτ G r=>tl τ G λx G1=>match x with
 |.tup xs=>r xs (λ_=>True) G1
 |.ref p=>(match getL G1 p with|some xs=>r xs (λG=>getL G p=some xs) G1|none=>False)
 |_=>False
def qiz {K:Frg} {p:Addr} {xs:List T} {G0:Gp} {H0:Hp}:qfi K (Itl K p) xs (λG=>getL G p=some xs) G0 H0:=by
 intro G H hr _ hs;obtain ⟨vs,sq,rs⟩:=zz hr hs;refine ⟨λi x hi=>?_,λi x v H' hi y=>?_,⟨vs,sq,by rw [rs.length];exact Nat.le_refl _⟩⟩
 ·obtain ⟨v,hv,_⟩:=rs.get hi;exact ⟨vs,v,sq,hv⟩
 ·obtain ⟨e,y⟩:=y;subst e;obtain ⟨w,hw,rw'⟩:=rs.get hi;have e2:=(y vs sq).symm.trans hw;cases e2;exact ⟨rw',hr,Kp.refl⟩
def qip {K:Frg} {p:Addr} {xs:List T} {vs:List V} {G0:Gp} {H0:Hp} (hr0:HR K G0 H0) (sq0:SqT K H0 p vs) (rs0:Rps K H0 xs vs):qfi K (Itt K p) xs (λ_=>True) G0 H0:=by
 intro G H hr k _;have sq:=WK hr0 k sq0;have rs:=rs0.keep hr0 k;refine ⟨λi x hi=>?_,λi x v H' hi y=>?_,⟨vs,sq,by rw [rs.length];exact Nat.le_refl _⟩⟩
 ·obtain ⟨v,hv,_⟩:=rs.get hi;exact ⟨vs,v,sq,hv⟩
 ·obtain ⟨e,y⟩:=y;subst e;obtain ⟨w,hw,rw'⟩:=rs.get hi;have e2:=(y vs sq).symm.trans hw;cases e2;exact ⟨rw',hr,Kp.refl⟩
def qnS (hl:E3 X l te):I3 X tg l (Q9 te):=qlk (qie hl) λσ H R ⟨τ,G,r,rl,h,af⟩=>qQ rl h λx G1 h1 v H1 rx hr1 k1 rl1=>by
 cases x<;>try exact h1.elim
 case tup xs=>
  cases rx with
  |tup hs rs=>exact ⟨_,rfl,.inr ⟨⟨_,hs⟩,af _ _ G1 h1 _ H1 hr1 k1 (qip hr1 hs rs)⟩⟩
 case ref p=>
  simp only at h1;split at h1
  ·rename_i xs e0;cases rx;obtain ⟨vs,hs,rs⟩:=zz hr1 e0;exact ⟨_,rfl,.inl ⟨⟨_,hs⟩,af _ _ G1 h1 _ H1 hr1 k1 qiz⟩⟩
  ·exact h1.elim
def L6 (lo:Int) (n:Nat):List T:=(List.range n).map λ(i:Nat)=>T.int (lo+(i:Int))
def qj9 {K:Frg} {lo:Int} {n:Nat} {G0:Gp} {H0:Hp}:qfi K (Itr lo n) (L6 lo n) (λ_=>True) G0 H0:=by
 intro G H hr k _;have hl:(L6 lo n).length=n:=by simp [L6]
 refine ⟨λi x hi=>?_,λi x v H' hi y=>?_,(show n<=(L6 lo n).length by rw [hl];exact Nat.le_refl n)⟩
 ·have:=(List.getElem?_eq_some_iff.mp hi).1;rw [hl] at this;exact this
 ·obtain ⟨e,y⟩:=y;subst e;subst y;have h1:=(List.getElem?_eq_some_iff.mp hi).1;rw [hl] at h1;unfold L6 at hi;rw [getElem?_map,List.getElem?_range h1] at hi;have e:T.int (lo+(i:Int))=x:=by simpa using hi
  subst e;exact ⟨.int _,hr,Kp.refl⟩
def VQ (ta:TA3):TI3:=λτ G r=>ta τ G λxs G1=>match xs with
 |[.int j]=>(-(2 ^ 62)<=j/\j<2 ^ 62)/\r (L6 0 j.toNat) (λ_=>True) G1
 |[.int i,.int j]=>(-(2 ^ 62)<=i/\i<2 ^ 62/\-(2 ^ 62)<=j/\j<2 ^ 62)/\r (L6 i (j-i).toNat) (λ_=>True) G1
 |_=>False
def qcQ {p:Pos} (hg:Gl X "range") (hm:X.mg "range" = none) (ha:A3 X [a] t) (hs:starEach [a] X.env=[(false,eval a X.env)]:=by rfl) (h1:∀ τ G q,t τ G q->t τ G λxs G=>q xs G/\xs.length=1):I3 X tg (.Call (.Name "range" p) [a] [] pos) (VQ t):=
 qlk (qa0 hg hm ha hs) λσ H R ⟨τ,G,r,rl,h,af⟩=>ZZ rl (h1 _ _ _ h) λxs G1 h1 vs H1 rs hr1 k1 rl1=>by
  obtain ⟨h1,hl⟩:=h1;simp only at h1;split at h1
  ·obtain ⟨v,rfl,r1⟩:=XV rs;cases r1;exact ⟨_,rfl,h1.1.1,h1.1.2,af _ _ G1 h1.2 _ H1 hr1 k1 qj9⟩
  ·simp at hl
  ·exact h1.elim
def WJ (stay:Gp->Prop) (g:TG3) (tb:TS3) (d:Ends3):List T->St3->Gp->Prop
 |[],τ,G=>stay G/\d.nx τ G
 |x::r,τ,G=>stay G/\g x τ G λτ2 G2=>tb { d with nx:=WJ stay g tb d r,ct:=WJ stay g tb d r,bk:=d.nx } τ2 G2
def C6 (wi:TI3) (g:TG3) (tb:TS3):TS3:=λd τ G=>wi τ G λitems stay G1=>WJ stay g tb d items τ G1
def qnB {iter:Expr} {body:List Stmt} {wi:TI3} {g:TG3} {tb:TS3} (hp:PassesOwn (model X.prog X.w) X.A X.env X.xe) (hc:X.calm=true) (hi:I3 X tg iter wi) (hg:G3 X tg g) (hb:B3 X body tb)
  (hs:∀ x,foldedSetIterable iter X.env x=pure x:=by intro _;rfl):S3 X (.For tg iter body [] pos) (C6 wi g tb):=
 qeN (qg6 hp hc hi hg hb hs) λD σ H ⟨τ,G,d,rl,h,af⟩=>by
  refine ⟨τ,G,_,rl,h,λitems stay G1 h1 J H1 hr1 k1 ok=>?_⟩;refine ⟨λi m σ' H'=>m=items.length-i/\i<=items.length/\∃ τ' G',Rel X.K τ' G' σ' H'/\Kp G1 H1 G' H'/\WJ stay g tb d (items.drop i) τ' G',⟨_,rfl,Nat.zero_le _,τ,G1,rl.next hr1 k1,Kp.refl,by simpa using h1⟩,?_⟩;rintro i m σ' H' ⟨rfl,hi,τ',G',rl',k',h'⟩;by_cases hlt:i<items.length
  ·rw [List.drop_eq_getElem_cons hlt] at h';obtain ⟨hst,h'⟩:=h';obtain ⟨go,yld,_⟩:=ok G' H' rl'.hp k' hst;have hx:items[i]?=some items[i]:=getElem?_eq_getElem hlt;refine .inr ⟨go i _ hx,λσ2 H2=>∃ τ2 G2,Rel X.K τ2 G2 σ2 H2/\Kp G1 H1 G2 H2/\WJ stay g tb d (items.drop (i+1)) τ2 G2,λσ2 H2 h2=>⟨_,by omega,rfl,hlt,h2⟩,λv H2 y=>?_⟩;obtain ⟨rv,hr2,k2⟩:=yld i _ v H2 hx y;have k3:Kp G1 H1 G' H2:=k'.trans k2;refine ⟨_,τ',G',_,rv,rl'.next hr2 k2,h',λτ3 G3 h3 σ3 H3 rl3 k4=>?_⟩;have k5:Kp G H G3 H3:=(k1.trans k3).trans k4;refine ⟨τ3,G3,_,rl3,h3,⟨λτ4 G4 h4 σ4 H4 rl4 k6=>⟨τ4,G4,rl4,(k3.trans k4).trans k6,h4⟩,af.rt.back k5,af.nx.back k5,λτ4 G4 h4 σ4 H4 rl4 k6=>⟨τ4,G4,rl4,(k3.trans k4).trans k6,h4⟩⟩⟩
  ·have e:i=items.length:=by omega
   subst e;rw [List.drop_length] at h';obtain ⟨_,_,stop⟩:=ok G' H' rl'.hp k' h'.1;exact .inl ⟨stop,af.nx τ' G' h'.2 σ' H' rl' (k1.trans k')⟩
def UX {stay:Gp->Prop} {g:TG3} {tb:TS3} {d:Ends3} (items:List T) (Pv:Nat->St3->Gp->Prop) {τ:St3} {G:Gp} (h0:Pv 0 τ G) (hst:∀ i τ G,i<=items.length->Pv i τ G->stay G)
  (hs:∀ i x τ G (nx:St3->Gp->Prop),items[i]?=some x->Pv i τ G->(∀ τ G,Pv (i+1) τ G->nx τ G)->g x τ G λτ2 G2=>tb { d with nx:=nx,ct:=nx,bk:=d.nx } τ2 G2)
  (hd:∀ τ G,Pv items.length τ G->d.nx τ G):WJ stay g tb d items τ G:=by
 have key:∀ (r:List T) (i:Nat) τ G,items.drop i=r->i<=items.length->Pv i τ G->WJ stay g tb d r τ G:=by
  intro r;induction r with
  |nil=>
   intro i τ G e hi p;have:i=items.length:=by have:=congrArg List.length e;simp at this;omega
   subst this;exact ⟨hst _ τ G hi p,hd τ G p⟩
  |cons x r ih=>
   intro i τ G e hi p;have hl:i<items.length:=by
    apply Classical.byContradiction;intro z;rw [List.drop_eq_nil_of_le (by omega)] at e;cases e
   have e':=List.drop_eq_getElem_cons hl;rw [e] at e';injection e' with e1 e2;refine ⟨hst i τ G hi p,hs i x τ G _ (by rw [getElem?_eq_getElem hl,e1]) p λτ2 G2 p2=>ih (i+1) τ2 G2 e2.symm hl p2⟩
 exact key items 0 τ G (by simp) (Nat.zero_le _) h0
abbrev Sp3:=List T->Gp->Q3->Prop
def lSp (K:Frg) (sp:Sp3):Sp:=λvs H Q _=>∃ ts G q,HR K G H/\Rps K H ts vs/\sp ts G q/\Aft K G H q Q
def Fn3 (P:Program) (w:World) (K:Frg) (mg:Str->Option Value) (base:Heap) (k:Nat) (x:Str) (sp:Sp3):Prop:=
 ∃ f fd ps,FnOk P w K mg base CX0 k f fd ps (lSp K sp)/\zw K fd ps []/\PySem.W.keepIn K (.ref f)=true/\mg x=some (.ref f)
def Fn3.mono {P:Program} {w:World} {K:Frg} {mg:Str->Option Value} {base:Heap} {j k:Nat} {x:Str} {sp:Sp3} (F:Fn3 P w K mg base j x sp) (h:j<=k):Fn3 P w K mg base k x sp:=
 let ⟨f,fd,ps,a,b,c,d⟩:=F;⟨f,fd,ps,a.mono h,b,c,d⟩
def Fn3.imp {P:Program} {w:World} {K:Frg} {mg:Str->Option Value} {base:Heap} {k:Nat} {x:Str} {sp sp':Sp3} (F:Fn3 P w K mg base k x sp) (h:∀ ts G q,sp' ts G q->sp ts G q):Fn3 P w K mg base k x sp':=
 let ⟨f,fd,ps,a,b,c,d⟩:=F;⟨f,fd,ps,a.imp λvs H Q E ⟨ts,G,q,h1,h2,h3,h4⟩=>⟨ts,G,q,h1,h2,h _ _ _ h3,h4⟩,b,c,d⟩
def qkS {k:Nat} {x:Str} {p:Pos} {sp:Sp3} (F:Fn3 X.prog X.w X.K X.mg X.base k x sp) (hr:Room k X.A) (hg:Gl X x) (ha:A3 X (e::es) t) (hdb:(x==("__debug__" : Str))=false:=by decide)
  (he:starEach (e::es) X.env=(false,eval e X.env)::starEach es X.env:=by rfl) (hpl:(backTo pos (starEach es X.env)).any (·.1)=false:=by rfl):E3 X (.Call (.Name x p) (e::es) [] pos) (cb3 sp t):=by
 obtain ⟨f,fd,ps,F,b,kp,m⟩:=F;refine VM (qfE F hr hg m kp b .nil qnV ha hdb he hpl) λσ H Q ⟨τ,G,q,rl,h,af⟩=>ZZ rl h λxs G1 h1 vs H1 rs hr1 k1 rl1=>?_;rw [List.append_nil];exact ⟨xs,G1,q,hr1,rs,h1,af.back k1⟩
def qx (N:List Str) (ts:List T):St3:=ts.map some++List.replicate (N.length-ts.length) none
def CT {K:Frg} {N:List Str} {G:Gp} {H:Hp} {ts:List T} {vs:List V} (hr:HR K G H) (rs:Rps K H ts vs):Rel K (qx N ts) G (L2.start N vs) H:=by
 refine ⟨hr,by simp [qx,L2.start,rs.length],λi t e=>?_⟩;unfold qx at e;by_cases hi:i<ts.length
 ·rw [List.getElem?_append_left (by simpa using hi),getElem?_map] at e;cases q:ts[i]? with
  |none=>rw [q] at e;cases e
  |some z=>
   rw [q] at e;have e':z=t:=by simpa using e
   subst e';obtain ⟨v,hv,r⟩:=rs.get q;refine ⟨v,?_,r⟩;unfold L2.start;rw [List.getElem?_append_left (by rw [length_map,← rs.length];exact hi),getElem?_map,hv];rfl
 ·rw [List.getElem?_append_right (by simpa using hi),List.getElem?_replicate] at e;split at e<;>cases e
def qjS {P:Program} {w:World} {K:Frg} {mg:Str->Option Value} {base:Heap} {x qual:Str} {st:Stmt} {f:Addr} {fd:FuncData} {N ps:List Str} {k:Nat} {sp:Sp3} {t3:TS3} (F:Fun K x qual st f fd) (S:FnScope N ps (qh st)) (bd:zw K fd ps []) (hm:mg x=some (.ref f))
  (body:∀ (cdv:Value) (A:Around) (outer:List Env) (s:Shared) (H:Hp) (E:XK),Room k (A.deeper (envOfC qual (qh st) s.heap.objs.size f cdv)) ->
   B3 (qbt CX0 P w K mg base N qual (qh st) f cdv A outer s H E).nox (zP st) t3)
  (read:∀ ts G q,sp ts G q->ts.length=ps.length/\t3 { nx:=λ_ G'=>q .non G',rt:=q } (qx N ts) G):Fn3 P w K mg base (k+1) x sp:=by
 refine ⟨f,fd,ps,F.ok S (λvs H Q E ⟨ts,G,q,h1,h2,h3,h4⟩=>by rw [← h2.length];exact (read ts G q h3).1) λcdv A outer s H vs Q E hr ⟨ts,G,q,h1,h2,h3,h4⟩=>?_,bd,F.kp,hm⟩;refine ⟨_,body cdv A outer s H E hr,qx N ts,G,_,CT h1 h2,(read ts G q h3).2,⟨λτ' G' h' σ' H' rl' k'=>h4 _ G' h' _ H' .non rl'.hp k',h4,λ_ _ z=>z.elim,λ_ _ z=>z.elim⟩⟩
def qeh (xs:List T):Option Bool:=match xs with
 |[]=>some true
 |.bl k::r=>(match qeh r with|some j=>some (k&&j)|none=>none)
 |_=>none
def qmM (xs:List T):Option Bool:=match xs with
 |[]=>some false
 |.bl k::r=>(match qmM r with|some j=>some (k||j)|none=>none)
 |_=>none
def qbX {P:Program} {w:World} {A:Around} {its:List Value} {ks:List Bool} (h:its=ks.map Value.bool):TruthOf P w A (λi v=>its.toArray[i]?=some v) (λi=>ks.getD i true):=by
 intro i v s Q E hp hq;subst h;have hp':ks[i]?.map Value.bool=some v:=by simpa using hp
 cases e:ks[i]? with
 |none=>rw [e] at hp';cases hp'
 |some k=>
  rw [e] at hp';cases hp';have:ks.getD i true=k:=by rw [getD_eq_getElem?_getD,e];rfl
  have hq:Q (ks.getD i true) s:=hq;rw [this] at hq;exact wpAny_truthy_bool hq
def WD:∀ {ks:List Bool} {us:List Value},zx (ks.map V.bl) us->us=ks.map Value.bool
 |[],_,r=>by cases r;rfl
 |k::ks,_,r=>by
  cases r with
  |cons a b=>rw [show _=Value.bool k from a,WD b];rfl
def qau (ks:List Bool):((List.range ks.length).all λi=>ks.getD i true)=ks.all id:=by
 induction ks with
 |nil=>rfl
 |cons k ks ih=>
  rw [length_cons,List.range_succ_eq_map,List.all_cons,List.all_map,List.all_cons];congr 1
def ji (hc:X.calm=true):ZI X (.builtin "all") (λxs H Q=>∃ (p:Addr) (ks:List Bool),xs=[.ref p]/\SqL X.K H p (ks.map V.bl)/\Q (.bl (ks.all id)) H):=by
 intro pins s σ H xs us Q I r h;obtain ⟨p,ks,rfl,hq,q⟩:=h;obtain ⟨u,rfl,rp⟩:=EM r;cases (show u=Value.ref p from rp);obtain ⟨its,rv,pl,hz⟩:=I.list hq;have hb:=WD rv;have hlen:its.length=ks.length:=by rw [hb];simp
 have hp:p<s.heap.objs.size:=by obtain ⟨o,n,e,_⟩:=pl;exact Heap.lt_size e
 refine call_all_walk (wpAny_pyIter_list pl.isList ⟨s.heap.objs.size,_,_,_,_,_,λi=>ks.getD i true,rfl,Walks.list (A:=X.A.in1) (show X.A.in1.handled=none from I.ok.hd hc) s.heap.objs.size p (Nat.ne_of_lt hp) its.toArray,⟨⟨_,Heap.get?_push_size _ rfl,rfl,rfl⟩,?_⟩,qbX hb,λh' tk hk=>?_⟩)
 ·obtain ⟨o,n,e,c,_,d⟩:=pl;exact ⟨o,Heap.get?_push_of_some _ e,c,n,d⟩
 ·refine ⟨.bl _,H,?_,rfl,by rw [size_toArray,hlen,qau];exact q⟩;exact I.kept (h':=h') (t':=tk) λb o e=>hk b o (by simp;exact Nat.ne_of_lt (Heap.lt_size e)) (Heap.get?_push_of_some _ e)
end
def DC (env:Env):List (Str×NameKind)->List (Str×Addr)->List (Str×Addr)
 |[],cs=>cs
 | (n,k)::r,cs=>if k=.free then DC env r ((n,(env.cells.lookup n).getD 0)::cs) else DC env r cs
def QZ {scope:Scope} {env:Env} (h:∀ y∈scope.names,y.2=.free->∃ c,env.cells.lookup y.1=some c):closureFor scope env=pure (DC env scope.names []):=by
 have key:∀ (l:List (Str×NameKind)) (cs:List (Str×Addr)),(∀ y∈l,y.2=.free->∃ c,env.cells.lookup y.1=some c) ->
   (forIn l cs λ(x:Str×NameKind) (r:List (Str×Addr))=>if (x.2==NameKind.free)=true then (do let a←cellOf env x.1;pure (ForInStep.yield ((x.1,a)::r))) else pure (ForInStep.yield r))=(pure (DC env l cs):Sem _):=by
  intro l;induction l with
  |nil=>intro cs _;rfl
  |cons y r ih=>
   intro cs hl;obtain ⟨n,k⟩:=y;rw [List.forIn_cons];by_cases hk:k=.free
   ·subst hk;obtain ⟨c,hc⟩:=hl (n,.free) List.mem_cons_self rfl;have e:cellOf env n=pure c:=by unfold cellOf;rw [show List.lookup n env.cells=some c from hc]
    simp only [beq_self_eq_true,if_true];rw [e,pure_bind,pure_bind];show forIn r ((n,c)::cs) _=_;rw [ih _ λz hz=>hl z (List.mem_cons_of_mem _ hz)];show _=(pure (if NameKind.free=NameKind.free then DC env r ((n,(env.cells.lookup n).getD 0)::cs) else DC env r cs):Sem _);rw [if_pos rfl,show List.lookup n env.cells=some c from hc];rfl
   ·have hb:(k==NameKind.free)=false:=by cases k<;>first|rfl|exact absurd rfl hk
    simp only [hb,Bool.false_eq_true,if_false];rw [pure_bind];show forIn r cs _=_;rw [ih _ λz hz=>hl z (List.mem_cons_of_mem _ hz)];show _=(pure (if k=NameKind.free then DC env r ((n,(env.cells.lookup n).getD 0)::cs) else DC env r cs):Sem _);rw [if_neg hk]
 have:=key scope.names [] h;unfold closureFor;refine Eq.trans ?_ this;exact bind_pure (m:=Sem) _
def JR {env:Env}:∀ (l:List (Str×NameKind)) (cs:List (Str×Addr)) (x:Str) (c:Addr),(∀ y∈l,y.2=.free->∃ c,env.cells.lookup y.1=some c) ->
  (∀ x c,cs.lookup x=some c->env.cells.lookup x=some c)->(DC env l cs).lookup x=some c->env.cells.lookup x=some c
 |[],_,_,_,_,h,e=>h _ _ e
 | (n,k)::r,cs,x,c,hl,h,e=>by
  unfold DC at e;split at e
  ·rename_i hk;refine JR r _ x c (λy hy=>hl y (List.mem_cons_of_mem _ hy)) (λx c e=>?_) e;rw [List.lookup_cons] at e;split at e
   ·rename_i hx;have hx':x=n:=by simpa using hx
    subst hx';obtain ⟨d,hd⟩:=hl (x,k) List.mem_cons_self hk;have hd:List.lookup x env.cells=some d:=hd;rw [hd] at e ⊢;exact e
   ·exact h _ _ e
  ·exact JR r cs x c (λy hy=>hl y (List.mem_cons_of_mem _ hy)) h e
def UE {env:Env}:∀ (l:List (Str×NameKind)) (cs:List (Str×Addr)) (x:Str),((x,NameKind.free)∈l\/∃ c,cs.lookup x=some c)->∃ c,(DC env l cs).lookup x=some c
 |[],_,_,h=>by
  rcases h with h|h
  ·simp at h
  ·exact h
 | (n,k)::r,cs,x,h=>by
  unfold DC;have put:∀ d:Addr,(x=n\/∃ c,cs.lookup x=some c)->∃ c,((n,d)::cs).lookup x=some c:=λd z=>by
   rw [List.lookup_cons];cases hx:x==n with
   |true=>exact ⟨d,rfl⟩
   |false=>
    rcases z with z|z
    ·rw [z] at hx;simp at hx
    ·exact z
  split
  ·rename_i hk;refine UE r _ x ?_;rcases h with h|h
   ·rcases mem_cons.mp h with e|e
    ·cases e;exact .inr (put _ (.inl rfl))
    ·exact .inl e
   ·exact .inr (put _ (.inr h))
  ·rename_i hk;refine UE r _ x ?_;rcases h with h|h
   ·rcases mem_cons.mp h with e|e
    ·cases e;exact absurd rfl hk
    ·exact .inl e
   ·exact .inr h
def XH {env:Env}:∀ (l:List (Str×NameKind)) (cs:List (Str×Addr)) (x:Str) (c:Addr),(DC env l cs).lookup x=some c->(x,NameKind.free)∈l\/cs.lookup x=some c
 |[],_,_,_,e=>.inr e
 | (n,k)::r,cs,x,c,e=>by
  unfold DC at e;split at e
  ·rename_i hk;rcases XH r _ x c e with z|z
   ·exact .inl (List.mem_cons_of_mem _ z)
   ·rw [List.lookup_cons] at z;split at z
    ·rename_i hx;have hx':x=n:=by simpa using hx
     subst hx';subst hk;exact .inl List.mem_cons_self
    ·exact .inr z
  ·rcases XH r cs x c e with z|z
   ·exact .inl (List.mem_cons_of_mem _ z)
   ·exact .inr z
def YV {α:Type}:∀ (xs ys:List (Str×α)) (x:Str),(xs++ys).lookup x=(match xs.lookup x with|some c=>some c|none=>ys.lookup x)
 |[],ys,x=>rfl
 | (n,c)::xs,ys,x=>by
  rw [cons_append,List.lookup_cons,List.lookup_cons];cases x==n with
  |true=>rfl
  |false=>exact YV xs ys x
def zR:∀ (l:List (Str×NameKind)) {n:Nat} {acc:List (Str×Addr)},cellsFrom n l acc=cellsFrom n l []++acc
 |[],_,_=>rfl
 | (x,k)::r,n,acc=>by
  unfold cellsFrom;split
  ·rw [zR r (acc:=(x,n)::acc),zR r (acc:=[(x,n)]),List.append_assoc];rfl
  ·exact zR r
def ZB:∀ (l:List (Str×NameKind)) (n:Nat) (acc:List (Str×Addr)) (x:Str) (c:Addr),(x,c)∈cellsFrom n l acc->(x,NameKind.cell)∈l\/(x,c)∈acc
 |[],_,_,_,_,h=>.inr h
 | (y,k)::r,n,acc,x,c,h=>by
  unfold cellsFrom at h;split at h
  ·rename_i hk;have hk:k=.cell:=by simpa using hk
   rcases ZB r _ _ x c h with z|z
   ·exact .inl (List.mem_cons_of_mem _ z)
   ·rcases mem_cons.mp z with e|e
    ·cases e;subst hk;exact .inl List.mem_cons_self
    ·exact .inr e
  ·rcases ZB r _ _ x c h with z|z
   ·exact .inl (List.mem_cons_of_mem _ z)
   ·exact .inr z
def jH:∀ (l:List (Str×NameKind)) (n:Nat) (acc:List (Str×Addr)) (x:Str),((x,NameKind.cell)∈l\/∃ c,acc.lookup x=some c)->∃ c,(cellsFrom n l acc).lookup x=some c
 |[],_,_,_,h=>by
  rcases h with h|h
  ·simp at h
  ·exact h
 | (y,k)::r,n,acc,x,h=>by
  unfold cellsFrom;have put:(x=y\/∃ c,acc.lookup x=some c)->∃ c,((y,n)::acc).lookup x=some c:=λz=>by
   rw [List.lookup_cons];cases hx:x==y with
   |true=>exact ⟨n,rfl⟩
   |false=>
    rcases z with z|z
    ·rw [z] at hx;simp at hx
    ·exact z
  split
  ·refine jH r _ _ x ?_;rcases h with h|h
   ·rcases mem_cons.mp h with e|e
    ·cases e;exact .inr (put (.inl rfl))
    ·exact .inl e
   ·exact .inr (put (.inr h))
  ·rename_i hk;refine jH r _ _ x ?_;rcases h with h|h
   ·rcases mem_cons.mp h with e|e
    ·cases e;exact absurd rfl hk
    ·exact .inl e
   ·exact .inr h
def jA {M:Model} {A:Around} {E:Value->Shared->Prop} {s:Shared} {scope:Scope} {globals:Addr} {cl:List (Str×Addr)} {qual:Str} {env:Env} {Q:Env->Shared->Prop}
  (hQ:∀ h₁:Heap,h₁.Ns s.heap.objs.size (λ_=>none)->(∀ b o,s.heap.get? b=some o->h₁.get? b=some o)->CellsOk h₁ (s.heap.objs.size+1) (cellsFrom (s.heap.objs.size+1) scope.names [])->Q (newEnv scope s.heap.objs.size globals (cellsFrom (s.heap.objs.size+1) scope.names cl) qual none .none (some env) builtinsNs) { s with heap:=h₁ }) :
  wpAny M A (newFunctionEnv scope globals cl [] qual none .none (some env)) Q E s:=by
 simp only [newFunctionEnv,Option.isSome_some,if_true];refine wpAny_bind (wpAny_alloc ?_);refine wpAny_bind (wpAny_layCells _ (λname kind cells=>by cases hkc:kind==NameKind.cell<;>simp [hkc]) _ _ _ _ ?_);have ok:=cellsFrom_ok scope.names (s.heap.push { cls:=.type "dict",data:=.dict #[] }) (s.heap.objs.size+1) [] ⟨λ_ _ hm=>(nomatch hm),List.Pairwise.nil⟩ (by rw [Heap.size_push];exact Nat.le_refl _);rw [Heap.size_push] at ok;rw [show ({ s with heap:=s.heap.push { cls:=.type "dict",data:=.dict #[] } }:Shared).heap.objs.size=s.heap.objs.size+1 from Heap.size_push ..];rw [List.forIn_nil];refine wpAny_bind (wpAny_pure (wpAny_pure ?_));exact hQ _ ((Heap.Ns.new s.heap (.type "dict")).keeps (pushCells_keeps _ _)) (λb o e=>pushCells_keeps _ _ b o (Heap.get?_push_of_some _ e)) ok
def qf (X:Cx) (N':List Str) (scope:Scope) (s:Shared) (H:Hp) (fp:List Addr):Cx where
 prog:=X.prog
 w:=X.w
 K:=X.K
 mg:=X.mg
 base:=X.base
 A:=X.A
 N:=N'
 s₀:=s
 H₀:=H
 env:=compEnvC scope (cellsFrom (s.heap.objs.size+1) scope.names (DC X.env scope.names [])) s.heap.objs.size X.env
 outer:=X.stack
 stack:=X.stack
 ex:=fp
 fn:=λx=>scope.names.lookup x==some .cell
 calm:=true
 pn:=[]
 xe:=λ_ _=>False
def MB (outer inner:Scope):Bool:=(inner.kind==.function)&&inner.names.all λy=>
 (y.2 != .cell||inner.names.lookup y.1==some .cell)&&(y.2 != .local||inner.names.lookup y.1==some .local)&&(y.2 != .free||(inner.names.lookup y.1==some .free&&(outer.names.lookup y.1==some .cell||outer.names.lookup y.1==some .free)))
def cap {α:Type} (m:List (Option Nat)) (σ:List (Option α)):List (Option α):=m.map λo=>match o with|some j=>(σ[j]?).join|none=>none
def JV (N N':List Str) (scope:Scope) (m:List (Option Nat)):Bool:=(m.length==N'.length)&&(m.zip N').all λp=>match p.1 with
 |none=>true
 |some j=>N[j]?==some p.2&&scope.names.lookup p.2==some .free
def qaa {α:Type} {m:List (Option Nat)} {σ:List (Option α)} {i:Nat} {v:α} (h:(cap m σ)[i]?=some (some v)):∃ j,m[i]?=some (some j)/\σ[j]?=some (some v):=by
 unfold cap at h;rw [getElem?_map] at h;cases e:m[i]? with
 |none=>rw [e] at h;cases h
 |some o=>
  rw [e] at h;cases o with
  |none=>cases h
  |some j=>
   refine ⟨j,rfl,?_⟩;have h':(σ[j]?).join=some v:=by simpa using h
   cases q:σ[j]? with
   |none=>rw [q] at h';cases h'
   |some z=>rw [q] at h';exact congrArg some h'
def MH {N N':List Str} {scope:Scope} {m:List (Option Nat)} (h:JV N N' scope m=true) {i j:Nat} {x:Str} (e:m[i]?=some (some j)) (hx:N'[i]?=some x):N[j]?=some x/\scope.names.lookup x=some .free:=by
 unfold JV at h;rw [Bool.and_eq_true] at h;have hm:(some j,x)∈m.zip N':=mem_of_getElem? (i:=i) (List.getElem?_zip_eq_some.mpr ⟨e,hx⟩);have:=List.all_eq_true.mp h.2 _ hm;simp only [Bool.and_eq_true,beq_iff_eq] at this;exact this
def qgv {N N':List Str} {scope:Scope} {m:List (Option Nat)} {α:Type} (σ:List (Option α)) (h:JV N N' scope m=true):(cap m σ).length=N'.length:=by
 unfold JV at h;rw [Bool.and_eq_true] at h;unfold cap;rw [length_map];simpa using h.1
structure ScFacts (outer inner:Scope):Prop where
 kind:inner.kind=.function
 own:∀ y∈inner.names,y.2=.cell->inner.names.lookup y.1=some .cell
 loc:∀ y∈inner.names,y.2=.local->inner.names.lookup y.1=some .local
 free:∀ y∈inner.names,y.2=.free->inner.names.lookup y.1=some .free/\(outer.names.lookup y.1=some .cell\/outer.names.lookup y.1=some .free)
def VO {outer inner:Scope} (h:MB outer inner=true):ScFacts outer inner:=by
 unfold MB at h;rw [Bool.and_eq_true] at h;have ha:=List.all_eq_true.mp h.2;refine ⟨by simpa using h.1,λy hy e=>?_,λy hy e=>?_,λy hy e=>?_⟩
 ·have:=ha y hy;rw [e] at this;simpa using this
 ·have:=ha y hy;rw [e] at this;simpa using this
 ·have:=ha y hy;rw [e] at this;simpa using this
def QA {scope:Scope} {env:Env} {x:Str} {k:NameKind} (h:(relabel scope env).names.lookup x=some k):scope.names.lookup x=some k\/(k=.cell/\scope.names.lookup x=some .free):=by
 have key:∀ (l:List (Str×NameKind)),(l.map λ(n,k)=>if (k==NameKind.free&&env.scope.kind==.function&&env.kindOf n==some .cell) then (n,NameKind.cell) else (n,k)).lookup x=some k->l.lookup x=some k\/(k=.cell/\l.lookup x=some .free):=by
  intro l;induction l with
  |nil=>intro h;simp at h
  |cons y r ih=>
   intro h;obtain ⟨n,j⟩:=y;rw [map_cons] at h;dsimp only at h;by_cases hc:(j==NameKind.free&&env.scope.kind==.function&&env.kindOf n==some .cell)=true
   ·rw [if_pos hc,List.lookup_cons] at h;rw [List.lookup_cons];cases hx:x==n with
    |true=>
     rw [hx] at h;have hk:NameKind.cell=k:=by simpa using h
     have hj:j=.free:=by simp only [Bool.and_eq_true,beq_iff_eq] at hc;exact hc.1.1
     exact .inr ⟨hk.symm,by rw [hj]⟩
    |false=>rw [hx] at h;exact ih h
   ·rw [if_neg hc,List.lookup_cons] at h;rw [List.lookup_cons];cases hx:x==n with
    |true=>rw [hx] at h;exact .inl h
    |false=>rw [hx] at h;exact ih h
 exact key scope.names h
def PF (X:Cx) (ifs:List Expr) (t:TT):Prop:=
 ∀ (pins:List (Addr×Obj)) (s:Shared) (σ:L2.St) (H:Hp) (Q:Bool->Hp->Prop),Inv X pins σ H s->t σ H Q ->
  wpAny (model X.prog X.w) X.A (forIn ifs true λc r=>if r=true then do let ok←isTrue c X.env (eval c X.env);pure (ForInStep.yield ok) else pure (ForInStep.yield r)) (TP X pins σ Q) X.xe s
def qkP {X:Cx}:PF X [] (λ_ H Q=>Q true H):=λ_ _ _ H _ I h=>wpAny_tests_nil ⟨H,I,h⟩
section
variable {X:Cx} {pins:List (Addr×Obj)} {σ:L2.St} {H:Hp} {s:Shared}
def WP {N':List Str} {scope:Scope} {fp:List Addr} {m:List (Option Nat)} {h1:Heap} {mm:Str->Option Value} (hc:X.calm=true) (I:Inv X pins σ H s) (sc:ScFacts X.env.scope scope) (hcap:JV X.N N' scope m=true)
  (hfp:∀ b∈fp,C5 X pins H b) (hob:∀ b∈fp,∃ o,s.heap.get? b=some o) (hns:h1.Ns s.heap.objs.size mm) (hk:∀ b o,s.heap.get? b=some o->h1.get? b=some o) (hown:CellsOk h1 (s.heap.objs.size+1) (cellsFrom (s.heap.objs.size+1) scope.names [])) :
  Inv (qf X N' scope s H fp) [] (cap m σ) H { s with heap:=h1 }:=by
 have hcl:∀ y∈scope.names,y.2=.free->∃ c,X.env.cells.lookup y.1=some c:=λy hy e=>by
  rcases (sc.free y hy e).2 with z|z
  ·exact I.ok.has y.1 (.inl z)
  ·exact I.ok.has y.1 (.inr z)
 have cl:∀ x c,(DC X.env scope.names []).lookup x=some c->X.env.cells.lookup x=some c:=λx c e=>JR scope.names [] x c hcl (λ_ _ z=>by simp at z) e;have clt:∀ x c,(DC X.env scope.names []).lookup x=some c->c<s.heap.objs.size:=λx c e=>by
  obtain ⟨v,q⟩:=I.cell x c (cl x c e);exact q.lt
 -- a cell of the block: its own,or one from around
 have cs:∀ x c,(cellsFrom (s.heap.objs.size+1) scope.names (DC X.env scope.names [])).lookup x=some c->((x,c)∈cellsFrom (s.heap.objs.size+1) scope.names []/\s.heap.objs.size+1<=c/\h1.IsCell c none)\/(DC X.env scope.names []).lookup x=some c:=λx c e=>by
  rw [zR,YV] at e;cases q:(cellsFrom (s.heap.objs.size+1) scope.names []).lookup x with
  |none=>rw [q] at e;exact .inr e
  |some d=>
   rw [q] at e;cases e;have mem:=PySem.mem_of_lookup q;exact .inl ⟨mem,(hown.empty x _ mem).2,(hown.empty x _ mem).1⟩
 have fpne:∀ b∈fp,b≠s.heap.objs.size:=λb hb=>let ⟨o,e⟩:=hob b hb;Nat.ne_of_lt (Heap.lt_size e)
 refine ⟨⟨I.ok.mod,sc.kind,I.ok.glob,I.ok.blt,Nat.le_refl _,λx y c e1 e2=>?_,λx hx=>?_,λx c hf e=>?_,λ_=>I.ok.hd hc,I.ok.frames,.inl rfl,λb hb=>⟨fpne b hb,λx c e=>?_⟩,I.bs,Nat.le_trans I.ok.bsz I.sz,λb o e hb=>?_,λb hb z=>?_,I.stack,I.stkFree⟩,
  rfl,I.bare,Un.kept hk,⟨mm,hns,λi x v e1 e2 e3=>?_⟩,λx c e=>?_,I.fresh,λx c e=>?_,λp hp=>absurd (show p∈([]:List (Addr×Obj)) from hp) (by simp),I.hok.kept hk,qgv σ hcap⟩
 ·rcases cs x c e1 with ⟨m1,l1,_⟩|z1<;>rcases cs y c e2 with ⟨m2,l2,_⟩|z2
  ·exact PySem.name_of_addr hown.apart m1 m2
  ·exact absurd (clt y c z2) (Nat.not_lt.mpr (Nat.le_trans (Nat.le_succ _) l1))
  ·exact absurd (clt x c z1) (Nat.not_lt.mpr (Nat.le_trans (Nat.le_succ _) l2))
  ·exact I.ok.inj x y c (cl x c z1) (cl y c z2)
 ·have hx:(relabel scope X.env).names.lookup x=some .cell\/(relabel scope X.env).names.lookup x=some .free:=hx;have hf:scope.names.lookup x=some .cell\/scope.names.lookup x=some .free:=by
   rcases hx with z|z
   ·rcases QA z with q|⟨_,q⟩
    ·exact .inl q
    ·exact .inr q
   ·rcases QA z with q|⟨q,_⟩
    ·exact .inr q
    ·cases q
  show ∃ c,(cellsFrom (s.heap.objs.size+1) scope.names (DC X.env scope.names [])).lookup x=some c;rcases hf with hf|hf
  ·exact jH scope.names _ _ x (.inl (PySem.mem_of_lookup hf))
  ·exact jH scope.names _ _ x (.inr (UE scope.names [] x (.inl (PySem.mem_of_lookup hf))))
 ·have hf:scope.names.lookup x=some .cell:=by simpa [qf] using hf
  rcases cs x c e with ⟨_,l1,_⟩|z1
  ·exact Nat.le_trans (Nat.le_succ _) l1
  ·rcases XH scope.names [] x c z1 with q|q
   ·rw [(sc.free _ q rfl).1] at hf;cases hf
   ·simp at q
 ·rcases cs x c e with ⟨_,l1,_⟩|z1
  ·obtain ⟨o,eo⟩:=hob b hb;exact Nat.ne_of_gt (Nat.lt_of_lt_of_le (Heap.lt_size eo) (Nat.le_trans (Nat.le_succ _) l1))
  ·exact (hfp b hb).2.2.2.2.1 x c (cl x c z1)
 ·rcases (hfp b hb).2.2.2.1 with z|z
  ·exact I.ok.noex b o e z
  ·exact absurd (Nat.lt_of_lt_of_le (Heap.lt_size e) (Nat.le_trans I.ok.bsz z)) (Nat.lt_irrefl _)
 ·rcases mem_cons.mp (I.stkSub b z) with q|q
  ·exact (hfp b hb).2.1 q
  ·exact (hfp b hb).2.2.1 q
 ·obtain ⟨j,ej,es⟩:=qaa e2;obtain ⟨hN,hfr⟩:=MH hcap ej e1;have mem:=PySem.mem_of_lookup hfr;have ho:=(sc.free _ mem rfl).2;obtain ⟨m0,hn0,hl0⟩:=I.loc;obtain ⟨u,ru,lk⟩:=hl0 j x v hN es (ho.elim (λz=>.inr (.inl z)) λz=>.inr (.inr z));refine ⟨u,ru,.inr ⟨?_,?_⟩⟩
  ·rcases e3 with z|z|z
   ·rcases QA z with q|⟨q,_⟩
    ·rw [hfr] at q;cases q
    ·cases q
   ·exact .inl z
   ·exact .inr z
  ·rcases lk with ⟨z,_⟩|⟨_,c,hc',hcell⟩
   ·have z:X.env.scope.names.lookup x=some .local:=z;rcases ho with q|q<;>(rw [z] at q;cases q)
   ·obtain ⟨c',hc2⟩:=UE (env:=X.env) scope.names [] x (.inl mem);have e:=cl x c' hc2;rw [hc'] at e;cases e;obtain ⟨o,eo,d⟩:=hcell;refine ⟨c,?_,o,hk c o eo,d⟩;show (cellsFrom (s.heap.objs.size+1) scope.names (DC X.env scope.names [])).lookup x=some c;rw [zR,YV];cases q:(cellsFrom (s.heap.objs.size+1) scope.names []).lookup x with
    |none=>exact hc2
    |some d=>
     rcases ZB scope.names _ [] x d (PySem.mem_of_lookup q) with z|z
     ·rw [sc.own _ z rfl] at hfr;cases hfr
     ·simp at z
 ·rcases cs x c e with ⟨_,_,z⟩|z1
  ·exact ⟨none,z⟩
  ·obtain ⟨v,o,eo,d⟩:=I.cell x c (cl x c z1);exact ⟨v,o,hk c o eo,d⟩
 ·rcases cs x c e with ⟨_,l1,_⟩|z1
  ·exact I.hok.fresh (Nat.le_trans (Nat.le_succ _) l1)
  ·exact I.freeC x c (cl x c z1)
def VF {N':List Str} {scope:Scope} {fp:List Addr} {pins':List (Addr×Obj)} {σ':L2.St} {H':Hp} {s':Shared} {h2:Heap} (I:Inv X pins σ H s) (hfp:∀ b∈fp,C5 X pins H b) (J:Inv (qf X N' scope s H fp) pins' σ' H' s')
  (sb:Heap.SameBut s.heap.objs.size s'.heap h2):Inv X pins σ H' { s' with heap:=h2 }:=by
 have ne:∀ b o,s.heap.get? b=some o->b≠s.heap.objs.size:=λb o e=>Nat.ne_of_lt (Heap.lt_size e);have g:∀ b,b≠s.heap.objs.size->h2.get? b=s'.heap.get? b:=λb hb=>sb.2 b hb;have hn:H' s.heap.objs.size=none:=J.free;have u:Un (frs X.stack) fp H H' s.heap s'.heap:=J.base;refine I.call' (s':={ s' with heap:=h2 }) J.os ⟨λb o e n hb hx=>?_,λb o e n hb hx=>?_,u.free,λb o e hx=>?_,u.tups,u.frzs,u.tbls⟩ (λa o e=>?_) J.bare λb hb=>⟨(hfp b hb).2.2.2.1,(hfp b hb).2.1,(hfp b hb).2.2.2.2.1,(hfp b hb).2.2.2.2.2⟩
 ·show h2.get? b=_;rw [g b (ne b o e)];exact u.keep b o e n hb hx
 ·show ∃ sl,h2.get? b=_;rw [g b (ne b o e)];exact u.slot b o e n hb hx
 ·show ∃ o',h2.get? b=_;rw [g b (ne b o e)];exact u.there b o e hx
 ·refine (J.hok a o e).stay (λb v hb q=>?_) (λ_ q=>q) λ_ _ q=>q;have hb':b≠s.heap.objs.size:=by
   intro z;subst z;rcases hb with z|z
   ·rw [← z] at e;rw [hn] at e;cases e
   ·rw [hn] at z;cases z
  rw [g b hb'];exact q
end
def tLC (wi:TI) (g:TG) (tif:TT) (te:TE) (m:List (Option Nat)):TE:=λσ H Q=>wi σ H λJ H1=>∀ D,H1 D=none ->
 ∃ W:Nat->Nat->L2.St->Hp->Prop,(∃ n,W 0 n (cap m σ) (upd H1 D (.lst [])))/\∀ i n σ H,W i n σ H ->
  (J.stop i H/\Q (.ref D) H)\/(J.go i H/\∀ x H',J.yld i H x H'->g x σ H' λσ2 H2=>tif σ2 H2 λk H3=>
   if k=true then te σ2 H3 λy H4=>∃ zs,H4 D=some (.lst zs)/\zs.length<sizeLine/\∃ n',n'<n/\W (i+1) n' σ2 (upd H4 D (.lst (zs++[y])))
   else ∃ n',n'<n/\W (i+1) n' σ2 H3)
section
variable {X:Cx}
def qmA {elt tg iter:Expr} {ifs:List Expr} {scope:Scope} {pos:Pos} {N':List Str} {m:List (Option Nat)} {wi:TI} {g:TG} {tif:TT} {te:TE} (hc:X.calm=true) (hi:PI X tg iter wi)
  (hg:∀ s H fp,PG (qf X N' scope s H fp) tg g) (hf:∀ s H fp,PF (qf X N' scope s H fp) ifs tif) (he:∀ s H fp,PE (qf X N' scope s H fp) elt te)
  (hsc:MB X.env.scope scope=true) (hcap:JV X.N N' scope m=true) (hs:∀ x,foldedSetIterable iter X.env x=pure x:=by intro _;rfl) :
  PE X (.ListComp elt [⟨tg,iter,ifs,0⟩] scope pos) (tLC wi g tif te m):=by
 intro pins s σ H Q I h;have sc:=VO hsc;have hcl:∀ y∈scope.names,y.2=.free->∃ c,X.env.cells.lookup y.1=some c:=λy hy e=>by
  rcases (sc.free y hy e).2 with z|z
  ·exact I.ok.has y.1 (.inl z)
  ·exact I.ok.has y.1 (.inr z)
 rw [eval_ListComp];refine wpAny_comprehension_free (use:=none) (g:=⟨tg,iter,ifs,0⟩) (gs:=[]) rfl hs (QZ hcl) sc.kind sc.loc ?_;show wpAny _ _ (eval iter X.env) _ _ s;refine thn (hi pins s σ H _ I h) λv s1 h1=>thn h1 λitv s2 h2=>?_;obtain ⟨it,fp,tn,J,H2,rfl,I2,T,st2,f2,hW⟩:=h2;refine wpAny_newObj_type ?_;have hD:H2 s2.heap.objs.size=none:=I2.fresh;obtain ⟨W,⟨n0,w0⟩,turn⟩:=hW _ hD;generalize hDe:s2.heap.objs.size=D at *;have I3:Inv X pins σ (upd H2 D (.lst [])) { s2 with heap:=s2.heap.push { cls:=.type "list",dict:=none,data:=.seq ([]:List Value).toArray } }:=by
  subst hDe;exact I2.laid (t':=s2.toks) (λb u e=>Heap.get?_push_of_some _ e) (Nat.le_refl _) ⟨Nat.zero_le _,[],0,.nil,Heap.get?_push_size _ rfl⟩
 have ob2:=T.obj 0 _ st2;have ob3:∀ b∈fp,∃ o,(s2.heap.push { cls:=.type "list",dict:=none,data:=.seq ([]:List Value).toArray }).get? b=some o:=λb hb=>let ⟨o,e,_⟩:=ob2 b hb;⟨o,Heap.get?_push_of_some _ e⟩
 have f3:∀ b∈fp,C5 X pins (upd H2 D (.lst [])) b:=λb hb=>by
  obtain ⟨o,e,_⟩:=ob2 b hb;have:b≠D:=by rw [← hDe];exact Nat.ne_of_lt (Heap.lt_size e)
  exact ⟨by rw [qv this];exact (f2 b hb).1,(f2 b hb).2⟩
 have k23:∀ b o,s2.heap.get? b=some o->(s2.heap.push { cls:=.type "list",dict:=none,data:=.seq ([]:List Value).toArray }).get? b=some o:=λb o e=>Heap.get?_push_of_some _ e;generalize hH3:upd H2 D (.lst [])=H3 at *;generalize hs3:({ s2 with heap:=s2.heap.push { cls:=.type "list",dict:=none,data:=.seq ([]:List Value).toArray } }:Shared)=s3 at *;have ob3:∀ b∈fp,∃ o,s3.heap.get? b=some o:=by rw [← hs3];exact ob3
 have k23:∀ b o,s2.heap.get? b=some o->s3.heap.get? b=some o:=by rw [← hs3];exact k23
 refine jA λh₁ hns hk hown=>?_;have I4:Inv (qf X N' scope s3 H3 fp) [] (cap m σ) H3 { s3 with heap:=h₁ }:=WP hc I3 sc hcap f3 ob3 hns hk hown;have tn4:tn 0 h₁:=T.keep _ _ _ st2 λb hb o e=>hk b o (k23 b o e);have fr4:∀ b∈fp,H3 b=none:=λb hb=>(f3 b hb).1;have stat:∀ {H':Hp},(∀ b∈fp,H' b=none)->∀ b∈fp,C5 (qf X N' scope s3 H3 fp) [] H' b:=λhn b hb=>by
  refine ⟨hn b hb,I4.ok.exf b hb |>.1,I4.ok.exfs b hb,.inl hb,λx c e=>(I4.ok.exf b hb).2 x c e,λp hp=>absurd (show p∈([]:List (Addr×Obj)) from hp) (by simp)⟩
 show codeAny (model X.prog X.w) X.A (.compStart (.ListComp elt [⟨tg,iter,ifs,0⟩] scope pos) 0 (.ref it) (.ref D) (qf X N' scope s3 H3 fp).env) (compPost (model X.prog X.w) X.A X.xe none (EP X pins σ Q) (.ref D) s3.heap.objs.size) { s3 with heap:=h₁ };have loop:codeAny (model X.prog X.w) X.A (.compLoop (.ListComp elt [⟨tg,iter,ifs,0⟩] scope pos) 0 (.ref it) (.ref D) (qf X N' scope s3 H3 fp).env) (compPost (model X.prog X.w) X.A X.xe none (EP X pins σ Q) (.ref D) s3.heap.objs.size) { s3 with heap:=h₁ }:=by
  refine codeAny_loop rfl (λn s'=>∃ i σ' H',Inv (qf X N' scope s3 H3 fp) [] σ' H' s'/\tn i s'.heap/\(∀ b∈fp,H' b=none)/\W i n σ' H') (λn s' hI=>?_) n0 ⟨0,cap m σ,H3,I4,tn4,fr4,w0⟩;show wpAny _ X.A ((compTurn (.ListComp elt [⟨tg,iter,ifs,0⟩] scope pos) 0 (.ref it) (.ref D) (qf X N' scope s3 H3 fp).env).onRaise (λx=>do noteFrame x (qf X N' scope s3 H3 fp).env;theTreesLotGoes x)) _ _ s';refine wpAny_noted ?_;rw [compTurn_list];refine wpAny_bind (wpAny_standAt (wpAny_bind ?_));obtain ⟨i,σ5,H5,I5,st5,fr5,w5⟩:=hI;rcases turn i n σ5 H5 w5 with ⟨stop,q⟩|⟨go,step⟩
  ·refine thn (T.done (qf X N' scope s3 H3 fp) rfl rfl rfl rfl i [] s' σ5 H5 _ I5 (stat fr5) st5 stop) λr s6 ⟨hr,I6⟩=>?_;subst hr;refine wpAny_pure ?_;obtain ⟨mm,hn6,_⟩:=I6.loc;exact ⟨mm,hn6,λh' sb=>⟨.ref D,H5,VF I3 f3 I6 sb,rfl,q⟩⟩
  ·refine thn (T.item (qf X N' scope s3 H3 fp) rfl rfl rfl rfl i [] s' σ5 H5 _ I5 (stat fr5) st5 go) λr s6 ⟨u,hr,h6⟩=>?_;subst hr;refine wpAny_bind (thn h6 λ_ s7 ⟨x,H7,I7,r7,y7,st7,fr7⟩=>?_);have I7':=I7.pinned (stat fr7) (T.obj _ _ st7);have again:∀ {σ8:L2.St} {H8:Hp} {s8:Shared},Inv (qf X N' scope s3 H3 fp) ([]++VZ fp s7.heap) σ8 H8 s8->(∃ n',n'<n/\W (i+1) n' σ8 H8) ->
     ∃ m',m'<n/\∃ i σ' H',Inv (qf X N' scope s3 H3 fp) [] σ' H' s8/\tn i s8.heap/\(∀ b∈fp,H' b=none)/\W i m' σ' H':=λ{σ8 H8 s8} I8 ⟨n',hn,w8⟩=>by
    refine ⟨n',hn,i+1,σ8,H8,I8.unpinned,T.keep _ _ _ st7 λb hb o e=>(I8.pin (b,o) (mem_append_right _ (mem_append_right _ (zl hb e)))).1,λb hb=>?_,w8⟩;obtain ⟨o,e,d⟩:=T.obj _ _ st7 b hb;exact (I8.pin (b,o) (mem_append_right _ (mem_append_right _ (zl hb e)))).2.1
   refine wpAny_bind (wpAny_mono (hg s3 H3 fp _ s7 σ5 H7 x u _ I7' r7 (step x H7 y7)) (λ_ s8 ⟨σ8,H8,I8,q8⟩=>?_) λ_ _ z=>z.elim);refine wpAny_bind (wpAny_mono (hf s3 H3 fp _ s8 σ8 H8 _ I8 q8) (λk s9 ⟨H9,I9,q9⟩=>?_) λ_ _ z=>z.elim);cases k with
   |false=>
    rw [if_neg Bool.false_ne_true] at q9;exact wpAny_pure ⟨rfl,again I9 q9⟩
   |true=>
    rw [if_pos rfl] at q9;refine wpAny_bind (wpAny_bind (wpAny_mono (he s3 H3 fp _ s9 σ8 H9 _ I9 q9) (λw s10 ⟨y,H10,I10,r10,q10⟩=>?_) λ_ _ z=>z.elim));obtain ⟨zs,hz,hl,q10⟩:=q10;refine wpAny_bind (wpAny_mono (EG (X:=qf X N' scope s3 H3 fp) _ s10 σ8 H10 (.ref D) [y] (.ref D) [w] (λ_ H11=>H11=upd H10 D (.lst (zs++[y]))) I10 rfl (.cons r10 .nil) ⟨D,zs,y,rfl,rfl,hz,hl,rfl⟩) (λ_ s11 ⟨_,H11,I11,_,e11⟩=>?_) λ_ _ z=>z.elim);subst e11;exact wpAny_pure (wpAny_pure ⟨rfl,again I11 q10⟩)
 exact codeAny_compStart_list loop (T.self X.A 0 _ _ _ tn4 loop)
end
section
variable {K:Frg} {G G':Gp} {H H':Hp}
def qeX {D:Addr} {o:HO} {ws:List V} (hD:H D=some (.lst ws)) {a:Addr} {vs:List V} (h:SqT K H a vs):SqT K (upd H D o) a vs:=by
 rcases h with h|h
 ·refine .inl ?_;rcases h with h|⟨ob,h⟩
  ·have:a≠D:=by intro e;subst e;rw [hD] at h;cases h
   exact .inl (by rw [qv this];exact h)
  ·have:a≠D:=by intro e;subst e;rw [hD] at h;cases h
   exact .inr ⟨ob,by rw [qv this];exact h⟩
 ·exact .inr h
mutual
def Rp.wrD {D:Addr} {o:HO} {ws:List V} (hD:H D=some (.lst ws)):∀ {x:T} {v:V},Rp K H x v->Rp K (upd H D o) x v
 |_,_,.non=>.non
 |_,_,.bl b=>.bl b
 |_,_,.int i=>.int i
 |_,_,.str x=>.str x
 |_,_,.ref a=>.ref a
 |_,_,.tup h hs=>.tup (qeX hD h) (Rps.wrD hD hs)
def Rps.wrD {D:Addr} {o:HO} {ws:List V} (hD:H D=some (.lst ws)):∀ {x:List T} {v:List V},Rps K H x v->Rps K (upd H D o) x v
 |_,_,.nil=>.nil
 |_,_,.cons a b=>.cons (Rp.wrD hD a) (Rps.wrD hD b)
end
def HR.wrD {D:Addr} {o:HO} {ws:List V} (hr:HR K G H) (hD:H D=some (.lst ws)) (g:G D=none):HR K G (upd H D o):=λa ob e=>by
 have ha:a≠D:=by intro z;subst z;rw [g] at e;cases e
 have q:=hr a ob e;cases ob with
 |lst xs=>obtain ⟨vs,h1,h2⟩:=q;exact ⟨vs,by rw [qv ha];exact h1,h2.wrD hD⟩
 |frz xs=>obtain ⟨vs,⟨o1,h1⟩,h2⟩:=q;exact ⟨vs,⟨o1,by rw [qv ha];exact h1⟩,h2.wrD hD⟩
 |dct kvs=>obtain ⟨vs,h1,h2⟩:=q;exact ⟨vs,by rw [qv ha];exact h1,h2.wrD hD⟩
 |exn C=>have h1:H a=some (.ext (IsX a C)):=q;exact (show _=_ by rw [qv ha];exact h1)
 |tab ks xs=>obtain ⟨vs,h1,h2⟩:=q;exact ⟨vs,by rw [qv ha];exact h1,h2.wrD hD⟩
def Rel.wrD {D:Addr} {o:HO} {ws:List V} {τ:St3} {σ:L2.St} (r:Rel K τ G σ H) (hD:H D=some (.lst ws)) (g:G D=none):Rel K τ G σ (upd H D o):=
 ⟨r.hp.wrD hD g,r.len,λi t e=>let ⟨v,h1,h2⟩:=r.st i t e;⟨v,h1,h2.wrD hD⟩⟩
def Kp.wrD {D:Addr} {o:HO} (k:Kp G H G' H') (hD:H D=none):Kp G H G' (upd H' D o):=λa ob h g=>by
 obtain ⟨h1,h2⟩:=k a ob h g;exact ⟨by rw [qv (qr h hD)];exact h1,h2⟩
def qb1 {α:Type} {m:List (Option Nat)} {σ:List (Option α)} {i j:Nat} (h:m[i]?=some (some j)):(cap m σ)[i]?=some ((σ[j]?).join):=by
 unfold cap;rw [getElem?_map,h];rfl
def Rel.cap {τ:St3} {σ:L2.St} (r:Rel K τ G σ H) (m:List (Option Nat)):Rel K (cap m τ) G (L3.cap m σ) H:=by
 refine ⟨r.hp,by simp [L3.cap],λi t e=>?_⟩;obtain ⟨j,e1,e2⟩:=qaa e;obtain ⟨v,h1,h2⟩:=r.st j t e2;exact ⟨v,by rw [qb1 e1,h1];rfl,h2⟩
end
def qbr (stay:Gp->Prop) (g:TG3) (tif:TT3) (te:TE3) (q:Q3):List T->List T->St3->Gp->Prop
 |[],ys,_,G=>stay G/\∀ p,G p=none->q (.ref p) (gu G p (.lst ys))
 |x::r,ys,τ,G=>stay G/\g x τ G λτ2 G2=>tif τ2 G2 λk G3=>if k=true then te τ2 G3 λy G4=>ys.length<sizeLine/\qbr stay g tif te q r (ys++[y]) τ2 G4 else qbr stay g tif te q r ys τ2 G3
def lc3 (wi:TI3) (g:TG3) (tif:TT3) (te:TE3) (m:List (Option Nat)):TE3:=λτ G q=>wi τ G λitems stay G1=>qbr stay g tif te q items [] (cap m τ) G1
abbrev F3 (X:Cx) (ifs:List Expr) (t:TT3):Prop:=PF X ifs (lT X.K t)
def tt3:TT3:=λ_ G q=>q true G
def qne {X:Cx}:F3 X [] tt3:=λpins s σ H Q I ⟨τ,G,q,rl,h,af⟩=>qkP pins s σ H Q I (af true G h H rl.hp Kp.refl)
section
variable {X:Cx}
def qpl {elt tg iter:Expr} {ifs:List Expr} {scope:Scope} {pos:Pos} (N':List Str) (m:List (Option Nat)) {wi:TI3} {g:TG3} {tif:TT3} {te:TE3} (hc:X.calm=true) (hi:I3 X tg iter wi)
  (hg:∀ s H fp,G3 (qf X N' scope s H fp) tg g) (hf:∀ s H fp,F3 (qf X N' scope s H fp) ifs tif) (he:∀ s H fp,E3 (qf X N' scope s H fp) elt te)
  (hsc:MB X.env.scope scope=true) (hcap:JV X.N N' scope m=true) (hs:∀ x,foldedSetIterable iter X.env x=pure x:=by intro _;rfl) :
  E3 X (.ListComp elt [⟨tg,iter,ifs,0⟩] scope pos) (lc3 wi g tif te m):=
 VM (qmA (g:=lG X.K g) (tif:=lT X.K tif) (te:=lE X.K te) hc hi hg hf he hsc hcap hs) λσ H Q ⟨τ,G,q,rl,h,af⟩=>by
  refine ⟨τ,G,_,rl,h,λitems stay G1 h1 J H1 hr1 k1 ok D hD=>?_⟩;have gD:G1 D=none:=hr1.free hD;refine ⟨λi n σ' H'=>n=items.length-i/\i<=items.length/\∃ τ' G' ys vs,Rel X.K τ' G' σ' H'/\Kp G1 H1 G' H'/\H' D=some (.lst vs)/\Rps X.K H' ys vs/\G' D=none/\qbr stay g tif te q (items.drop i) ys τ' G',
   ⟨_,rfl,Nat.zero_le _,cap m τ,G1,[],[],((rl.next hr1 k1).cap m).next (hr1.laid hD) (Kp.laid hD),Kp.laid hD,qT,.nil,gD,by simpa using h1⟩,?_⟩
  rintro i n σ' H' ⟨rfl,hi,τ',G',ys,vs,rl',k',hDl,rys,gD',h'⟩;by_cases hlt:i<items.length
  ·rw [List.drop_eq_getElem_cons hlt] at h';obtain ⟨hst,h'⟩:=h';obtain ⟨go,yld,_⟩:=ok G' H' rl'.hp k' hst;have hx:items[i]?=some items[i]:=getElem?_eq_getElem hlt;refine .inr ⟨go i _ hx,λv H2 y=>?_⟩;obtain ⟨rv,hr2,k2⟩:=yld i _ v H2 hx y;have nxt:∀ {τ4:St3} {G4:Gp} {σ4:L2.St} {H4:Hp} {ys4:List T} {vs4:List V},Rel X.K τ4 G4 σ4 H4->Kp G1 H1 G4 H4->H4 D=some (.lst vs4)->Rps X.K H4 ys4 vs4->G4 D=none->qbr stay g tif te q (items.drop (i+1)) ys4 τ4 G4 ->
     ∃ n',n'<items.length-i/\(n'=items.length-(i+1)/\i+1<=items.length/\∃ τ' G' ys vs,Rel X.K τ' G' σ4 H4/\Kp G1 H1 G' H4/\H4 D=some (.lst vs)/\Rps X.K H4 ys vs/\G' D=none/\qbr stay g tif te q (items.drop (i+1)) ys τ' G'):=
    λ{τ4 G4 σ4 H4 ys4 vs4} a b c d e f=>⟨_,by omega,rfl,hlt,τ4,G4,ys4,vs4,a,b,c,d,e,f⟩
   refine ⟨_,τ',G',_,rv,rl'.next hr2 k2,h',λτ3 G3 h3 σ3 H3 rl3 k3=>⟨τ3,G3,_,rl3,h3,λk G4 h4 H4 hr4 k4=>?_⟩⟩;have kk:=(k2.trans k3).trans k4;obtain ⟨hD4,gD4⟩:=kk D _ hDl gD';have rys4:=rys.keep rl'.hp kk;cases k with
   |false=>
    rw [if_neg Bool.false_ne_true] at h4;refine qlE ?_;exact nxt (rl3.next hr4 k4) (k'.trans kk) hD4 rys4 gD4 h4
   |true=>
    rw [if_pos rfl] at h4;refine qlR ?_;refine ⟨τ3,G4,_,rl3.next hr4 k4,h4,λz G5 h5 w H5 rw5 hr5 k5=>?_⟩;obtain ⟨hD5,gD5⟩:=k5 D _ hD4 gD4;have rys5:=rys4.keep hr4 k5;exact ⟨vs,hD5,by rw [← rys.length];exact h5.1,nxt (((rl3.next hr4 k4).next hr5 k5).wrD hD5 gD5) (((k'.trans kk).trans k5).wrD hD) qT ((rys5.append (.cons rw5 .nil)).wrD hD5) gD5 h5.2⟩
  ·have e:i=items.length:=by omega
   subst e;rw [List.drop_length] at h';obtain ⟨_,_,stop⟩:=ok G' H' rl'.hp k' h'.1;refine .inl ⟨stop,af _ _ (h'.2 D gD') _ H' (.ref D) (λa o e=>?_) λa o e ga=>?_⟩
   ·by_cases ha:a=D
    ·subst ha;rw [qz] at e;cases e;exact ⟨vs,hDl,rys⟩
    ·rw [zm ha] at e;exact rl'.hp a o e
   ·obtain ⟨e1,g1⟩:=k1 a o e ga;obtain ⟨e2,g2⟩:=k' a o e1 g1;exact ⟨e2,by rw [zm (qr e1 hD)];exact g2⟩
end
structure Src (P:Program) (w:World) (it c:Addr) (St:Nat->Heap->Prop) (Has:Array Value->Heap->Prop):Prop where
 obj:∀ {k h},St k h->∃ o,h.get? it=some o/\∀ v,o.data≠.cell v
 keep:∀ {k h h'},St k h->(∀ o,h.get? it=some o->h'.get? it=some o)->St k h'
 hkeep:∀ {xs h h'},Has xs h->(∀ o,h.get? c=some o->h'.get? c=some o)->Has xs h'
 item:∀ {A:Around} {s:Shared} {k:Nat} {xs:Array Value} {x:Value} {Q:Value->Shared->Prop} {E:Value->Shared->Prop},St k s.heap->Has xs s.heap->xs[k]?=some x ->
  (∀ h',St (k+1) h'->Heap.SameBut it s.heap h'->Q x { s with heap:=h' })->wpAny (model P w) A (Builtin.SmallTypes.nextOf (.ref it)) Q E s
 done:∀ {A:Around} {s:Shared} {k:Nat} {xs:Array Value} {Q:Value->Shared->Prop} {E:Value->Shared->Prop},A.handled=none->St k s.heap->Has xs s.heap->xs[k]?=none ->
  (∀ h' e,Heap.ExtBut it s.heap h'->(∃ o,h'.get? e=some o/\o.cls=.type "StopIteration")->E (.ref e) { s with heap:=h' })->wpAny (model P w) A (Builtin.SmallTypes.nextOf (.ref it)) Q E s
def qcY {P:Program} {w:World} (it l:Addr):Src P w it l (λk h=>h.IsListIter it l k) (λxs h=>h.IsList l xs) where
 obj:=λst=>let ⟨o,e,_,d⟩:=st;⟨o,e,λv z=>by rw [d] at z;cases z⟩
 keep:=λst k=>st.at λo e=>k o e
 hkeep:=λst k=>st.at λo e=>k o e
 item:=λst hl hx hQ=>wpAny_nextOf_list_item st hl hx hQ
 done:=λhh st hl hx hE=>wpAny_nextOf_list_end hh st hl hx hE
def LP {P:Program} {w:World} {A:Around} {s:Shared} {it t:Addr} {i:Nat} {its:Array Value} {x:Value} {Q:Value->Shared->Prop} {E:Value->Shared->Prop} (hit:s.heap.IsTupleIter it t i) (ht:s.heap.IsTuple t its) (hx:its[i]?=some x)
  (hQ:∀ h',h'.IsTupleIter it t (i+1)->Heap.SameBut it s.heap h'->Q x { s with heap:=h' }):wpAny (model P w) A (Builtin.SmallTypes.nextOf (.ref it)) Q E s:=by
 obtain ⟨o1,e1,c1,d1⟩:=id hit;obtain ⟨o2,e2,_,n2,d2⟩:=ht;unfold Builtin.SmallTypes.nextOf;refine wpAny_bind (wpAny_callSpecial?_slot (name:=Str.ofString "__next__") hit.typeIs F.slot_tuple_iterator_next (wpAny_call_entry F.slot_tuple_iterator_next hit.typeIs F.entry_tuple_iterator_next ?_ (F.args_tuple_iterator_next_1 _)));refine wpAny_bind (m:=field (.ref it) 0) (wpAny_field e1 d1 (x:=.ref t) rfl ?_);rw [if_neg (show ¬ ((Value.ref t==Value.none)=true) by exact Bool.false_ne_true)];refine wpAny_bind (m:=field (.ref it) 1) (wpAny_field e1 d1 (x:=.int i 0) rfl ?_);refine wpAny_bind (m:=seqItems? (.ref t)) (wpAny_seqItems e2 d2 ?_);simp only [Int.toNat_natCast,hx];refine wpAny_bind (wpAny_setField e1 d1 (by simp) (wpAny_pure ⟨x,rfl,wpAny_pure (hQ _ ⟨_,Heap.get?_update_self _ e1 (Obj.isFreed_of_fields (Obj.data_mapFields d1 _)),(Obj.cls_mapFields ..).trans c1,?_⟩ (Heap.SameBut.update ..))⟩));rw [Obj.data_mapFields d1];simp [rawInt]
def DJ {P:Program} {w:World} {A:Around} {s:Shared} {it t:Addr} {i:Nat} {its:Array Value} {Q:Value->Shared->Prop} {E:Value->Shared->Prop} (hh:A.handled=none) (hit:s.heap.IsTupleIter it t i) (ht:s.heap.IsTuple t its) (hx:its[i]?=none)
  (hE:∀ h' e,Heap.ExtBut it s.heap h'->(∃ o,h'.get? e=some o/\o.cls=.type "StopIteration")->E (.ref e) { s with heap:=h' }):wpAny (model P w) A (Builtin.SmallTypes.nextOf (.ref it)) Q E s:=by
 obtain ⟨o1,e1,c1,d1⟩:=id hit;obtain ⟨o2,e2,_,n2,d2⟩:=ht;unfold Builtin.SmallTypes.nextOf;refine wpAny_bind (wpAny_callSpecial?_slot (name:=Str.ofString "__next__") hit.typeIs F.slot_tuple_iterator_next (wpAny_call_entry F.slot_tuple_iterator_next hit.typeIs F.entry_tuple_iterator_next ?_ (F.args_tuple_iterator_next_1 _)));refine wpAny_bind (m:=field (.ref it) 0) (wpAny_field e1 d1 (x:=.ref t) rfl ?_);rw [if_neg (show ¬ ((Value.ref t==Value.none)=true) by exact Bool.false_ne_true)];refine wpAny_bind (m:=field (.ref it) 1) (wpAny_field e1 d1 (x:=.int i 0) rfl ?_);refine wpAny_bind (m:=seqItems? (.ref t)) (wpAny_seqItems e2 d2 ?_);simp only [Int.toNat_natCast,hx];refine wpAny_bind (wpAny_rule (wpAny_bind (wpAny_setField e1 d1 (by simp) ?_)));refine wpAny_bind (m:=newExc (.type "StopIteration") []) ?_;simp only [newExc,newTuple];refine wpAny_bind (wpAny_newObj_type ?_ (by size_fits));refine wpAny_bind (m:=firstArgMember _ _) (wpAny_of_eq (a:=Value.none) (by first|rfl|(simp only [firstArgMember]<;>rfl)) (wpAny_newObj_type ?_ (by size_fits)));simp only [raiseNew];refine wpAny_bind (wpAny_handled ?_)
 first|rw [show A.in1.handled=Option.none from hh]|rw [show A.handled=Option.none from hh]
 exact wpAny_bind (wpAny_pure (wpAny_throw (hE _ _ (((Heap.SameBut.update ..).extBut.push _).push _) ⟨_,Heap.get?_push_size _ rfl,rfl⟩)))
def qf1 {P:Program} {w:World} (it t:Addr):Src P w it t (λk h=>h.IsTupleIter it t k) (λxs h=>h.IsTuple t xs) where
 obj:=λst=>let ⟨o,e,_,d⟩:=st;⟨o,e,λv z=>by rw [d] at z;cases z⟩
 keep:=λst k=>st.at λo e=>k o e
 hkeep:=λst k=>st.at λo e=>k o e
 item:=λst hl hx hQ=>LP st hl hx hQ
 done:=λhh st hl hx hE=>DJ hh st hl hx hE
structure ZA (z ti to i1 i2 c1 c2:Addr):Prop where
 ne:([z,ti,to,i1,i2]:List Addr).Nodup
 a1:c1∉[z,to,i1,i2]
 a2:c2∉[z,to,i1,i2]
section
variable {P:Program} {w:World} {A:Around} {s:Shared} {z ti to i1 i2 c1 c2:Addr} {S1 S2:Nat->Heap->Prop} {H1 H2:Array Value->Heap->Prop} {k1 k2:Nat} {xs ys:Array Value} {x y a b:Value} {E:Value->Shared->Prop}
def qbz {Q:Value->Shared->Prop} (R1:Src P w i1 c1 S1 H1) (R2:Src P w i2 c2 S2 H2) (D:ZA z ti to i1 i2 c1 c2) (hz:IsZip s.heap z ti to .none) (hi:IsPair s.heap ti (.ref i1) (.ref i2)) (ho:IsPair s.heap to a b)
  (p1:S1 k1 s.heap) (p2:S2 k2 s.heap) (l1:H1 xs s.heap) (l2:H2 ys s.heap) (hx:xs[k1]?=some x) (hy:ys[k2]?=some y)
  (hQ:∀ h',IsZip h' z ti to (rawInt s.heap.objs.size)->IsPair h' to x y->S1 (k1+1) h'->S2 (k2+1) h'->IsPair h' s.heap.objs.size x y->(∀ c o,c∉[z,to,i1,i2]->s.heap.get? c=some o->h'.get? c=some o)->Q (.ref s.heap.objs.size) { s with heap:=h' }) :
  wpAny (model P w) A (Builtin.«zip.__next__» ⟨[.ref z],[]⟩) (λfin s'=>∃ v,fin=.done (.ret v)/\Q v s') E s:=by
 have ne:=D.ne;simp only [List.nodup_cons,mem_cons,not_mem_nil,not_or,or_false] at ne;obtain ⟨⟨n1,n2,n3,n4⟩,⟨n5,n6,n7⟩,⟨n8,n9⟩,n10,_⟩:=ne;have a1:=D.a1;have a2:=D.a2;simp only [mem_cons,not_mem_nil,not_or,or_false] at a1 a2;obtain ⟨q1,q2,q3,q4⟩:=a1;obtain ⟨r1,r2,r3,r4⟩:=a2;refine wpAny_bind (m:=field (.ref z) 2) (wpAny_field hz rfl (x:=.bool false) rfl ?_);refine wpAny_bind (m:=field (.ref z) 3) (wpAny_field hz rfl (x:=.ref ti) rfl ?_);refine wpAny_bind (wpAny_seqItems hi rfl ?_);refine wpAny_bind (m:=Builtin.SmallTypes.ownedTupleIsFree (.ref z)) ?_;unfold Builtin.SmallTypes.ownedTupleIsFree;refine wpAny_bind (wpAny_field hz rfl (x:=Value.none) rfl (wpAny_pure ?_));simp only [if_true];refine wpAny_bind (wpAny_rule (wpAny_bind (wpAny_field hz rfl (x:=.ref to) rfl (wpAny_bind (wpAny_setField_rec hz (by simp) λg1 z1 s1=>?_)))))
 replace z1:IsZip g1 z ti to Value.ellipsis:=z1
 refine wpAny_bind ?_;simp only [List.zipIdx_cons,List.zipIdx_nil,List.forIn_cons,List.forIn_nil];refine wpAny_bind (wpAny_bind (wpAny_onRaise (wpAny_bind (m:=Builtin.SmallTypes.nextOf (.ref i1)) ?_)));refine R1.item (R1.keep p1 λo e=>s1.extBut _ _ (Ne.symm n3) e) (R1.hkeep l1 λo e=>s1.extBut _ _ q1 e) hx λg2 p12 s2=>wpAny_pure ?_;have t2:IsPair g2 to a b:=s2.extBut _ _ n8 (s1.extBut _ _ (Ne.symm n2) ho);refine wpAny_bind (wpAny_seqItems t2 rfl (wpAny_bind (wpAny_updateSeq_pair t2 λg3 t3 s3=>?_)))
 replace t3:IsPair g3 to x b:=t3
 refine wpAny_bind (wpAny_letGo (wpAny_pure (wpAny_bind (wpAny_bind (wpAny_onRaise (wpAny_bind (m:=Builtin.SmallTypes.nextOf (.ref i2)) ?_))))));refine R2.item (R2.keep p2 λo e=>s3.extBut _ _ (Ne.symm n9) (s2.extBut _ _ (Ne.symm n10) (s1.extBut _ _ (Ne.symm n4) e))) (R2.hkeep l2 λo e=>s3.extBut _ _ r2 (s2.extBut _ _ r3 (s1.extBut _ _ r1 e))) hy λg4 p24 s4=>wpAny_pure ?_;have t4:IsPair g4 to x b:=s4.extBut _ _ n9 t3;refine wpAny_bind (wpAny_seqItems t4 rfl (wpAny_bind (wpAny_updateSeq_pair t4 λg5 t5 s5=>?_)))
 replace t5:IsPair g5 to x y:=t5
 refine wpAny_bind (wpAny_letGo (wpAny_pure (wpAny_pure (wpAny_bind (wpAny_seqItems t5 rfl (wpAny_bind (wpAny_newTuple ?_)))))));have sz:g5.objs.size=s.heap.objs.size:=by rw [s5.1,s4.1,s3.1,s2.1,s1.1]
 have z5:IsZip g5 z ti to Value.ellipsis:=s5.extBut _ _ n2 (s4.extBut _ _ n4 (s3.extBut _ _ n2 (s2.extBut _ _ n3 z1)));have kk:∀ c o,c∉[z,to,i1,i2]->s.heap.get? c=some o->g5.get? c=some o:=λc o hc e=>by
  simp only [mem_cons,not_mem_nil,not_or,or_false] at hc;exact s5.extBut _ _ hc.2.1 (s4.extBut _ _ hc.2.2.2 (s3.extBut _ _ hc.2.1 (s2.extBut _ _ hc.2.2.1 (s1.extBut _ _ hc.1 e))))
 have p15:S1 (k1+1) g5:=R1.keep p12 λo e=>s5.extBut _ _ (Ne.symm n8) (s4.extBut _ _ n10 (s3.extBut _ _ (Ne.symm n8) e));have p25:S2 (k2+1) g5:=R2.keep p24 λo e=>s5.extBut _ _ (Ne.symm n9) e;have zlt:z<g5.objs.size:=Heap.lt_size z5;refine wpAny_bind (m:=Builtin.SmallTypes.ownedTupleHandOut (.ref z) (.ref g5.objs.size)) ?_;unfold Builtin.SmallTypes.ownedTupleHandOut;have z6:IsZip (g5.push { cls:=.type "tuple",data:=.seq #[x,y] }) z ti to Value.ellipsis:=Heap.get?_push_of_some _ z5;refine wpAny_bind (wpAny_setField_rec z6 (by simp) λg7 z7 s7=>?_)
 replace z7:IsZip g7 z ti to (rawInt g5.objs.size):=z7
 refine wpAny_setField_rec z7 (by simp) λg8 z8 s8=>?_
 replace z8:IsZip g8 z ti to (rawInt g5.objs.size):=z8
 have up:∀ c o,c≠z->g5.get? c=some o->g8.get? c=some o:=λc o hc e=>s8.extBut _ _ hc (s7.extBut _ _ hc (Heap.get?_push_of_some _ e));have t8:IsPair g8 g5.objs.size x y:=s8.extBut _ _ (Nat.ne_of_gt zlt) (s7.extBut _ _ (Nat.ne_of_gt zlt) (Heap.get?_push_size _ rfl));rw [sz] at z8 t8;refine wpAny_pure ⟨_,rfl,?_⟩;show Q (Value.ref g5.objs.size) _;rw [sz];exact hQ g8 z8 (up _ _ (Ne.symm n2) t5) (R1.keep p15 λo e=>up _ o (Ne.symm n3) e) (R2.keep p25 λo e=>up _ o (Ne.symm n4) e) t8 λc o hc e=>up c o (λq=>hc (by simp [q])) (kk c o hc e)
def qgl {Q:Fin->Shared->Prop} (hh:A.handled=none) (R1:Src P w i1 c1 S1 H1) (R2:Src P w i2 c2 S2 H2) (D:ZA z ti to i1 i2 c1 c2) (hz:IsZip s.heap z ti to .none) (hi:IsPair s.heap ti (.ref i1) (.ref i2)) (ho:IsPair s.heap to a b)
  (p1:S1 k1 s.heap) (p2:S2 k2 s.heap) (l1:H1 xs s.heap) (l2:H2 ys s.heap) (hend:xs[k1]?=none\/ys[k2]?=none)
  (hE:∀ h' e,(∀ c o,c∉[z,to,i1,i2]->s.heap.get? c=some o->h'.get? c=some o)->(∃ o,h'.get? e=some o/\o.cls=.type "StopIteration")->E (.ref e) { s with heap:=h' }) :
  wpAny (model P w) A (Builtin.«zip.__next__» ⟨[.ref z],[]⟩) Q E s:=by
 have ne:=D.ne;simp only [List.nodup_cons,mem_cons,not_mem_nil,not_or,or_false] at ne;obtain ⟨⟨n1,n2,n3,n4⟩,⟨n5,n6,n7⟩,⟨n8,n9⟩,n10,_⟩:=ne;have a1:=D.a1;have a2:=D.a2;simp only [mem_cons,not_mem_nil,not_or,or_false] at a1 a2;obtain ⟨q1,q2,q3,q4⟩:=a1;obtain ⟨r1,r2,r3,r4⟩:=a2;refine wpAny_bind (m:=field (.ref z) 2) (wpAny_field hz rfl (x:=.bool false) rfl ?_);refine wpAny_bind (m:=field (.ref z) 3) (wpAny_field hz rfl (x:=.ref ti) rfl ?_);refine wpAny_bind (wpAny_seqItems hi rfl ?_);refine wpAny_bind (m:=Builtin.SmallTypes.ownedTupleIsFree (.ref z)) ?_;unfold Builtin.SmallTypes.ownedTupleIsFree;refine wpAny_bind (wpAny_field hz rfl (x:=Value.none) rfl (wpAny_pure ?_));simp only [if_true];refine wpAny_bind (wpAny_rule (wpAny_bind (wpAny_field hz rfl (x:=.ref to) rfl (wpAny_bind (wpAny_setField_rec hz (by simp) λg1 z1 s1=>?_)))))
 replace z1:IsZip g1 z ti to Value.ellipsis:=z1
 refine wpAny_bind ?_;simp only [List.zipIdx_cons,List.zipIdx_nil,List.forIn_cons,List.forIn_nil];refine wpAny_bind (wpAny_bind (wpAny_onRaise (wpAny_bind (m:=Builtin.SmallTypes.nextOf (.ref i1)) ?_)));cases hx:xs[k1]? with
 |none=>
  refine R1.done hh (R1.keep p1 λo e=>s1.extBut _ _ (Ne.symm n3) e) (R1.hkeep l1 λo e=>s1.extBut _ _ q1 e) hx λg2 e s2 ⟨oe,he,ce⟩=>?_;have z2:IsZip g2 z ti to Value.ellipsis:=s2 _ _ n3 z1;have ez:e≠z:=λq=>by subst q;rw [z2] at he;cases he;simp at ce
  refine wpAny_setField_rec z2 (by simp) λg3 _ s3=>hE g3 e (λc o hc q=>?_) ⟨oe,s3.extBut _ _ ez he,ce⟩;simp only [mem_cons,not_mem_nil,not_or,or_false] at hc;exact s3.extBut _ _ hc.1 (s2 _ _ hc.2.2.1 (s1.extBut _ _ hc.1 q))
 |some x=>
  have hy:ys[k2]?=none:=by rcases hend with q|q;rw [hx] at q;cases q;exact q
  refine R1.item (R1.keep p1 λo e=>s1.extBut _ _ (Ne.symm n3) e) (R1.hkeep l1 λo e=>s1.extBut _ _ q1 e) hx λg2 p12 s2=>wpAny_pure ?_;have t2:IsPair g2 to a b:=s2.extBut _ _ n8 (s1.extBut _ _ (Ne.symm n2) ho);refine wpAny_bind (wpAny_seqItems t2 rfl (wpAny_bind (wpAny_updateSeq_pair t2 λg3 t3 s3=>?_)));refine wpAny_bind (wpAny_letGo (wpAny_pure (wpAny_bind (wpAny_bind (wpAny_onRaise (wpAny_bind (m:=Builtin.SmallTypes.nextOf (.ref i2)) ?_))))));refine R2.done hh (R2.keep p2 λo e=>s3.extBut _ _ (Ne.symm n9) (s2.extBut _ _ (Ne.symm n10) (s1.extBut _ _ (Ne.symm n4) e))) (R2.hkeep l2 λo e=>s3.extBut _ _ r2 (s2.extBut _ _ r3 (s1.extBut _ _ r1 e))) hy λg4 e s4 ⟨oe,he,ce⟩=>?_;have z4:IsZip g4 z ti to Value.ellipsis:=s4 _ _ n4 (s3.extBut _ _ n2 (s2.extBut _ _ n3 z1));have ez:e≠z:=λq=>by subst q;rw [z4] at he;cases he;simp at ce
  refine wpAny_setField_rec z4 (by simp) λg5 _ s5=>hE g5 e (λc o hc q=>?_) ⟨oe,s5.extBut _ _ ez he,ce⟩;simp only [mem_cons,not_mem_nil,not_or,or_false] at hc;exact s5.extBut _ _ hc.1 (s4 _ _ hc.2.2.2 (s3.extBut _ _ hc.2.1 (s2.extBut _ _ hc.2.2.1 (s1.extBut _ _ hc.1 q))))
end
abbrev qnD (b:Bool):String:=if b then "list_iterator" else "tuple_iterator"
abbrev zo (b:Bool) (c:Addr):Obj:={ cls:=.type (qnD b),data:=.fields #[.ref c,.int 0 0] }
def qcE (b:Bool) (it c:Addr) (k:Nat) (h:Heap):Prop:=match b with|true=>h.IsListIter it c k|false=>h.IsTupleIter it c k
def RH (b:Bool) (c:Addr) (xs:Array Value) (h:Heap):Prop:=match b with|true=>h.IsList c xs|false=>h.IsTuple c xs
def zq {P:Program} {w:World} (b:Bool) (it c:Addr):Src P w it c (qcE b it c) (RH b c):=by
 cases b
 ·exact qf1 it c
 ·exact qcY it c
def R9 {P:Program} {w:World} {A:Around} {s:Shared} {b:Bool} {c:Addr} {xs:Array Value} {Q:Value->Shared->Prop} {E:Value->Shared->Prop} (h:RH b c xs s.heap) (q:Q (.ref s.heap.objs.size) { s with heap:=s.heap.push (zo b c) }) :
  wpAny (model P w) A (pyIter (.ref c)) Q E s:=by
 cases b
 ·exact wpAny_pyIter_tuple (show s.heap.IsTuple c xs from h) q
 ·exact wpAny_pyIter_list (show s.heap.IsList c xs from h) q
def MX {b:Bool} {c:Addr} {xs:Array Value} {h:Heap} {o:Obj} (q:RH b c xs h):RH b c xs (h.push o):=by
 cases b
 ·exact (show h.IsTuple c xs from q).at λ_ e=>Heap.get?_push_of_some _ e
 ·exact (show h.IsList c xs from q).at λ_ e=>Heap.get?_push_of_some _ e
abbrev zh1 (h:Heap) (o1:Obj):Heap:=h.push o1
abbrev zh2 (h:Heap) (o1 o2:Obj):Heap:=(zh1 h o1).push o2
abbrev zh3 (h:Heap) (o1 o2:Obj):Heap:=(zh2 h o1 o2).push { cls:=.type "tuple",data:=.seq #[.ref h.objs.size,.ref (zh1 h o1).objs.size] }
abbrev zh4 (h:Heap) (o1 o2:Obj):Heap:=(zh3 h o1 o2).push { cls:=.type "tuple",data:=.seq #[.none,.none] }
abbrev zh5 (h:Heap) (o1 o2:Obj):Heap:=(zh4 h o1 o2).push { cls:=.type "zip",data:=.fields #[.none,.bool false,.bool false,.ref (zh2 h o1 o2).objs.size,.ref (zh3 h o1 o2).objs.size] }
def qa5 (c1 c2:Addr) (o1 o2:Obj) :
  Meets (Builtin.«zip.__new__» ⟨[.type "zip",.ref c1,.ref c2],[]⟩) (λ_ R s=>
   (∀ (P:Program) (w:World) (A:Around) (Q:Value->Shared->Prop) (E:Value->Shared->Prop),Q (.ref s.heap.objs.size) { s with heap:=zh1 s.heap o1 }->wpAny (model P w) A (pyIter (.ref c1)) Q E s) /\
   (∀ (P:Program) (w:World) (A:Around) (Q:Value->Shared->Prop) (E:Value->Shared->Prop),Q (.ref (zh1 s.heap o1).objs.size) { s with heap:=zh2 s.heap o1 o2 }->wpAny (model P w) A (pyIter (.ref c2)) Q E { s with heap:=zh1 s.heap o1 }) /\
   R (.ok (.ret (.ref (zh4 s.heap o1 o2).objs.size))) { s with heap:=zh5 s.heap o1 o2 }):=
 .of_wp λprog w A R s h=>by
  obtain ⟨hp,g,d,tk,os⟩:=s;obtain ⟨h1,h2,h⟩:=h;have hsub:=sub_zip;have k1:=λA Q E=>h1 prog w A Q E;have k2:=λA Q E=>h2 prog w A Q E
  wp_walk using k1 _ _ _,k2 _ _ _
  exact ⟨_,rfl,h⟩
def qcj (b1 b2:Bool) (z ti to i1 i2 c1 c2:Addr) (k:Nat) (h:Heap):Prop:=
 IsZip h z ti to .none/\IsPair h ti (.ref i1) (.ref i2)/\(∃ a b,IsPair h to a b)/\qcE b1 i1 c1 k h/\qcE b2 i2 c2 k h
section
variable {P:Program} {w:World} {A:Around} {s:Shared} {E:Value->Shared->Prop}
def qb0 {b1 b2:Bool} {c1 c2:Addr} {xs ys:Array Value} {Q:Value->Shared->Prop} (h1:RH b1 c1 xs s.heap) (h2:RH b2 c2 ys s.heap)
  (q:∀ h',qcj b1 b2 (s.heap.objs.size+4) (s.heap.objs.size+2) (s.heap.objs.size+3) s.heap.objs.size (s.heap.objs.size+1) c1 c2 0 h'->(∀ c o,s.heap.get? c=some o->h'.get? c=some o)->Q (.ref (s.heap.objs.size+4)) { s with heap:=h' }) :
  wpAny (model P w) A (call (.type "zip") [.ref c1,.ref c2]) Q E s:=by
 refine callType_new F.called_zip (by decide) (F.typeCall_zip_2 _ _) (F.newCall_zip_2 _ _) (λobj=>F.args_object_init_3 obj _ _) F.entry_zip_new
  (qa5 c1 c2 (zo b1 c1) (zo b2 c2)) ⟨λP w A Q E q=>R9 h1 q,λP w A Q E q=>R9 (s:={ s with heap:=zh1 s.heap (zo b1 c1) }) (MX h2) q,?_⟩
 have e1:(zh1 s.heap (zo b1 c1)).objs.size=s.heap.objs.size+1:=Heap.size_push ..;have e2:(zh2 s.heap (zo b1 c1) (zo b2 c2)).objs.size=s.heap.objs.size+2:=by rw [Heap.size_push,e1]
 have e3:(zh3 s.heap (zo b1 c1) (zo b2 c2)).objs.size=s.heap.objs.size+3:=by rw [Heap.size_push,e2]
 have e4:(zh4 s.heap (zo b1 c1) (zo b2 c2)).objs.size=s.heap.objs.size+4:=by rw [Heap.size_push,e3]
 have g5:(zh5 s.heap (zo b1 c1) (zo b2 c2)).get? (zh4 s.heap (zo b1 c1) (zo b2 c2)).objs.size=some _:=Heap.get?_push_size _ rfl;have g4:(zh5 s.heap (zo b1 c1) (zo b2 c2)).get? (zh3 s.heap (zo b1 c1) (zo b2 c2)).objs.size=some _:=Heap.get?_push_of_some _ (Heap.get?_push_size _ rfl);have g3:(zh5 s.heap (zo b1 c1) (zo b2 c2)).get? (zh2 s.heap (zo b1 c1) (zo b2 c2)).objs.size=some _:=Heap.get?_push_of_some _ (Heap.get?_push_of_some _ (Heap.get?_push_size _ rfl));have g2:(zh5 s.heap (zo b1 c1) (zo b2 c2)).get? (zh1 s.heap (zo b1 c1)).objs.size=some (zo b2 c2):=Heap.get?_push_of_some _ (Heap.get?_push_of_some _ (Heap.get?_push_of_some _ (Heap.get?_push_size _ rfl)));have g1:(zh5 s.heap (zo b1 c1) (zo b2 c2)).get? s.heap.objs.size=some (zo b1 c1):=Heap.get?_push_of_some _ (Heap.get?_push_of_some _ (Heap.get?_push_of_some _ (Heap.get?_push_of_some _ (Heap.get?_push_size _ rfl))));show _/\_;rw [e2,e3,e4] at g5;rw [e1,e2] at g3;rw [e3] at g4;rw [e1] at g2;rw [e4];refine ⟨⟨_,g5,rfl⟩,q _ ⟨g5,g3,⟨_,_,g4⟩,?_,?_⟩ λc o e=>Heap.get?_push_of_some _ (Heap.get?_push_of_some _ (Heap.get?_push_of_some _ (Heap.get?_push_of_some _ (Heap.get?_push_of_some _ e))))⟩
 ·cases b1<;>exact ⟨_,g1,rfl,rfl⟩
 ·cases b2<;>exact ⟨_,g2,rfl,rfl⟩
def qcd {b1 b2:Bool} {z ti to i1 i2 c1 c2:Addr} {k:Nat} {xs ys:Array Value} {x y:Value} {Q:Option Value->Shared->Prop} (D:ZA z ti to i1 i2 c1 c2) (st:qcj b1 b2 z ti to i1 i2 c1 c2 k s.heap) (l1:RH b1 c1 xs s.heap) (l2:RH b2 c2 ys s.heap) (hx:xs[k]?=some x) (hy:ys[k]?=some y)
  (hQ:∀ h',IsZip h' z ti to (rawInt s.heap.objs.size)->IsPair h' ti (.ref i1) (.ref i2)->(∃ a b,IsPair h' to a b)->qcE b1 i1 c1 (k+1) h'->qcE b2 i2 c2 (k+1) h'->IsPair h' s.heap.objs.size x y->(∀ c o,c∉[z,to,i1,i2]->s.heap.get? c=some o->h'.get? c=some o)->Q (some (.ref s.heap.objs.size)) { s with heap:=h' }) :
  wpAny (model P w) A (pyNext (.ref z)) Q E s:=by
 obtain ⟨hz,hi,⟨a,b,ho⟩,p1,p2⟩:=st;have ty:s.TypeIs (.ref z) "zip" := ⟨_,hz,rfl⟩
 have nti:ti∉[z,to,i1,i2]:=by
  have ne:=D.ne;simp only [List.nodup_cons,mem_cons,not_mem_nil,not_or,or_false] at ne ⊢;exact ⟨Ne.symm ne.1.1,ne.2.1.1,ne.2.1.2.1,ne.2.1.2.2⟩
 unfold pyNext;exact wpAny_bind (wpAny_attempt (wpAny_callSpecial?_slot (name:=Str.ofString "__next__") ty F.slot_zip_next (wpAny_call_entry F.slot_zip_next ty F.entry_zip_next
  (qbz (zq b1 i1 c1) (zq b2 i2 c2) D hz hi ho p1 p2 l1 l2 hx hy λh' u1 u2 u3 u4 u5 u6=>wpAny_pure (hQ h' u1 (u6 _ _ nti hi) ⟨_,_,u2⟩ u3 u4 u5 u6)) (F.args_zip_next_1 _))))
def C1 {b1 b2:Bool} {z ti to i1 i2 c1 c2:Addr} {k:Nat} {xs ys:Array Value} {Q:Option Value->Shared->Prop} (hh:A.handled=none) (D:ZA z ti to i1 i2 c1 c2) (st:qcj b1 b2 z ti to i1 i2 c1 c2 k s.heap) (l1:RH b1 c1 xs s.heap) (l2:RH b2 c2 ys s.heap) (hend:xs[k]?=none\/ys[k]?=none)
  (hQ:∀ h',(∀ c o,c∉[z,to,i1,i2]->s.heap.get? c=some o->h'.get? c=some o)->Q none { s with heap:=h' }):wpAny (model P w) A (pyNext (.ref z)) Q E s:=by
 obtain ⟨hz,hi,⟨a,b,ho⟩,p1,p2⟩:=st;have ty:s.TypeIs (.ref z) "zip" := ⟨_,hz,rfl⟩
 unfold pyNext;refine wpAny_bind (wpAny_attempt (wpAny_callSpecial?_slot (name:=Str.ofString "__next__") ty F.slot_zip_next (wpAny_call_entry F.slot_zip_next ty F.entry_zip_next
  (qgl hh (zq b1 i1 c1) (zq b2 i2 c2) D hz hi ho p1 p2 l1 l2 hend λh' e hk ⟨o,q1,q2⟩=>?_) (F.args_zip_next_1 _))))
 exact wpAny_bind (wpAny_isInstance (T:="StopIteration") (b:=true) ⟨o,q1,q2⟩ isSubtype_stop (wpAny_pure (hQ _ hk)))
end
def SqB (K:Frg) (b:Bool) (H:Hp) (a:Addr) (xs:List V):Prop:=match b with|true=>SqL K H a xs|false=>SqT K H a xs
def SqB.get {X:Cx} {pins:List (Addr×Obj)} {σ:L2.St} {H:Hp} {s:Shared} {b:Bool} {a:Addr} {xs:List V} (I:Inv X pins σ H s) (h:SqB X.K b H a xs):∃ its:List Value,zx xs its/\RH b a its.toArray s.heap/\xs.length<=sizeLine:=by
 cases b
 ·obtain ⟨its,r,p,hz⟩:=I.tuple (show SqT X.K H a xs from h);exact ⟨its,r,(show s.heap.IsTuple a its.toArray from p),hz⟩
 ·obtain ⟨its,r,p,hz⟩:=I.list (show SqL X.K H a xs from h);exact ⟨its,r,p.isList,hz⟩
def SqB.inj {X:Cx} {pins:List (Addr×Obj)} {σ:L2.St} {H:Hp} {s:Shared} {b:Bool} {a:Addr} {xs ys:List V} (I:Inv X pins σ H s) (h:SqB X.K b H a xs) (h':SqB X.K b H a ys):xs=ys:=by
 cases b
 ·exact I.tuple_inj h h'
 ·exact I.list_inj h h'
def Itz (K:Frg) (b1 b2:Bool) (c1 c2:Addr):It:=
  ⟨λi H=>∃ xs ys x y,SqB K b1 H c1 xs/\SqB K b2 H c2 ys/\xs[i]?=some x/\ys[i]?=some y,
   λi H v H'=>∃ p x y,H p=none/\v=.ref p/\H'=upd H p (.tup [x,y])/\(∀ xs,SqB K b1 H c1 xs->xs[i]?=some x)/\(∀ ys,SqB K b2 H c2 ys->ys[i]?=some y),
   λi H=>∃ xs ys,SqB K b1 H c1 xs/\SqB K b2 H c2 ys/\(xs.length<=i\/ys.length<=i)⟩
def qfj {b:Bool} {c:Addr} {xs:Array Value} {h:Heap} (q:RH b c xs h):c<h.objs.size:=by
 cases b
 ·obtain ⟨o,e,_⟩:=(show h.IsTuple c xs from q);exact Heap.lt_size e
 ·obtain ⟨o,e,_⟩:=(show h.IsList c xs from q);exact Heap.lt_size e
def qb9 {P:Program} {w:World} {K:Frg} {es:List Expr} {k1:Nat} {pt:Pos} {b1 b2:Bool} {z ti to i1 i2 c1 c2:Addr} (D:ZA z ti to i1 i2 c1 c2):Turn P w K (.Tuple es k1 pt) (Itz K b1 b2 c1 c2) [z,ti,to,i1,i2] z (qcj b1 b2 z ti to i1 i2 c1 c2) where
 mem:=by simp
 obj:=λi h ⟨hz,hi,⟨a,b,ho⟩,p1,p2⟩ c hc=>by
  simp only [mem_cons,not_mem_nil,or_false] at hc;rcases hc with rfl|rfl|rfl|rfl|rfl
  ·exact ⟨_,hz,λv q=>by cases q⟩
  ·exact ⟨_,hi,λv q=>by cases q⟩
  ·exact ⟨_,ho,λv q=>by cases q⟩
  ·exact (zq (P:=P) (w:=w) b1 c c1).obj p1
  ·exact (zq (P:=P) (w:=w) b2 c c2).obj p2
 keep:=λi h h' ⟨hz,hi,⟨a,b,ho⟩,p1,p2⟩ k=>
  ⟨k z (by simp) _ hz,k ti (by simp) _ hi,⟨a,b,k to (by simp) _ ho⟩,(zq (P:=P) (w:=w) b1 i1 c1).keep p1 λo e=>k i1 (by simp) o e,(zq (P:=P) (w:=w) b2 i2 c2).keep p2 λo e=>k i2 (by simp) o e⟩
 item:=by
  intro X hP hw hK hc i pins s σ H E I hf st hg;subst hP hw hK;obtain ⟨xs,ys,x,y,sq1,sq2,hx,hy⟩:=hg;obtain ⟨its1,rv1,l1,z1⟩:=sq1.get I;obtain ⟨its2,rv2,l2,z2⟩:=sq2.get I;obtain ⟨u1,hu1,ru1⟩:=rv1.get hx;obtain ⟨u2,hu2,ru2⟩:=rv2.get hy;refine qcd D st l1 l2 (x:=u1) (y:=u2) (by simpa using hu1) (by simpa using hu2) λh' hz hi ho p1 p2 hp hk=>?_;have hfr:H s.heap.objs.size=none:=I.fresh;have free:∀ b∈[z,ti,to,i1,i2],H b=none:=λb hb=>(hf b hb).1;refine ⟨_,rfl,wpAny_letOwnedTupleGo_zip hz λh2 hz2 s2=>?_⟩;have zlt:z<s.heap.objs.size:=Heap.lt_size st.1;have hp2:IsPair h2 s.heap.objs.size u1 u2:=(s2.2 _ (Nat.ne_of_gt zlt)).trans hp;have ne:=D.ne;simp only [List.nodup_cons,mem_cons,not_mem_nil,not_or,or_false] at ne;have up:∀ c o,c≠z->h'.get? c=some o->h2.get? c=some o:=λc o hc e=>(s2.2 c hc).trans e;have kk:∀ c o,c∉[z,to,i1,i2]->s.heap.get? c=some o->h2.get? c=some o:=λc o hc e=>up c o (λq=>hc (by simp [q])) (hk c o hc e);have I3:Inv X pins σ (upd H s.heap.objs.size (.tup [x,y])) { s with heap:=h2 }:=by
   refine I.step (g':=s.gens) (d':=s.drawn) (t':=s.toks) (ch:=[z,to,i1,i2]) (λb hb=>?_) (λb o _ _ hcb e _=>kk b o hcb e) (λb o _ _ hcb e _=>⟨o.slots,kk b o hcb e⟩) (λb o _ e n=>by rw [qv (Nat.ne_of_lt (Heap.lt_size e))];exact n) (λb o hcb e=>⟨o,kk b o hcb e⟩)
    (λb _ e=>by rw [qv (qr e hfr)];exact e) (λb _ _ e=>by rw [qv (qr e hfr)];exact e) (λb ps e=>⟨#[],by rw [qv (qr e hfr),e];simp⟩) (λm hm=>?_) (λb u e=>?_) I.bare
   ·obtain ⟨f0,f1,f2,f3,f4,f5⟩:=hf b (by simp only [mem_cons,not_mem_nil,or_false] at hb ⊢;rcases hb with q|q|q|q<;>simp [q]);exact ⟨f3,f1,f4,f5⟩
   ·obtain ⟨o,es',ep,ho',r⟩:=hm;refine ⟨o,es',ep,kk _ o (λq=>?_) ho',r⟩;obtain ⟨f0,f1,_⟩:=hf X.env.locals (by simp only [mem_cons,not_mem_nil,or_false] at q ⊢;rcases q with q|q|q|q<;>simp [q]);exact f1 rfl
   ·by_cases hb:b=s.heap.objs.size
    ·subst hb;rw [qT] at e;cases e;exact ⟨by show 2<=sizeLine;decide,[u1,u2],.cons ru1 (.cons ru2 .nil),⟨_,hp2,rfl,_,rfl,rfl⟩⟩
    ·rw [qv hb] at e;refine (I.hok b u e).stay (λc v hcb q=>kk c v (λm=>?_) q) (λ_ q=>by rw [qv (qr q hfr)];exact q) λ_ _ q=>by rw [qv (qr q hfr)];exact q
     have hn:=free c (by simp only [mem_cons,not_mem_nil,or_false] at m ⊢;rcases m with q|q|q|q<;>simp [q]);rcases hcb with q|q
     ·rw [q] at hn;rw [hn] at e;cases e
     ·rw [hn] at q;cases q
  refine ⟨.ref s.heap.objs.size,_,I3,rfl,⟨_,x,y,hfr,rfl,rfl,λzs q=>by rw [q.inj I sq1];exact hx,λzs q=>by rw [q.inj I sq2];exact hy⟩,⟨hz2,up _ _ (Ne.symm ne.1.1) hi,let ⟨a,b,q⟩:=ho;⟨a,b,up _ _ (Ne.symm ne.1.2.1) q⟩,(zq (P:=X.prog) (w:=X.w) b1 i1 c1).keep p1 λo e=>up _ o (Ne.symm ne.1.2.2.1) e,(zq (P:=X.prog) (w:=X.w) b2 i2 c2).keep p2 λo e=>up _ o (Ne.symm ne.1.2.2.2) e⟩,λb hb=>?_⟩;rw [qv (λq=>?_)]
  ·exact free b hb
  ·subst q;obtain ⟨hz0,hi0,⟨a0,b0,ho0⟩,q1,q2⟩:=st;simp only [mem_cons,not_mem_nil,or_false] at hb;rcases hb with q|q|q|q|q
   ·exact absurd q (Nat.ne_of_gt zlt)
   ·exact absurd q (Nat.ne_of_gt (Heap.lt_size hi0))
   ·exact absurd q (Nat.ne_of_gt (Heap.lt_size ho0))
   ·obtain ⟨o,e,_⟩:=(zq (P:=X.prog) (w:=X.w) b1 i1 c1).obj q1;exact absurd q (Nat.ne_of_gt (Heap.lt_size e))
   ·obtain ⟨o,e,_⟩:=(zq (P:=X.prog) (w:=X.w) b2 i2 c2).obj q2;exact absurd q (Nat.ne_of_gt (Heap.lt_size e))
 done:=by
  intro X hP hw hK hc i pins s σ H E I hf st hg;subst hP hw hK;obtain ⟨xs,ys,sq1,sq2,hend⟩:=hg;obtain ⟨its1,rv1,l1,z1⟩:=sq1.get I;obtain ⟨its2,rv2,l2,z2⟩:=sq2.get I;have e1:=rv1.length;have e2:=rv2.length;refine C1 (I.ok.hd hc) D st l1 l2 (by rcases hend with q|q;exact .inl (by simp;omega);exact .inr (by simp;omega)) λh' hk=>⟨rfl,?_⟩
  have free:∀ b∈[z,ti,to,i1,i2],H b=none:=λb hb=>(hf b hb).1;refine I.step (g':=s.gens) (d':=s.drawn) (t':=s.toks) (ch:=[z,to,i1,i2]) (λb hb=>?_) (λb o _ _ hcb e _=>hk b o hcb e) (λb o _ _ hcb e _=>⟨o.slots,hk b o hcb e⟩) (λ_ _ _ _ n=>n) (λb o hcb e=>⟨o,hk b o hcb e⟩) (λ_ _ e=>e) (λ_ _ _ e=>e) (λb ps e=>⟨#[],by rw [e];simp⟩) (λm hm=>?_) (λb u e=>?_) I.bare
  ·obtain ⟨f0,f1,f2,f3,f4,f5⟩:=hf b (by simp only [mem_cons,not_mem_nil,or_false] at hb ⊢;rcases hb with q|q|q|q<;>simp [q]);exact ⟨f3,f1,f4,f5⟩
  ·obtain ⟨o,es',ep,ho',r⟩:=hm;refine ⟨o,es',ep,hk _ o (λq=>?_) ho',r⟩;obtain ⟨f0,f1,_⟩:=hf X.env.locals (by simp only [mem_cons,not_mem_nil,or_false] at q ⊢;rcases q with q|q|q|q<;>simp [q]);exact f1 rfl
  ·refine (I.hok b u e).stay (λc v hcb q=>hk c v (λm=>?_) q) (λ_ q=>q) λ_ _ q=>q;have hn:=free c (by simp only [mem_cons,not_mem_nil,or_false] at m ⊢;rcases m with q|q|q|q<;>simp [q]);rcases hcb with q|q
   ·rw [q] at hn;rw [hn] at e;cases e
   ·rw [hn] at q;cases q
 self:=λA i s Q E st h=>wpAny_pyIter_zip st.1 h
def qir {n c1 c2:Addr} (h1:c1<n) (h2:c2<n):ZA (n+4) (n+2) (n+3) n (n+1) c1 c2:=by
 have k:∀ n c:Nat,c<n->c≠n+4/\c≠n+3/\c≠n/\c≠n+1:=λn c h=>by omega
 have d:∀ n:Nat,(([n+4,n+2,n+3,n,n+1]:List Nat)).Nodup:=λn=>by
  simp only [List.nodup_cons,mem_cons,not_mem_nil,not_or,or_false,List.nodup_nil,and_true,not_false_eq_true];omega
 refine ⟨d n,?_,?_⟩
 ·simp only [mem_cons,not_mem_nil,not_or,or_false];exact k n c1 h1
 ·simp only [mem_cons,not_mem_nil,not_or,or_false];exact k n c2 h2
section
variable {X:Cx} {a b e l:Expr} {es:List Expr} {pos:Pos}
def qh6 {p pt:Pos} {k1:Nat} {ta:TA} (hg:Gl X "zip") (hm:X.mg "zip" = none) (ha:PA X [a,b] ta) (hs:starEach [a,b] X.env=[(false,eval a X.env),(false,eval b X.env)]:=by rfl) (hs2:starEach [b] X.env=[(false,eval b X.env)]:=by rfl) :
  PI X (.Tuple es k1 pt) (.Call (.Name "zip" p) [a,b] [] pos) (λσ H R=>ta σ H λvs H1=>∃ b1 b2 c1 c2 xs ys,vs=[.ref c1,.ref c2]/\SqB X.K b1 H1 c1 xs/\SqB X.K b2 H1 c2 ys/\R (Itz X.K b1 b2 c1 c2) H1):=by
 intro pins s σ H R I h;refine Call_ (V1 I hg hm PyProof.Rows.boot_zip (PyProof.Rows.callWith_type1 (thn (ha pos pins s σ H _ I h) λus s1 ⟨vs,H1,I1,r1,q1⟩=>?_) (by rw [hs,hs2]) (by rw [hs2];rfl)));obtain ⟨b1,b2,c1,c2,xs,ys,rfl,sq1,sq2,q⟩:=q1;obtain ⟨u1,u2,rfl,e1,e2⟩:=qbm r1;cases (show u1=Value.ref c1 from e1);cases (show u2=Value.ref c2 from e2);obtain ⟨its1,rv1,l1,z1⟩:=sq1.get I1;obtain ⟨its2,rv2,l2,z2⟩:=sq2.get I1;refine qb0 l1 l2 λh' st hk=>wpAny_pyIter_zip st.1 ?_;refine ⟨s1.heap.objs.size+4,[s1.heap.objs.size+4,s1.heap.objs.size+2,s1.heap.objs.size+3,s1.heap.objs.size,s1.heap.objs.size+1],_,_,H1,rfl,I1.kept (t':=s1.toks) hk,qb9 (qir (qfj l1) (qfj l2)),st,λc hc=>?_,q⟩;have hle:s1.heap.objs.size<=c:=by
  simp only [mem_cons,not_mem_nil,or_false] at hc;rcases hc with rfl|rfl|rfl|rfl|rfl<;>first|exact Nat.le_refl _|exact Nat.le_add_right _ _
 exact I1.fpOk hle (I1.hok.fresh hle)
end
def zT (G:Gp):T->Option (List T)
 |.tup xs=>some xs
 |.ref p=>getL G p
 |_=>none
def qaT {K:Frg} {G0:Gp} {H0:Hp} {x:T} {v:V} {us:List T} (hr0:HR K G0 H0) (rx:Rp K H0 x v) (h:zT G0 x=some us) :
  ∃ b c,v=.ref c/\∀ G H,HR K G H->Kp G0 H0 G H->zT G x=some us->∃ vs,SqB K b H c vs/\Rps K H us vs:=by
 cases rx with
 |tup hs rs=>
  cases h;exact ⟨false,_,rfl,λG H hr k _=>⟨_,(WK hr0 k hs:SqT K H _ _),rs.keep hr0 k⟩⟩
 |ref a=>exact ⟨true,a,rfl,λG H hr k hq=>let ⟨vs,h1,h2⟩:=zz hr (show getL G a=some us from hq);⟨vs,h1,h2⟩⟩
 |_=>cases h
def qbv (us vs:List T):List T:=(us.zip vs).map λp=>.tup [p.1,p.2]
def WM {us vs:List T} {i:Nat} {x:T} (h:(qbv us vs)[i]?=some x):∃ a b,us[i]?=some a/\vs[i]?=some b/\x=.tup [a,b]:=by
 unfold qbv at h;rw [getElem?_map] at h;cases e:(us.zip vs)[i]? with
 |none=>rw [e] at h;cases h
 |some p=>
  rw [e] at h;have:=List.getElem?_zip_eq_some.mp e;exact ⟨p.1,p.2,this.1,this.2,by simpa using h.symm⟩
def qjE {K:Frg} {b1 b2:Bool} {c1 c2:Addr} {x y:T} {us vs:List T} {G0:Gp} {H0:Hp}
  (f1:∀ G H,HR K G H->Kp G0 H0 G H->zT G x=some us->∃ vs,SqB K b1 H c1 vs/\Rps K H us vs) (f2:∀ G H,HR K G H->Kp G0 H0 G H->zT G y=some vs->∃ ws,SqB K b2 H c2 ws/\Rps K H vs ws) :
  qfi K (Itz K b1 b2 c1 c2) (qbv us vs) (λG=>zT G x=some us/\zT G y=some vs) G0 H0:=by
 intro G H hr k ⟨h1,h2⟩;obtain ⟨p,sp,rp⟩:=f1 G H hr k h1;obtain ⟨q,sq,rq⟩:=f2 G H hr k h2;refine ⟨λi z hz=>?_,λi z v H' hz hy=>?_,⟨p,q,sp,sq,?_⟩⟩
 ·obtain ⟨a,b,ha,hb,_⟩:=WM hz;obtain ⟨v,hv,_⟩:=rp.get ha;obtain ⟨w,hw,_⟩:=rq.get hb;exact ⟨p,q,v,w,sp,sq,hv,hw⟩
 ·obtain ⟨a,b,ha,hb,rfl⟩:=WM hz;obtain ⟨t,v1,v2,ht,rfl,rfl,g1,g2⟩:=hy;obtain ⟨v,hv,rv⟩:=rp.get ha;obtain ⟨w,hw,rw'⟩:=rq.get hb;have e1:=(g1 p sp).symm.trans hv;have e2:=(g2 q sq).symm.trans hw;obtain rfl:v1=v:=Option.some.inj e1;obtain rfl:v2=w:=Option.some.inj e2;have kk:Kp G H G (upd H t (.tup [v1,v2])):=Kp.laid ht;exact ⟨.tup (SqT.of qT) (.cons (rv.keep hr kk) (.cons (rw'.keep hr kk) .nil)),hr.laid ht,kk⟩
 ·rw [← rp.length,← rq.length,show (qbv us vs).length=min us.length vs.length by simp [qbv]];omega
def qbS (ta:TA3):TI3:=λτ G r=>ta τ G λxs G1=>match xs with
 |[x,y]=>(match zT G1 x,zT G1 y with|some us,some vs=>r (qbv us vs) (λG=>zT G x=some us/\zT G y=some vs) G1|_,_=>False)
 |_=>False
section
variable {X:Cx} {a b e l:Expr} {es:List Expr} {pos:Pos} {t:TA3}
def qnc {p pt:Pos} {k1:Nat} (hg:Gl X "zip") (hm:X.mg "zip" = none) (ha:A3 X [a,b] t) (hs:starEach [a,b] X.env=[(false,eval a X.env),(false,eval b X.env)]:=by rfl) (hs2:starEach [b] X.env=[(false,eval b X.env)]:=by rfl) :
  I3 X (.Tuple es k1 pt) (.Call (.Name "zip" p) [a,b] [] pos) (qbS t):=
 qlk (qh6 hg hm ha hs hs2) λσ H R ⟨τ,G,r,rl,h,af⟩=>ZZ rl h λxs G1 h1 vs H1 rs hr1 k1 rl1=>by
  split at h1
  ·rename_i x y;split at h1
   ·rename_i us ws e1 e2;obtain ⟨v,u,rfl,r1,r2⟩:=qmJ rs;obtain ⟨b1,c1,rfl,f1⟩:=qaT hr1 r1 e1;obtain ⟨b2,c2,rfl,f2⟩:=qaT hr1 r2 e2;obtain ⟨p,sp,_⟩:=f1 G1 H1 hr1 Kp.refl e1;obtain ⟨q,sq,_⟩:=f2 G1 H1 hr1 Kp.refl e2;exact ⟨b1,b2,c1,c2,p,q,rfl,sp,sq,af _ _ G1 h1 _ H1 hr1 k1 (qjE f1 f2)⟩
   ·exact h1.elim
  ·exact h1.elim
def qbf:List T->Gp->Q3->Prop:=λxs G q=>match xs with
 |[.ref p]=>(match getL G p with|some ys=>(match qeh ys with|some k=>q (.bl k) G|none=>False)|none=>False)
 |_=>False
def M2 {K:Frg} {H:Hp}:∀ {ys:List T} {vs:List V} {k:Bool},Rps K H ys vs->qeh ys=some k->∃ ks:List Bool,vs=ks.map V.bl/\ks.all id=k
 |_,_,_,.nil,h=>by cases h;exact ⟨[],rfl,rfl⟩
 |y::ys,_,k,.cons a b,h=>by
  unfold qeh at h;split at h
  ·rename_i e;cases e
  ·rename_i j r e;cases e;split at h
   ·rename_i i ei;obtain ⟨ks,rfl,hk⟩:=M2 b ei;cases a;cases h;exact ⟨j::ks,rfl,by rw [List.all_cons,hk];rfl⟩
   ·cases h
  ·cases h
def XJ {K:Frg}:TU K qbf (λxs H Q=>∃ (p:Addr) (ks:List Bool),xs=[.ref p]/\SqL K H p (ks.map V.bl)/\Q (.bl (ks.all id)) H):=λxs vs G H q Q hr rs h af=>by
 unfold qbf at h;split at h
 ·rename_i p;obtain ⟨v,rfl,r⟩:=XV rs;cases r;split at h
  ·rename_i ys e0;split at h
   ·rename_i k e1;obtain ⟨us,hs,r2⟩:=zz hr e0;obtain ⟨ks,rfl,hk⟩:=M2 r2 e1;exact ⟨p,ks,rfl,hs,by rw [hk];exact af _ G h _ H (.bl _) hr Kp.refl⟩
   ·exact h.elim
  ·exact h.elim
 ·exact h.elim
end
def qoa:Value->Bool
 |.type t=>t == "list"
 |_=>false
def VS:List (Addr×Obj)->Bool
 |[]=>true
 |p::r=>if qoa p.2.cls then false else VS r
def DS:∀ {K:List (Addr×Obj)} {a:Addr} {o:Obj},VS K=true->K.lookup a=some o->o.cls≠.type "list"
 |[],_,_,_,e=>by simp at e
 | (b,x)::r,a,o,h,e=>by
  unfold VS at h;split at h
  ·cases h
  ·rename_i hx;rw [List.lookup_cons] at e;split at e
   ·cases e;intro z;rw [z] at hx;exact hx rfl
   ·exact DS h e
def LV {K:Frg} {H:Hp} {a:Addr} {ns:List Int} (hK:VS K=true) (hO:qlV H) (hS:SqL K H a (ns.map V.int)):∃ o,H a=some (.frz o (.lst (ns.map V.int))):=by
 rcases hS with (h|h)|⟨o,its,n,h1,h2,_⟩
 ·rcases hO a with z|⟨o,xs,z⟩<;>(rw [h] at z;cases z)
 ·exact h
 ·exact absurd h2 (DS hK h1)
def only (a:Addr) (ns:List Int):Gp:=λb=>if b=a then some (.frz (ns.map T.int)) else none
def qe0 {K:Frg} {H:Hp} {a:Addr} {ns:List Int} (h:∃ o,H a=some (.frz o (.lst (ns.map V.int)))):HR K (only a ns) H:=λb o e=>by
 unfold only at e;split at e
 ·rename_i hb;subst hb;cases e;exact ⟨_,h,Rps.ints ns⟩
 ·cases e
def WB:Sp3:=λts G q=>∃ (a:Addr) (ns:List Int),ts=[.ref a]/\G a=some (.frz (ns.map T.int))/\ns.length<=63/\∀ G',q (.bl true) G'
def qn8 {l:PySem.W.OpenLaw} {k:Nat} {q:Program} {loose:List Str} {XP:(Str->Option Value)->Heap->Prop} {YP:World->Heap->Prop} {d:DefRec} {K:Params->PySem.W.Frag} {x:Str} (hn:l.most=some 63) (hdf:d.params.defaults=[]) (hr:Room k callerA)
  (hY:∀ (w:World) (h:Heap),YP w h->(K w.params).In h) (hK:∀ w:World,VS (K w.params)=true)
  (F:∀ (w:World) (mg:Str->Option Value) (fa:Addr) (h:Heap),(K w.params).In h->h.Ns mainGlobals mg->mg d.name=some (.ref fa) ->
   ∃ fd:FuncData,(∀ (s:Shared) (u:Value),BindsTo s fd ⟨[u],[]⟩ [(x,u)])/\∀ base:Heap,(K w.params).In base->base.Ns mainGlobals mg->FnOk l.prog w (K w.params) mg base CX0 k fa fd [x] (lSp (K w.params) WB)) :
  PySem.W.WalkO q loose XP YP l.row.toRowW d [] (λf vs=>PySem.call f vs):=
 L2.qfo (n:=63) (k:=k) (x:=x) (CX:=λ_=>CX0) (sp:=λw=>lSp (K w.params) WB) hn (by decide) hdf hr hY F
  (λw H a ns hl hO hS=>⟨[.ref a],only a ns,λt _=>t=.bl true,qe0 (LV (hK w) hO hS),.cons (.ref a) .nil,⟨a,ns,rfl,by simp [only],hl,λ_=>rfl⟩,λt G' e v H' r _ _=>by subst e;cases r;rfl⟩) λ_ _ _ _ _ z=>z
def qfK {P:Program} {w:World} {K:Frg} {mg:Str->Option Value} {base:Heap} {x qual:Str} {st:Stmt} {f:Addr} {fd:FuncData} {N ps:List Str} {k:Nat} {sp:Sp3} {t3:TS3} (F:Fun K x qual st f fd) (S:FnScope N ps (qh st))
  (body:∀ (cdv:Value) (A:Around) (outer:List Env) (s:Shared) (H:Hp) (E:XK),Room k (A.deeper (envOfC qual (qh st) s.heap.objs.size f cdv)) ->
   B3 (qbt CX0 P w K mg base N qual (qh st) f cdv A outer s H E).nox (zP st) t3)
  (read:∀ ts G q,sp ts G q->ts.length=ps.length/\t3 { nx:=λ_ G'=>q .non G',rt:=q } (qx N ts) G):FnOk P w K mg base CX0 (k+1) f fd ps (lSp K sp):=by
 refine F.ok S (λvs H Q E ⟨ts,G,q,h1,h2,h3,h4⟩=>by rw [← h2.length];exact (read ts G q h3).1) λcdv A outer s H vs Q E hr ⟨ts,G,q,h1,h2,h3,h4⟩=>?_;refine ⟨_,body cdv A outer s H E hr,qx N ts,G,_,CT h1 h2,(read ts G q h3).2,⟨λτ' G' h' σ' H' rl' k'=>h4 _ G' h' _ H' .non rl'.hp k',h4,λ_ _ z=>z.elim,λ_ _ z=>z.elim⟩⟩
abbrev eh1 (h:Heap) (o1:Obj):Heap:=h.push o1
abbrev eh2 (h:Heap) (o1:Obj):Heap:=(eh1 h o1).push { cls:=.type "enumerate",data:=.fields #[.none,.bool false,.ref h.objs.size,rawInt 0,.none,.none] }
def KY (c:Addr) (o1:Obj) (ob:Obj) :
  Meets (Builtin.«enumerate.__new__» ⟨[.type "enumerate",.ref c],[]⟩) (λ_ R s=>s.heap.get? c=some ob /\
   (∀ (P:Program) (w:World) (A:Around) (Q:Value->Shared->Prop) (E:Value->Shared->Prop),Q (.ref s.heap.objs.size) { s with heap:=eh1 s.heap o1 }->wpAny (model P w) A (pyIter (.ref c)) Q E s) /\
   R (.ok (.ret (.ref (eh1 s.heap o1).objs.size))) { s with heap:=eh2 s.heap o1 }):=
 .of_wp λprog w A R s h=>by
  obtain ⟨hp,g,d,tk,os⟩:=s;obtain ⟨hl,h1,h⟩:=h;have hsub:=sub_enumerate;have k1:=λA Q E=>h1 prog w A Q E
  wp_walk using wpAny_loadPart' hl
  refine wpAny_stack_any λst=>wpAny_pure ?_;split
  ·rename_i c _ _ _ _ _;cases (c==Value.type "enumerate")
   ·wp_walk using wpAny_loadPart' hl,k1 _ _ _
    exact ⟨_,rfl,h⟩
   ·wp_walk using wpAny_loadPart' hl,k1 _ _ _
    exact ⟨_,rfl,h⟩
  ·wp_walk using wpAny_loadPart' hl,k1 _ _ _
   exact ⟨_,rfl,h⟩
def qbG {b:Bool} {c:Addr} {xs:Array Value} {h:Heap} (q:RH b c xs h):∃ o,h.get? c=some o:=by
 cases b
 ·obtain ⟨o,e,_⟩:=(show h.IsTuple c xs from q);exact ⟨o,e⟩
 ·obtain ⟨o,e,_⟩:=(show h.IsList c xs from q);exact ⟨o,e⟩
section
variable {P:Program} {w:World} {A:Around} {s:Shared} {E:Value->Shared->Prop}
def M7 {b:Bool} {c:Addr} {xs:Array Value} {Q:Value->Shared->Prop} (h1:RH b c xs s.heap)
  (q:∀ h',IsEnum h' (s.heap.objs.size+1) s.heap.objs.size 0 .none->qcE b s.heap.objs.size c 0 h'->(∀ c o,s.heap.get? c=some o->h'.get? c=some o)->Q (.ref (s.heap.objs.size+1)) { s with heap:=h' }) :
  wpAny (model P w) A (call (.type "enumerate") [.ref c]) Q E s:=by
 obtain ⟨ob,hob⟩:=qbG h1;refine callType_new F.called_enumerate (by decide) (F.typeCall_enumerate_1 _) (F.newCall_enumerate_1 _) (λobj=>F.args_object_init_2 obj _) F.entry_enumerate_new
  (KY c (zo b c) ob) ⟨hob,λP w A Q E q=>R9 h1 q,?_⟩
 have e1:(eh1 s.heap (zo b c)).objs.size=s.heap.objs.size+1:=Heap.size_push ..;have g2:(eh2 s.heap (zo b c)).get? (eh1 s.heap (zo b c)).objs.size=some _:=Heap.get?_push_size _ rfl;have g1:(eh2 s.heap (zo b c)).get? s.heap.objs.size=some (zo b c):=Heap.get?_push_of_some _ (Heap.get?_push_size _ rfl);show _/\_;rw [e1] at g2 ⊢;refine ⟨⟨_,g2,rfl⟩,q _ g2 ?_ λc o e=>Heap.get?_push_of_some _ (Heap.get?_push_of_some _ e)⟩;cases b<;>exact ⟨_,g1,rfl,rfl⟩
end
def qca {P:Program} {w:World} {A:Around} (hh:A.handled=none) (b:Bool) (it c:Addr) (hne:c≠it) (xs:Array Value) :
  Draws P w A it [it,c] xs.size (λi v=>xs[i]?=some v) (λi h=>qcE b it c i h/\RH b c xs h) where
 live:=λi h st=>let ⟨o,e,_⟩:=(zq (P:=P) (w:=w) b it c).obj st.1;⟨o,e⟩
 frame:=λi h h' st hk=>⟨(zq (P:=P) (w:=w) b it c).keep st.1 λo e=>hk it (by simp) o e,(zq (P:=P) (w:=w) b it c).hkeep st.2 λo e=>hk c (by simp) o e⟩
 item:=λi s Q E hi st hQ=>by
  refine (zq (P:=P) (w:=w) b it c).item st.1 st.2 (x:=xs[i]) (by simp [hi]) λh' st' sb=>?_;exact hQ _ h' s.toks (by simp [hi]) ⟨st',(zq (P:=P) (w:=w) b it c).hkeep st.2 λo e=>(sb.2 c hne).trans e⟩ sb
 done:=λs Q E st hE=>(zq (P:=P) (w:=w) b it c).done hh st.1 st.2 (by simp) hE
def W1 {P:Program} {w:World} {A:Around} {s:Shared} {E:Value->Shared->Prop} {b:Bool} {e it c:Addr} {i:Nat} {xs:Array Value} {old:Value} {Q:Option Value->Shared->Prop} (hh:A.handled=none) (he:IsEnum s.heap e it i old) (p1:qcE b it c i s.heap) (l1:RH b c xs s.heap) (hx:xs[i]?=none)
  (hQ:∀ h',Heap.ExtBut it s.heap h'->Q none { s with heap:=h' }):wpAny (model P w) A (pyNext (.ref e)) Q E s:=by
 have hT:s.TypeIs (.ref e) "enumerate" := ⟨_,he,rfl⟩
 unfold pyNext;refine wpAny_bind (wpAny_attempt (wpAny_callSpecial?_slot (name:=Str.ofString "__next__") hT F.slot_enumerate_next
  (wpAny_call_entry F.slot_enumerate_next hT F.entry_enumerate_next ?_ (F.args_enumerate_next_1 _))))
 show wpAny _ _ (field (.ref e) 2 >>= _) _ _ _;refine wpAny_bind (wpAny_field he rfl (x:=.ref it) rfl ?_);refine wpAny_bind ((zq (P:=P) (w:=w) b it c).done (show A.in1.handled=none from hh) p1 l1 hx λh' x he' hx'=>?_);obtain ⟨o,ho,hc⟩:=hx';refine wpAny_bind (wpAny_isInstance (T:="StopIteration") (b:=true) ⟨o,ho,hc⟩ isSubtype_stop ?_);exact wpAny_pure (hQ _ he')
def Ite (K:Frg) (b:Bool) (c:Addr):It:=
  ⟨λi H=>∃ xs x,SqB K b H c xs/\xs[i]?=some x,
   λi H v H'=>∃ p x,H p=none/\v=.ref p/\H'=upd H p (.tup [.int i,x])/\(∀ xs,SqB K b H c xs->xs[i]?=some x),
   λi H=>∃ xs,SqB K b H c xs/\xs.length<=i⟩
def qg4 (b:Bool) (e it c:Addr) (k:Nat) (h:Heap):Prop:=(∃ old,IsEnum h e it k old)/\qcE b it c k h
def qbh {P:Program} {w:World} {K:Frg} {es:List Expr} {k1:Nat} {pt:Pos} {b:Bool} {e it c:Addr} (n1:e≠it) (n2:c≠e) (n3:c≠it):Turn P w K (.Tuple es k1 pt) (Ite K b c) [e,it] e (qg4 b e it c) where
 mem:=by simp
 obj:=λi h ⟨⟨old,he⟩,p1⟩ d hd=>by
  simp only [mem_cons,not_mem_nil,or_false] at hd;rcases hd with rfl|rfl
  ·exact ⟨_,he,λv q=>by cases q⟩
  ·exact (zq (P:=P) (w:=w) b d c).obj p1
 keep:=λi h h' ⟨⟨old,he⟩,p1⟩ k=>⟨⟨old,k e (by simp) _ he⟩,(zq (P:=P) (w:=w) b it c).keep p1 λo e=>k it (by simp) o e⟩
 item:=by
  intro X hP hw hK hc i pins s σ H E I hf st hg;subst hP hw hK;obtain ⟨xs,x,sq,hx⟩:=hg;obtain ⟨its,rv,l1,z1⟩:=sq.get I;obtain ⟨u,hu,ru⟩:=rv.get hx;obtain ⟨⟨old,he⟩,p1⟩:=st;have hil:i<its.toArray.size:=by have:=(List.getElem?_eq_some_iff.mp hu).1;simpa using this
  refine wpAny_pyNext_enum_itemD (qca (show X.A.in1.handled=none from I.ok.hd hc) b it c n3 its.toArray) he ⟨p1,l1⟩ hil n1 (by simp only [mem_cons,not_mem_nil,or_false,not_or];exact ⟨n1,Ne.symm n2⟩) λy h' tk hy ho st' ht hsz hk=>?_;have hy':y=u:=by
   have:its.toArray[i]?=some u:=by simpa using hu
   rw [this] at hy;exact (Option.some.inj hy).symm
  subst hy';have hfr:H s.heap.objs.size=none:=I.fresh;have free:∀ b∈[e,it],H b=none:=λb hb=>(hf b hb).1;refine ⟨_,rfl,wpAny_letOwnedTupleGo_enum ho λh2 hz2 s2=>?_⟩;have elt:e<s.heap.objs.size:=Heap.lt_size he;have hp2:h2.get? s.heap.objs.size=some { cls:=.type "tuple",data:=.seq #[.int i tk,y] }:=(s2.2 _ (Nat.ne_of_gt elt)).trans ht;have up:∀ c o,c≠e->h'.get? c=some o->h2.get? c=some o:=λc o hc e=>(s2.2 c hc).trans e;have kk:∀ c o,c∉[e,it]->s.heap.get? c=some o->h2.get? c=some o:=λc o hc q=>by
   simp only [mem_cons,not_mem_nil,or_false,not_or] at hc;exact up c o hc.1 (hk c o hc.1 hc.2 q)
  have I3:Inv X pins σ (upd H s.heap.objs.size (.tup [.int i,x])) { s with heap:=h2,toks:=tk+1 }:=by
   refine I.step (g':=s.gens) (d':=s.drawn) (t':=tk+1) (ch:=[e,it]) (λb hb=>?_) (λb o _ _ hcb e _=>kk b o hcb e) (λb o _ _ hcb e _=>⟨o.slots,kk b o hcb e⟩) (λb o _ e n=>by rw [qv (Nat.ne_of_lt (Heap.lt_size e))];exact n) (λb o hcb e=>⟨o,kk b o hcb e⟩)
    (λb _ e=>by rw [qv (qr e hfr)];exact e) (λb _ _ e=>by rw [qv (qr e hfr)];exact e) (λb ps e=>⟨#[],by rw [qv (qr e hfr),e];simp⟩) (λm hm=>?_) (λb u e=>?_) I.bare
   ·obtain ⟨f0,f1,f2,f3,f4,f5⟩:=hf b hb;exact ⟨f3,f1,f4,f5⟩
   ·obtain ⟨o,es',ep,ho',r⟩:=hm;refine ⟨o,es',ep,kk _ o (λq=>?_) ho',r⟩;obtain ⟨f0,f1,_⟩:=hf X.env.locals q;exact f1 rfl
   ·by_cases hb:b=s.heap.objs.size
    ·subst hb;rw [qT] at e;cases e;exact ⟨by show 2<=sizeLine;decide,[.int i tk,y],.cons ⟨tk,rfl⟩ (.cons ru .nil),⟨_,hp2,rfl,_,rfl,rfl⟩⟩
    ·rw [qv hb] at e;refine (I.hok b u e).stay (λc v hcb q=>kk c v (λm=>?_) q) (λ_ q=>by rw [qv (qr q hfr)];exact q) λ_ _ q=>by rw [qv (qr q hfr)];exact q
     have hn:=free c m;rcases hcb with q|q
     ·rw [q] at hn;rw [hn] at e;cases e
     ·rw [hn] at q;cases q
  refine ⟨.ref s.heap.objs.size,_,I3,rfl,⟨_,x,hfr,rfl,rfl,λzs q=>by rw [q.inj I sq];exact hx⟩,⟨⟨_,by push_cast;exact hz2⟩,(zq (P:=X.prog) (w:=X.w) b it c).keep st'.1 λo e=>up _ o (Ne.symm n1) e⟩,λb hb=>?_⟩;rw [qv (λq=>?_)]
  ·exact free b hb
  ·subst q;simp only [mem_cons,not_mem_nil,or_false] at hb;rcases hb with q|q
   ·exact absurd q (Nat.ne_of_gt elt)
   ·obtain ⟨o,e,_⟩:=(zq (P:=X.prog) (w:=X.w) b it c).obj p1;exact absurd q (Nat.ne_of_gt (Heap.lt_size e))
 done:=by
  intro X hP hw hK hc i pins s σ H E I hf st hg;subst hP hw hK;obtain ⟨xs,sq,hend⟩:=hg;obtain ⟨its,rv,l1,z1⟩:=sq.get I;obtain ⟨⟨old,he⟩,p1⟩:=st;have e1:=rv.length;have free:∀ b∈[e,it],H b=none:=λb hb=>(hf b hb).1;refine W1 (I.ok.hd hc) he p1 l1 (by simp;omega) λh' hk0=>⟨rfl,?_⟩
  have hk:∀ c o,c∉[e,it]->s.heap.get? c=some o->h'.get? c=some o:=λc o hcb q=>hk0 c o (by simp only [mem_cons,not_mem_nil,or_false,not_or] at hcb;exact hcb.2) q;refine I.step (g':=s.gens) (d':=s.drawn) (t':=s.toks) (ch:=[e,it]) (λb hb=>?_) (λb o _ _ hcb e _=>hk b o hcb e) (λb o _ _ hcb e _=>⟨o.slots,hk b o hcb e⟩) (λ_ _ _ _ n=>n) (λb o hcb e=>⟨o,hk b o hcb e⟩) (λ_ _ e=>e) (λ_ _ _ e=>e) (λb ps e=>⟨#[],by rw [e];simp⟩) (λm hm=>?_) (λb u e=>?_) I.bare
  ·obtain ⟨f0,f1,f2,f3,f4,f5⟩:=hf b hb;exact ⟨f3,f1,f4,f5⟩
  ·obtain ⟨o,es',ep,ho',r⟩:=hm;refine ⟨o,es',ep,hk _ o (λq=>?_) ho',r⟩;obtain ⟨f0,f1,_⟩:=hf X.env.locals q;exact f1 rfl
  ·refine (I.hok b u e).stay (λc v hcb q=>hk c v (λm=>?_) q) (λ_ q=>q) λ_ _ q=>q;have hn:=free c m;rcases hcb with q|q
   ·rw [q] at hn;rw [hn] at e;cases e
   ·rw [hn] at q;cases q
 self:=λA i s Q E st h=>let ⟨⟨old,he⟩,_⟩:=st;wpAny_pyIter_enum he h
section
variable {X:Cx} {a b e l:Expr} {es:List Expr} {pos:Pos}
def qe5 {p pt:Pos} {k1:Nat} {ta:TA} (hg:Gl X "enumerate") (hm:X.mg "enumerate" = none) (ha:PA X [a] ta) (hs:starEach [a] X.env=[(false,eval a X.env)]:=by rfl) :
  PI X (.Tuple es k1 pt) (.Call (.Name "enumerate" p) [a] [] pos) (λσ H R=>ta σ H λvs H1=>∃ b1 c1 xs,vs=[.ref c1]/\SqB X.K b1 H1 c1 xs/\R (Ite X.K b1 c1) H1):=by
 intro pins s σ H R I h;refine Call_ (V1 I hg hm PyProof.Rows.boot_enumerate (PyProof.Rows.callWith_type1 (thn (ha pos pins s σ H _ I h) λus s1 ⟨vs,H1,I1,r1,q1⟩=>?_) (by rw [hs];rfl) (by rfl)));obtain ⟨b1,c1,xs,rfl,sq1,q⟩:=q1;obtain ⟨u1,rfl,e1⟩:=EM r1;cases (show u1=Value.ref c1 from e1);obtain ⟨its1,rv1,l1,z1⟩:=sq1.get I1;refine M7 l1 λh' he hit hk=>wpAny_pyIter_enum he ?_;have lt:=qfj l1;have ne3:∀ n c:Nat,c<n->n+1≠n/\c≠n+1/\c≠n:=λn c h=>by omega
 obtain ⟨m1,m2,m3⟩:=ne3 _ _ lt;refine ⟨s1.heap.objs.size+1,[s1.heap.objs.size+1,s1.heap.objs.size],_,_,H1,rfl,I1.kept (t':=s1.toks) hk,qbh m1 m2 m3,⟨⟨_,he⟩,hit⟩,λc hc=>?_,q⟩;have hle:s1.heap.objs.size<=c:=by
  simp only [mem_cons,not_mem_nil,or_false] at hc;rcases hc with rfl|rfl<;>first|exact Nat.le_refl _|exact Nat.le_add_right _ _
 exact I1.fpOk hle (I1.hok.fresh hle)
end
def jI (k:Nat):List T->List T
 |[]=>[]
 |x::r=>.tup [.int (k:Int),x]::jI (k+1) r
def qcJ (us:List T):List T:=jI 0 us
def V5:∀ {us:List T} {k i:Nat} {x:T},(jI k us)[i]?=some x->∃ a,us[i]?=some a/\x=.tup [.int ((k+i:Nat):Int),a]
 |[],_,_,_,h=>by simp [jI] at h
 |u::us,k,0,x,h=>by simp [jI] at h;exact ⟨u,rfl,by simp [← h]⟩
 |u::us,k,i+1,x,h=>by
  simp [jI] at h;obtain ⟨a,ha,hx⟩:=V5 h;exact ⟨a,by simpa using ha,by rw [hx];congr 4;omega⟩
def VV:∀ (us:List T) (k:Nat),(jI k us).length=us.length
 |[],_=>rfl
 |u::us,k=>by simp [jI,VV us]
def qa3 (us:List T):(qcJ us).length=us.length:=VV us 0
def CM {us:List T} {i:Nat} {x:T} (h:(qcJ us)[i]?=some x):∃ a,us[i]?=some a/\x=.tup [.int (i:Int),a]:=by
 obtain ⟨a,ha,hx⟩:=V5 h;exact ⟨a,ha,by rw [hx];congr 4;omega⟩
def qkc {K:Frg} {b1:Bool} {c1:Addr} {x:T} {us:List T} {G0:Gp} {H0:Hp}
  (f1:∀ G H,HR K G H->Kp G0 H0 G H->zT G x=some us->∃ vs,SqB K b1 H c1 vs/\Rps K H us vs) :
  qfi K (Ite K b1 c1) (qcJ us) (λG=>zT G x=some us) G0 H0:=by
 intro G H hr k h1;obtain ⟨p,sp,rp⟩:=f1 G H hr k h1;refine ⟨λi z hz=>?_,λi z v H' hz hy=>?_,⟨p,sp,?_⟩⟩
 ·obtain ⟨a,ha,_⟩:=CM hz;obtain ⟨v,hv,_⟩:=rp.get ha;exact ⟨p,v,sp,hv⟩
 ·obtain ⟨a,ha,rfl⟩:=CM hz;obtain ⟨t,v1,ht,rfl,rfl,g1⟩:=hy;obtain ⟨v,hv,rv⟩:=rp.get ha;have e1:=(g1 p sp).symm.trans hv;obtain rfl:v1=v:=Option.some.inj e1;have kk:Kp G H G (upd H t (.tup [.int i,v1])):=Kp.laid ht;exact ⟨.tup (SqT.of qT) (.cons (.int _) (.cons (rv.keep hr kk) .nil)),hr.laid ht,kk⟩
 ·rw [← rp.length,qa3];exact Nat.le_refl _
def T6 (ta:TA3):TI3:=λτ G r=>ta τ G λxs G1=>match xs with
 |[x]=>(match zT G1 x with|some us=>r (qcJ us) (λG=>zT G x=some us) G1|_=>False)
 |_=>False
section
variable {X:Cx} {a b e l:Expr} {es:List Expr} {pos:Pos} {t:TA3}
def qki {p pt:Pos} {k1:Nat} (hg:Gl X "enumerate") (hm:X.mg "enumerate" = none) (ha:A3 X [a] t) (hs:starEach [a] X.env=[(false,eval a X.env)]:=by rfl) :
  I3 X (.Tuple es k1 pt) (.Call (.Name "enumerate" p) [a] [] pos) (T6 t):=
 qlk (qe5 hg hm ha hs) λσ H R ⟨τ,G,r,rl,h,af⟩=>ZZ rl h λxs G1 h1 vs H1 rs hr1 k1 rl1=>by
  split at h1
  ·rename_i x;split at h1
   ·rename_i us e1;obtain ⟨v,rfl,r1⟩:=XV rs;obtain ⟨b1,c1,rfl,f1⟩:=qaT hr1 r1 e1;obtain ⟨p,sp,_⟩:=f1 G1 H1 hr1 Kp.refl e1;exact ⟨b1,c1,p,rfl,sp,af _ _ G1 h1 _ H1 hr1 k1 (qkc f1)⟩
   ·exact h1.elim
  ·exact h1.elim
end
section
variable {X:Cx} {a b c e:Expr} {es:List Expr} {ta tb tc te:TE3} {t:TA3} {pos:Pos}
def RZ:List T->Option (List Int)
 |[]=>some []
 |.int i::r=>(match RZ r with|some ns=>some (i::ns)|none=>none)
 |_=>none
def qav (ns:List Int):RZ (ns.map T.int)=some ns:=by
 induction ns with
 |nil=>rfl
 |cons n r ih=>simp [RZ,ih]
def T4:∀ {xs:List T} {ns:List Int},RZ xs=some ns->xs=ns.map T.int
 |[],_,h=>by simp [RZ] at h;subst h;rfl
 |x::r,ns,h=>by
  unfold RZ at h;split at h
  ·rename_i e;cases e
  ·rename_i i r' e;cases e;split at h
   ·rename_i ms e2;cases h;rw [T4 e2];rfl
   ·cases h
  ·cases h
def KI {K:Frg} {H:Hp}:∀ {ns:List Int} {vs:List V},Rps K H (ns.map T.int) vs->vs=ns.map V.int
 |[],_,r=>by cases r;rfl
 |n::ns,_,r=>by
  cases r with
  |cons a b=>cases a;rw [KI b];rfl
end
section
variable {X:Cx}
end
end L3
set_option autoImplicit true
namespace L3
open PySem PySem.Spec PyProof.Rows L2
structure jE3 (X:Cx) (e:Expr) (t:TE3):Prop where h:E3 X e t
structure jC3 (X:Cx) (e:Expr) (t:TT3):Prop where h:C3 X e t
structure jW3 (X:Cx) (e:Expr) (t:TT3):Prop where h:W3 X e t
structure jA3 (X:Cx) (e:List Expr) (t:TA3):Prop where h:A3 X e t
structure jP3 (X:Cx) (e:Option Expr) (t:TO3):Prop where h:P3 X e t
structure jS3 (X:Cx) (e:Stmt) (t:TS3):Prop where h:S3 X e t
structure jB3 (X:Cx) (e:List Stmt) (t:TS3):Prop where h:B3 X e t
structure jG3 (X:Cx) (e:Expr) (t:TG3):Prop where h:G3 X e t
structure jGs3 (X:Cx) (e:List Expr) (t:XX):Prop where h:Gs3 X e t
structure jI3 (X:Cx) (tg e:Expr) (t:TI3):Prop where h:I3 X tg e t
structure jF3 (X:Cx) (e:List Expr) (t:TT3):Prop where h:F3 X e t
def qb {X:Cx} (i:Nat) {x:Str} {pos:Pos} (hN:X.N[i]?=some x:=by rfl) (hv:Vis X.env.scope x:=by first|exact Or.inl rfl|exact Or.inr (Or.inl rfl)|exact Or.inr (Or.inr rfl)) (hd:(x==("__debug__" : Str))=false:=by decide)
  (hcd:(x==("__classdict__" : Str))=false:=by decide):jE3 X (.Name x pos) (v3 i):=
 ⟨qnj (i:=i) (hN:=hN) (hv:=hv) (hd:=hd) (hcd:=hcd)⟩
def qe {X:Cx} {i:Int} {j pos}:jE3 X (.Constant (.int i) j pos) (c3 (.int i)):=
 ⟨qms ⟩
def XO {X:Cx} {b:Bool} {j pos}:jE3 X (.Constant (.bool b) j pos) (c3 (.bl b)):=
 ⟨qpo ⟩
def M1 {X:Cx} {j pos}:jE3 X (.Constant .none j pos) (c3 .non):=
 ⟨qnt ⟩
def qN {X:Cx} {x:Str} {j pos}:jE3 X (.Constant (.str x) j pos) (c3 (.str x)):=
 ⟨qn4 ⟩
def zv {ta:TE3} {tb:TE3} {pos:Pos} {a:Expr} {b:Expr} {X:Cx} {op:CmpOp} {r3:R3} {r:R2} (ho:OpR X (compareOp op) r) (hr:UH X.K r3 r) (ha:jE3 X a ta) (hb:jE3 X b tb) (hm:behindInMarks op b=false):jE3 X (.Compare a [op] [b] pos) (o3 r3 ta tb):=
 ⟨qma (ho:=ho) (hr:=hr) (ha:=ha.h) (hb:=hb.h) (hm:=hm)⟩
def qR {ta:TE3} {tb:TE3} {pos:Pos} {a:Expr} {b:Expr} {X:Cx} {op:CmpOp} {r3:R3} {r:R2} (ho:OpR X (compareOp op) r) (hr:UH X.K r3 r) (ha:jE3 X a ta) (hb:jE3 X b tb) (hm:behindInMarks op b=false):jC3 X (.Compare a [op] [b] pos) (tb3 (o3 r3 ta tb)):=
 ⟨qnM (ho:=ho) (hr:=hr) (ha:=ha.h) (hb:=hb.h) (hm:=hm)⟩
def qc0 {ta:TE3} {tb:TE3} {tc:TE3} {pos:Pos} {a:Expr} {b:Expr} {c:Expr} {X:Cx} {op op':CmpOp} {r3 r3':R3} {r r':R2} (ho:OpR X (compareOp op) r) (hr:UH X.K r3 r) (ho':OpR X (compareOp op') r') (hr':UH X.K r3' r') (ha:jE3 X a ta) (hb:jE3 X b tb) (hc:jE3 X c tc)
  (hm:lastMarks [op,op'] [b,c]=false:=by with_unfolding_all rfl):jC3 X (.Compare a [op,op'] [b,c] pos) (tb3 (ch3 r3 r3' ta tb tc)):=
 ⟨qgj (ho:=ho) (hr:=hr) (ho':=ho') (hr':=hr') (ha:=ha.h) (hb:=hb.h) (hc:=hc.h) (hm:=hm)⟩
def DU {ta:TE3} {tb:TE3} {pos:Pos} {a:Expr} {b:Expr} {X:Cx} (ha:jE3 X a ta) (hb:jE3 X b tb):jE3 X (.BinOp a .Sub b pos) (o3 (iI (·-·)) ta tb):=
 ⟨qn3 (ha:=ha.h) (hb:=hb.h)⟩
def j8 {ta:TE3} {tb:TE3} {pos:Pos} {a:Expr} {b:Expr} {X:Cx} (ha:jE3 X a ta) (hb:jE3 X b tb):jE3 X (.BinOp a .Mult b pos) (o3 (iC J1 (·*·)) ta tb):=
 ⟨qmQ (ha:=ha.h) (hb:=hb.h)⟩
def RD {ta:TE3} {tb:TE3} {pos:Pos} {a:Expr} {b:Expr} {X:Cx} (ha:jE3 X a ta) (hb:jE3 X b tb):jE3 X (.BinOp a .Mod b pos) (o3 (iC (λ_ j=>0<j) (·%·)) ta tb):=
 ⟨qmf (ha:=ha.h) (hb:=hb.h)⟩
def KK {ta:TE3} {tb:TE3} {pos:Pos} {a:Expr} {b:Expr} {X:Cx} (ha:jE3 X a ta) (hb:jE3 X b tb):jE3 X (.BinOp a .FloorDiv b pos) (o3 (iC qbw (·/·)) ta tb):=
 ⟨ql5 (ha:=ha.h) (hb:=hb.h)⟩
def qjW {ta:TE3} {tb:TE3} {pos:Pos} {a:Expr} {b:Expr} {X:Cx} (ha:jE3 X a ta) (hb:jE3 X b tb):jE3 X (.BinOp a .Pow b pos) (o3 (iC qlo (λi j=>i ^ j.toNat)) ta tb):=
 ⟨qn9 (ha:=ha.h) (hb:=hb.h)⟩
def qdX {ta:TE3} {pos:Pos} {a:Expr} {X:Cx} (ha:jE3 X a ta):jE3 X (.UnaryOp .USub a pos) (u3 qeo ta):=
 ⟨ql2 (ha:=ha.h)⟩
def V0 {tA:TT3} {pos:Pos} {a:Expr} {X:Cx} (ha:jC3 X a tA):jW3 X (.BoolOp .Or [a] pos) tA:=
 ⟨qn1 (ha:=ha.h)⟩
def V8 {jk:List Expr} {tA:TT3} {tB:TT3} {pos:Pos} {a:Expr} {X:Cx} (ha:jC3 X a tA) (hb:jW3 X (.BoolOp .Or (b::jk) pos) tB):jW3 X (.BoolOp .Or (a::b::jk) pos) (or3 tA tB):=
 ⟨qpv (ha:=ha.h) (hb:=hb.h)⟩
def ZM {tA:TT3} {pos:Pos} {a:Expr} {X:Cx} (ha:jC3 X a tA):jC3 X (.UnaryOp .Not a pos) (RV tA):=
 ⟨qnN (ha:=ha.h)⟩
def QJ {X:Cx} {e:Expr} {t:TE3} (h:jE3 X e t) (he:∀ whole,isTrue e X.env whole=(do let v←whole;standAt e.pos;holding [v] (truthy v)):=by intro _;rfl):jC3 X e (tb3 t):=
 ⟨qnZ (h:=h.h) (he:=he)⟩
def QL {ta:TE3} {pos:Pos} {a:Expr} {X:Cx} {op} (h:jE3 X a ta):jE3 X (.BoolOp op [a] pos) ta:=
 ⟨qnU (h:=h.h)⟩
def jC {jk:List Expr} {ta:TE3} {tb:TE3} {pos:Pos} {a:Expr} {X:Cx} (ha:jE3 X a ta) (hb:jE3 X (.BoolOp .And (b::jk) pos) tb):jE3 X (.BoolOp .And (a::b::jk) pos) (jy ta tb):=
 ⟨qok (ha:=ha.h) (hb:=hb.h)⟩
def qmC {jk:List Expr} {ta:TE3} {tb:TE3} {pos:Pos} {a:Expr} {X:Cx} (ha:jE3 X a ta) (hb:jE3 X (.BoolOp .Or (b::jk) pos) tb):jE3 X (.BoolOp .Or (a::b::jk) pos) (qlK ta tb):=
 ⟨qps (ha:=ha.h) (hb:=hb.h)⟩
def qd8 {ta:TE3} {pos:Pos} {a:Expr} {X:Cx} (ha:jE3 X a ta):jE3 X (.UnaryOp .Not a pos) (M0 ta):=
 ⟨qlZ (ha:=ha.h)⟩
def qbE {tA:TT3} {ta:TE3} {tb:TE3} {pos:Pos} {a:Expr} {b:Expr} {X:Cx} {c:Expr} (hc:jC3 X c tA) (ha:jE3 X a ta) (hb:jE3 X b tb):jE3 X (.IfExp c a b pos) (if3 tA ta tb):=
 ⟨qpj (hc:=hc.h) (ha:=ha.h) (hb:=hb.h)⟩
def qd {X:Cx} :jA3 X [] qk:=
 ⟨qna ⟩
def qa {te:TE3} {t:TA3} {es:List Expr} {X:Cx} (ha:jE3 X e te) (hr:jA3 X es t) (hs:starEach (e::es) X.env=(false,eval e X.env)::starEach es X.env:=by rfl):jA3 X (e::es) (qc te t):=
 ⟨qiW (ha:=ha.h) (hr:=hr.h) (hs:=hs)⟩
def zg {t:TA3} {pos:Pos} {es:List Expr} {X:Cx} {x1} (h:jA3 X es t):jE3 X (.Tuple es x1 pos) (QE t):=
 ⟨qmg (h:=h.h)⟩
def QN {t:TA3} {pos:Pos} {es:List Expr} {X:Cx} (h:jA3 X es t):jE3 X (.List es pos) (VX t):=
 ⟨qno (h:=h.h)⟩
def qI {t:TA3} {pos:Pos} {es:List Expr} {X:Cx} {x:Str} {p:Pos} {id:String} {r3:List T->Gp->Q3->Prop} {r:List V->Hp->VK->Prop} (hc:ZI X (.builtin id) r) (hr:TU X.K r3 r) (hg:Gl X x) (hm:X.mg x=none) (hv:bootBuiltins x=some (.builtin id)) (ha:jA3 X (e::es) t) (hn:x≠"__name__" := by decide) (hdb:(x==("__debug__" : Str))=false:=by decide)
  (he:starEach (e::es) X.env=(false,eval e X.env)::starEach es X.env:=by rfl) (hpl:(backTo pos (starEach es X.env)).any (·.1)=false:=by rfl):jE3 X (.Call (.Name x p) (e::es) [] pos) (cb3 r3 t):=
 ⟨qgD (hc:=hc) (hr:=hr) (hg:=hg) (hm:=hm) (hv:=hv) (ha:=ha.h) (hn:=hn) (hdb:=hdb) (he:=he) (hpl:=hpl)⟩
def qE {t:TA3} {pos:Pos} {es:List Expr} {X:Cx} {x:Str} {p:Pos} {ty:String} {r3:List T->Gp->Q3->Prop} {r:List V->Hp->VK->Prop} (hc:ZI X (.type ty) r) (hr:TU X.K r3 r) (hg:Gl X x) (hm:X.mg x=none) (hv:bootBuiltins x=some (.type ty)) (ha:jA3 X (e::es) t) (hn:x≠"__name__" := by decide) (hdb:(x==("__debug__" : Str))=false:=by decide)
  (he:starEach (e::es) X.env=(false,eval e X.env)::starEach es X.env:=by rfl) (hpl:(backTo pos (starEach es X.env)).any (·.1)=false:=by rfl):jE3 X (.Call (.Name x p) (e::es) [] pos) (cb3 r3 t):=
 ⟨qb8 (hc:=hc) (hr:=hr) (hg:=hg) (hm:=hm) (hv:=hv) (ha:=ha.h) (hn:=hn) (hdb:=hdb) (he:=he) (hpl:=hpl)⟩
def qP {ta:TE3} {tb:TE3} {pos:Pos} {a:Expr} {b:Expr} {X:Cx} (ha:jE3 X a ta) (hb:jE3 X b tb) (hs:WZ b:=by intro _ _;rfl):jE3 X (.Subscript a b pos) (o3 ix3 ta tb):=
 ⟨qo3 (ha:=ha.h) (hb:=hb.h) (hs:=hs)⟩
def XT {X:Cx} :jP3 X none np3:=
 ⟨qgZ ⟩
def XF {te:TE3} {e:Expr} {X:Cx} (h:jE3 X e te):jP3 X (some e) (sp3 te):=
 ⟨qiJ (h:=h.h)⟩
def qby {te:TE3} {pos:Pos} {e:Expr} {X:Cx} {lo hi:Option Expr} {tl th:TO3} {p2:Pos} (he:jE3 X e te) (hl:jP3 X lo tl) (hu:jP3 X hi th):jE3 X (.Subscript e (.Slice lo hi none p2) pos) (qlW te tl th):=
 ⟨qfG (he:=he.h) (hl:=hl.h) (hu:=hu.h)⟩
def qX {ta:TE3} {tb:TE3} {pos:Pos} {a:Expr} {b:Expr} {X:Cx} (ha:jE3 X a ta) (hb:jE3 X b tb):jE3 X (.BinOp a .Add b pos) (o3 jX ta tb):=
 ⟨qju (ha:=ha.h) (hb:=hb.h)⟩
def UU {t:TA3} {e:Expr} {X:Cx} {o:Expr} {to:TE3} {apos cpos:Pos} (ho:jE3 X o to) (ha:jA3 X [e] t)
  (hbase:attributeBase o "append" X.env (eval o X.env)=eval o X.env:=by rfl)
  (hfew:((backTo cpos (starEach [e] X.env)).all (λx=>!x.1)&&(backToKw cpos (keywordEach [] X.env)).all (λx=>x.1.isSome)
   && decide (([e]:List Expr).length+([]:List Keyword).length+(if ([]:List Keyword).isEmpty then 0 else 1)<30))=true:=by rfl)
  (hline:(apos.endLine==cpos.line)=true:=by rfl) (hs:starEach [e] X.env=(false,eval e X.env)::starEach [] X.env:=by rfl) (hplain:(backTo cpos (starEach [] X.env)).any (·.1)=false:=by rfl):jE3 X (.Call (.Attribute o "append" apos) [e] [] cpos) (bm3 MC to t):=
 ⟨qbD (ho:=ho.h) (ha:=ha.h) (hbase:=hbase) (hfew:=hfew) (hline:=hline) (hs:=hs) (hplain:=hplain)⟩
def jY {te:TE3} {pos:Pos} {e:Expr} {X:Cx} {tn:Str} {ty:String} {p p2:Pos} (he:jE3 X e te) (hg:Gl X "isinstance") (hm:X.mg "isinstance" = none) (hg2:Gl X tn) (hm2:X.mg tn=none) (hv:bootBuiltins tn=some (.type ty)) (hmem:ty∈jT:=by decide) (hn:tn≠"__name__" := by decide) (hdb:(tn==("__debug__" : Str))=false:=by decide)
  (hs:starEach [e,.Name tn p2] X.env=(false,eval e X.env)::starEach [.Name tn p2] X.env:=by rfl) (hs2:starEach [.Name tn p2] X.env=(false,eval (.Name tn p2) X.env)::starEach [] X.env:=by rfl) (hpl:(backTo pos (starEach [.Name tn p2] X.env)).any (·.1)=false:=by rfl):jE3 X (.Call (.Name "isinstance" p) [e,.Name tn p2] [] pos) (EX (λt=>j2 t ty) te):=
 ⟨qmE (he:=he.h) (hg:=hg) (hm:=hm) (hg2:=hg2) (hm2:=hm2) (hv:=hv) (hmem:=hmem) (hn:=hn) (hdb:=hdb) (hs:=hs) (hs2:=hs2) (hpl:=hpl)⟩
def qar {te:TE3} {pos:Pos} {e:Expr} {X:Cx} {tn tn':Str} {ty ty':String} {p p2 p3 p4:Pos} {x1} (he:jE3 X e te) (hg:Gl X "isinstance") (hm:X.mg "isinstance" = none) (hg2:Gl X tn) (hm2:X.mg tn=none) (hv:bootBuiltins tn=some (.type ty)) (hg3:Gl X tn') (hm3:X.mg tn'=none) (hv3:bootBuiltins tn'=some (.type ty'))
  (hmem:ty∈jT:=by decide) (hn:tn≠"__name__" := by decide) (hdb:(tn==("__debug__" : Str))=false:=by decide) (hmem3:ty'∈jT:=by decide) (hn3:tn'≠"__name__" := by decide) (hdb3:(tn'==("__debug__" : Str))=false:=by decide)
  (hs:starEach [e,.Tuple [.Name tn p2,.Name tn' p3] x1 p4] X.env=(false,eval e X.env)::starEach [.Tuple [.Name tn p2,.Name tn' p3] x1 p4] X.env:=by rfl) (hs2:starEach [.Tuple [.Name tn p2,.Name tn' p3] x1 p4] X.env=(false,eval (.Tuple [.Name tn p2,.Name tn' p3] x1 p4) X.env)::starEach [] X.env:=by rfl)
  (hs3:starEach [.Name tn p2,.Name tn' p3] X.env=(false,eval (.Name tn p2) X.env)::starEach [.Name tn' p3] X.env:=by rfl) (hs4:starEach [.Name tn' p3] X.env=(false,eval (.Name tn' p3) X.env)::starEach [] X.env:=by rfl)
  (hpl:(backTo pos (starEach [.Tuple [.Name tn p2,.Name tn' p3] x1 p4] X.env)).any (·.1)=false:=by rfl):jE3 X (.Call (.Name "isinstance" p) [e,.Tuple [.Name tn p2,.Name tn' p3] x1 p4] [] pos) (EX (λt=>j2 t ty||j2 t ty') te):=
 ⟨qiP (he:=he.h) (hg:=hg) (hm:=hm) (hg2:=hg2) (hm2:=hm2) (hv:=hv) (hg3:=hg3) (hm3:=hm3) (hv3:=hv3) (hmem:=hmem) (hn:=hn) (hdb:=hdb) (hmem3:=hmem3) (hn3:=hn3) (hdb3:=hdb3) (hs:=hs) (hs2:=hs2) (hs3:=hs3) (hs4:=hs4) (hpl:=hpl)⟩
def qY {X:Cx} :jB3 X [] qS:=
 ⟨qnW ⟩
def qj {jk:List Stmt} {st:Stmt} {t1:TS3} {t2:TS3} {X:Cx} (h1:jS3 X st t1) (h2:jB3 X jk t2):jB3 X (st::jk) (zd t1 t2):=
 ⟨qh8 (h1:=h1.h) (h2:=h2.h)⟩
def qp {st:Stmt} {t1:TS3} {X:Cx} (h1:jS3 X st t1):jB3 X [st] t1:=
 ⟨qng (h1:=h1.h)⟩
def SF {te:TE3} {pos:Pos} {e:Expr} {X:Cx} (he:jE3 X e te) (hs:swapsWith e none pos.line X.env=pure false:=by rfl):jS3 X (.Expr e pos) (E6 te):=
 ⟨qiF (he:=he.h) (hs:=hs)⟩
def qt {te:TE3} {pos:Pos} {e:Expr} {X:Cx} (he:jE3 X e te):jS3 X (.Return (some e) pos) (zh te):=
 ⟨qmY (he:=he.h)⟩
def zU {tA:TT3} {t1:TS3} {t2:TS3} {pos:Pos} {X:Cx} {c:Expr} {ba bb:List Stmt} (hc:jC3 X c tA) (ha:jB3 X ba t1) (hb:jB3 X bb t2):jS3 X (.If c ba bb pos) (jx tA t1 t2):=
 ⟨qpB (hc:=hc.h) (ha:=ha.h) (hb:=hb.h)⟩
def UN {X:Cx} {sts:List Stmt}:jB3 X sts qe9:=
 ⟨qeY ⟩
def jz {pos:Pos} {X:Cx} {i:Nat} {x:Str} (hN:X.N.Nodup) (hi:X.N[i]?=some x:=by rfl) (hx:Loc X.env.scope x:=by first|exact Or.inl rfl|exact Or.inr rfl) (hf:X.fn x=true\/X.env.scope.names.lookup x=some .local:=by first|exact .inl rfl|exact .inr rfl):jG3 X (.Name x pos) (gn3 i):=
 ⟨qiU (hN:=hN) (hi:=hi) (hx:=hx) (hf:=hf)⟩
def WA {X:Cx} :jGs3 X [] UA:=
 ⟨ql8 ⟩
def jv {es:List Expr} {X:Cx} {tg:TG3} {tgs:XX} (h1:jG3 X e tg) (h2:jGs3 X es tgs) (hs:(assignEach (e::es) X.env).map (·.2)=assign e X.env::(assignEach es X.env).map (·.2):=by rfl):jGs3 X (e::es) (zL tg tgs):=
 ⟨qhH (h1:=h1.h) (h2:=h2.h) (hs:=hs)⟩
def CF {pos:Pos} {es:List Expr} {X:Cx} {k:Nat} {tgs:XX} {n:Nat} (hc:X.calm=true) (h:jGs3 X es tgs) (hn:(assignEach es X.env).length=n:=by rfl) (hst:(assignEach es X.env).findIdx? (·.1)=none:=by rfl):jG3 X (.Tuple es k pos) (DK n tgs):=
 ⟨qoj (hc:=hc) (h:=h.h) (hn:=hn) (hst:=hst)⟩
def qeU {pos : Pos} {X : Cx} {o i : Expr} {to ti : TE3} (ho : jE3 X o to) (hi : jE3 X i ti) (ha : ∀ v,assign (.Subscript o i pos) X.env v = (do
      let ov←holding [v] (eval o X.env)
      let iv←holding [v,ov] (eval i X.env)
      standAt pos
      holding [v,ov,iv] (setItem ov iv v)
      release [v,ov,iv] []):=by intro _;rfl):jG3 X (.Subscript o i pos) (WN to ti):=
  ⟨qmS (ho:=ho.h) (hi:=hi.h) (ha:=ha)⟩
def KD {te:TE3} {pos:Pos} {X:Cx} {tg e:Expr} {g:TG3} (he:jE3 X e te) (hg:jG3 X tg g) (hs:swapsWithSole [tg] e pos.line X.env=pure false:=by rfl) (hw:swappedStores [tg] e X.env=pure none:=by rfl)
  (h1:(assignEach [tg] X.env).map (·.2)=[assign tg X.env]:=by rfl):jS3 X (.Assign [tg] e pos) (jc te g):=
 ⟨qnY (he:=he.h) (hg:=hg.h) (hs:=hs) (hw:=hw) (h1:=h1)⟩
def zp {te:TE3} {pos:Pos} {X:Cx} (i:Nat) {x:Str} {e:Expr} {pos':Pos} (hN:X.N.Nodup) (he:jE3 X e te) (hi:X.N[i]?=some x:=by rfl) (hx:Loc X.env.scope x:=by first|exact Or.inl rfl|exact Or.inr rfl) (hs:swapsWith e (some (.Name x pos')) pos.line X.env=pure false:=by rfl) (hf:X.fn x=true\/X.env.scope.names.lookup x=some .local:=by first|exact .inl rfl|exact .inr rfl):jS3 X (.Assign [.Name x pos'] e pos) (jc te (gn3 i)):=
 ⟨qmW (i:=i) (hN:=hN) (he:=he.h) (hi:=hi) (hx:=hx) (hs:=hs) (hf:=hf)⟩
def SW {pos:Pos} {X:Cx} {i j:Nat} {x y:Str} {a b:Expr} {tt:TA3} {px py pt:Pos} {kt k2 pt2} (hc:X.calm=true) (hN:X.N.Nodup) (hi:X.N[i]?=some x) (hj:X.N[j]?=some y) (hij:i≠j)
  (hx:X.env.scope.names.lookup x=some .local) (hy:X.env.scope.names.lookup y=some .local) (ha:jA3 X [a,b] tt)
  (hw:swappedStores [.Tuple [.Name x px,.Name y py] kt pt] (.Tuple [a,b] k2 pt2) X.env=pure (some [x,y]):=by rfl)
  (hs:swapsWithSole [.Tuple [.Name x px,.Name y py] kt pt] (.Tuple [a,b] k2 pt2) pos.line X.env=pure false:=by rfl):jS3 X (.Assign [.Tuple [.Name x px,.Name y py] kt pt] (.Tuple [a,b] k2 pt2) pos) (NK i j tt):=
 ⟨qmy (hc:=hc) (hN:=hN) (hi:=hi) (hj:=hj) (hij:=hij) (hx:=hx) (hy:=hy) (ha:=ha.h) (hw:=hw) (hs:=hs)⟩
def Z6 {te:TE3} {X:Cx} {tg:Expr} {l:Expr} (hl:jE3 X l te):jI3 X tg l (Q9 te):=
 ⟨qnS (hl:=hl.h)⟩
def QT {t:TA3} {pos:Pos} {a:Expr} {X:Cx} {tg:Expr} {p:Pos} (hg:Gl X "range") (hm:X.mg "range" = none) (ha:jA3 X [a] t) (hs:starEach [a] X.env=[(false,eval a X.env)]:=by rfl) (h1:∀ τ G q,t τ G q->t τ G λxs G=>q xs G/\xs.length=1):jI3 X tg (.Call (.Name "range" p) [a] [] pos) (VQ t):=
 ⟨qcQ (hg:=hg) (hm:=hm) (ha:=ha.h) (hs:=hs) (h1:=h1)⟩
def WC {pos:Pos} {X:Cx} {tg:Expr} {iter:Expr} {body:List Stmt} {wi:TI3} {g:TG3} {tb:TS3} (hp:PassesOwn (model X.prog X.w) X.A X.env X.xe) (hc:X.calm=true) (hi:jI3 X tg iter wi) (hg:jG3 X tg g) (hb:jB3 X body tb)
  (hs:∀ x,foldedSetIterable iter X.env x=pure x:=by intro _;rfl):jS3 X (.For tg iter body [] pos) (C6 wi g tb):=
 ⟨qnB (hp:=hp) (hc:=hc) (hi:=hi.h) (hg:=hg.h) (hb:=hb.h) (hs:=hs)⟩
def qi {t:TA3} {pos:Pos} {es:List Expr} {X:Cx} {k:Nat} {x:Str} {p:Pos} {sp:Sp3} (F:Fn3 X.prog X.w X.K X.mg X.base k x sp) (hr:Room k X.A) (hg:Gl X x) (ha:jA3 X (e::es) t) (hdb:(x==("__debug__" : Str))=false:=by decide)
  (he:starEach (e::es) X.env=(false,eval e X.env)::starEach es X.env:=by rfl) (hpl:(backTo pos (starEach es X.env)).any (·.1)=false:=by rfl):jE3 X (.Call (.Name x p) (e::es) [] pos) (cb3 sp t):=
 ⟨qkS (F:=F) (hr:=hr) (hg:=hg) (ha:=ha.h) (hdb:=hdb) (he:=he) (hpl:=hpl)⟩
def DE {X:Cx} {elt tg iter:Expr} {ifs:List Expr} {scope:Scope} {pos:Pos} (N':List Str) (m:List (Option Nat)) {wi:TI3} {g:TG3} {tif:TT3} {te:TE3} (hc:X.calm=true) (hi:jI3 X tg iter wi)
  (hg:∀ s H fp,jG3 (qf X N' scope s H fp) tg g) (hf:∀ s H fp,jF3 (qf X N' scope s H fp) ifs tif) (he:∀ s H fp,jE3 (qf X N' scope s H fp) elt te)
  (hsc:MB X.env.scope scope=true) (hcap:JV X.N N' scope m=true) (hs:∀ x,foldedSetIterable iter X.env x=pure x:=by intro _;rfl):jE3 X (.ListComp elt [⟨tg,iter,ifs,0⟩] scope pos) (lc3 wi g tif te m):=
 ⟨qpl (N':=N') (m:=m) (hc:=hc) (hi:=hi.h) (hg:=(λs H fp=>(hg s H fp).h)) (hf:=(λs H fp=>(hf s H fp).h)) (he:=(λs H fp=>(he s H fp).h)) (hsc:=hsc) (hcap:=hcap) (hs:=hs)⟩
def j4 {X:Cx}:jF3 X [] tt3:=
 ⟨qne ⟩
def qiO {t:TA3} {pos:Pos} {es:List Expr} {a:Expr} {b:Expr} {X:Cx} {p pt:Pos} {k1:Nat} (hg:Gl X "zip") (hm:X.mg "zip" = none) (ha:jA3 X [a,b] t) (hs:starEach [a,b] X.env=[(false,eval a X.env),(false,eval b X.env)]:=by rfl) (hs2:starEach [b] X.env=[(false,eval b X.env)]:=by rfl):jI3 X (.Tuple es k1 pt) (.Call (.Name "zip" p) [a,b] [] pos) (qbS t):=
 ⟨qnc (hg:=hg) (hm:=hm) (ha:=ha.h) (hs:=hs) (hs2:=hs2)⟩
def qfc {t:TA3} {pos:Pos} {es:List Expr} {a:Expr} {X:Cx} {p pt:Pos} {k1:Nat} (hg:Gl X "enumerate") (hm:X.mg "enumerate" = none) (ha:jA3 X [a] t) (hs:starEach [a] X.env=[(false,eval a X.env)]:=by rfl):jI3 X (.Tuple es k1 pt) (.Call (.Name "enumerate" p) [a] [] pos) (T6 t):=
 ⟨qki (hg:=hg) (hm:=hm) (ha:=ha.h) (hs:=hs)⟩
def jpt {X:Cx} {e:Expr} {t:TT3} (h:jW3 X e t):jC3 X e t:=⟨PW.pt h.h⟩
def qK {P:Program} {w:World} {K:Frg} {mg:Str->Option Value} {base:Heap} {x qual:Str} {st:Stmt} {f:Addr} {fd:FuncData} {N ps:List Str} {k:Nat} {sp:Sp3} {t3:TS3} (F:Fun K x qual st f fd) (S:FnScope N ps (qh st)) (bd:zw K fd ps []) (hm:mg x=some (.ref f))
  (body:∀ (cdv:Value) (A:Around) (outer:List Env) (s:Shared) (H:Hp) (E:XK),Room k (A.deeper (envOfC qual (qh st) s.heap.objs.size f cdv)) ->
   jB3 (qbt CX0 P w K mg base N qual (qh st) f cdv A outer s H E).nox (zP st) t3)
  (read:∀ ts G q,sp ts G q->ts.length=ps.length/\t3 { nx:=λ_ G'=>q .non G',rt:=q } (qx N ts) G):Fn3 P w K mg base (k+1) x sp:=
 qjS F S bd hm (λcdv A outer s H E hr=>(body cdv A outer s H E hr).h) read
def qbB {P:Program} {w:World} {K:Frg} {mg:Str->Option Value} {base:Heap} {x qual:Str} {st:Stmt} {f:Addr} {fd:FuncData} {N ps:List Str} {k:Nat} {sp:Sp3} {t3:TS3} (F:Fun K x qual st f fd) (S:FnScope N ps (qh st))
  (body:∀ (cdv:Value) (A:Around) (outer:List Env) (s:Shared) (H:Hp) (E:XK),Room k (A.deeper (envOfC qual (qh st) s.heap.objs.size f cdv)) ->
   jB3 (qbt CX0 P w K mg base N qual (qh st) f cdv A outer s H E).nox (zP st) t3)
  (read:∀ ts G q,sp ts G q->ts.length=ps.length/\t3 { nx:=λ_ G'=>q .non G',rt:=q } (qx N ts) G):FnOk P w K mg base CX0 (k+1) f fd ps (lSp K sp):=
 qfK F S (λcdv A outer s H E hr=>(body cdv A outer s H E hr).h) read
open PySem.SeqAt
def Ex (G G':Gp):Prop:=∀ b o,G b=some o->G' b=some o
def Ex.refl {G:Gp}:Ex G G:=λ_ _ e=>e
def Ex.trans {G G1 G2:Gp} (a:Ex G G1) (b:Ex G1 G2):Ex G G2:=λx o e=>b x o (a x o e)
def jD {G:Gp} {p:Addr} {o:O} (hp:G p=none):Ex G (gu G p o):=λb ob e=>by
 rw [zm (by rintro rfl;rw [hp] at e;cases e)];exact e
mutual
inductive Dp (G:Gp):T->PyData->Prop
 |non:Dp G .non .none
 |bl (b:Bool):Dp G (.bl b) (.bool b)
 |int (i:Int):Dp G (.int i) (.int i)
 |str (x:Str):Dp G (.str x) (.str x)
 |tup {xs:List T} {ds:List PyData}:Dps G xs ds->Dp G (.tup xs) (.tuple ds)
 |lst {p:Addr} {xs:List T} {ds:List PyData}:getL G p=some xs->Dps G xs ds->Dp G (.ref p) (.list ds)
inductive Dps (G:Gp):List T->List PyData->Prop
 |nil:Dps G [] []
 |cons {x:T} {d:PyData} {xs:List T} {ds:List PyData}:Dp G x d->Dps G xs ds->Dps G (x::xs) (d::ds)
end
def Ex.getL {G G':Gp} (e:Ex G G') {p:Addr} {xs:List T} (h:getL G p=some xs):getL G' p=some xs:=by
 unfold L3.getL at h ⊢;split at h
 ·rename_i ys g;cases h;rw [e _ _ g]
 ·rename_i ys g;cases h;rw [e _ _ g]
 ·cases h
mutual
def Dp.up {G G':Gp} (e:Ex G G'):∀ {x:T} {d:PyData},Dp G x d->Dp G' x d
 |_,_,.non=>.non
 |_,_,.bl b=>.bl b
 |_,_,.int i=>.int i
 |_,_,.str x=>.str x
 |_,_,.tup h=>.tup (Dps.up e h)
 |_,_,.lst h1 h2=>.lst (e.getL h1) (Dps.up e h2)
def Dps.up {G G':Gp} (e:Ex G G'):∀ {x:List T} {d:List PyData},Dps G x d->Dps G' x d
 |_,_,.nil=>.nil
 |_,_,.cons a b=>.cons (Dp.up e a) (Dps.up e b)
end
def Dps.length {G:Gp}:∀ {xs:List T} {ds:List PyData},Dps G xs ds->xs.length=ds.length
 |_,_,.nil=>rfl
 |_,_,.cons _ b=>by simp [Dps.length b]
def Dps.get {G:Gp}:∀ {xs:List T} {ds:List PyData} {i:Nat} {x:T},Dps G xs ds->xs[i]?=some x->∃ d,ds[i]?=some d/\Dp G x d
 |_,_,_,_,.nil,e=>by simp at e
 |_,_,0,_,.cons r _,e=>by simp at e;subst e;exact ⟨_,rfl,r⟩
 |_,_,i+1,x,.cons _ t,e=>by
  obtain ⟨u,h1,h2⟩:=Dps.get (i:=i) (x:=x) t (by simpa using e);exact ⟨u,by simpa using h1,h2⟩
mutual
inductive DV (K:Frg) (H:Hp):V->PyData->Prop
 |non:DV K H .non .none
 |bl (b:Bool):DV K H (.bl b) (.bool b)
 |int (i:Int):DV K H (.int i) (.int i)
 |str (x:Str):DV K H (.str x) (.str x)
 |tup {a:Addr} {vs:List V} {ds:List PyData}:SqT K H a vs->DVs K H vs ds->DV K H (.ref a) (.tuple ds)
 |lst {a:Addr} {vs:List V} {ds:List PyData}:SqL K H a vs->DVs K H vs ds->DV K H (.ref a) (.list ds)
inductive DVs (K:Frg) (H:Hp):List V->List PyData->Prop
 |nil:DVs K H [] []
 |cons {x:V} {d:PyData} {xs:List V} {ds:List PyData}:DV K H x d->DVs K H xs ds->DVs K H (x::xs) (d::ds)
end
mutual
def Dp.dv {K:Frg} {G:Gp} {H:Hp} (hr:HR K G H):∀ {x:T} {d:PyData} {v:V},Dp G x d->Rp K H x v->DV K H v d
 |_,_,_,.non,.non=>.non
 |_,_,_,.bl b,.bl _=>.bl b
 |_,_,_,.int i,.int _=>.int i
 |_,_,_,.str x,.str _=>.str x
 |_,_,_,.tup h,.tup hs rs=>.tup hs (Dps.dv hr h rs)
 |_,_,_,.lst g h,r=>by
  cases r;obtain ⟨_,hs,rs⟩:=zz hr g;exact .lst hs (Dps.dv hr h rs)
def Dps.dv {K:Frg} {G:Gp} {H:Hp} (hr:HR K G H):∀ {x:List T} {d:List PyData} {v:List V},Dps G x d->Rps K H x v->DVs K H v d
 |_,_,_,.nil,.nil=>.nil
 |_,_,_,.cons a b,.cons c d=>.cons (Dp.dv hr a c) (Dps.dv hr b d)
end
mutual
def zN:PyData->PyData->Option Bool
 |.none,.none=>some true
 |.bool a,.bool b=>some (a==b)
 |.int a,.int b=>some (a==b)
 |.str a,.str b=>some (a==b)
 |.list xs,.list ys=>JY xs ys
 |.tuple xs,.tuple ys=>JY xs ys
 |.int _,.none=>some false
 |.none,.int _=>some false
 |_,_=>none
def JY:List PyData->List PyData->Option Bool
 |[],[]=>some true
 |x::xs,y::ys=>match zN x y,JY xs ys with|some a,some b=>some (a&&b)|_,_=>none
 |_,_=>some false
end
mutual
def dpt:PyData->Nat
 |.list xs=>qfQ xs+1
 |.tuple xs=>qfQ xs+1
 |_=>0
def qfQ:List PyData->Nat
 |[]=>0
 |x::xs=>max (dpt x) (qfQ xs)
end
section
variable {X:Cx} {pins:List (Addr×Obj)} {σ:L2.St} {H:Hp} {s:Shared}
mutual
def DV.inj (I:Inv X pins σ H s):∀ {v:V} {d e:PyData},DV X.K H v d->DV X.K H v e->d=e
 |_,_,_,.non,.non=>rfl
 |_,_,_,.bl _,.bl _=>rfl
 |_,_,_,.int _,.int _=>rfl
 |_,_,_,.str _,.str _=>rfl
 |_,_,_,.tup h hs,.tup k ks=>by
  have:=I.tuple_inj h k;subst this;rw [DVs.inj I hs ks]
 |_,_,_,.lst h hs,.lst k ks=>by
  have:=I.list_inj h k;subst this;rw [DVs.inj I hs ks]
 |_,_,_,.tup h hs,.lst k ks=>by
  obtain ⟨i1,_,p1,_⟩:=I.tuple h;obtain ⟨i2,_,p2,_⟩:=I.list k;exact absurd rfl (ne_of_list_tuple p2.isList (show s.heap.IsTuple _ i1.toArray from p1))
 |_,_,_,.lst k ks,.tup h hs=>by
  obtain ⟨i1,_,p1,_⟩:=I.tuple h;obtain ⟨i2,_,p2,_⟩:=I.list k;exact absurd rfl (ne_of_list_tuple p2.isList (show s.heap.IsTuple _ i1.toArray from p1))
def DVs.inj (I:Inv X pins σ H s):∀ {v:List V} {d e:List PyData},DVs X.K H v d->DVs X.K H v e->d=e
 |_,_,_,.nil,.nil=>rfl
 |_,_,_,.cons a b,.cons c d=>by rw [DV.inj I a c,DVs.inj I b d]
end
mutual
def X8:∀ {d:PyData} {b:Bool},zN d d=some b->b=true
 |.none,_,h=>by simp [zN] at h;exact h
 |.bool _,_,h=>by simp [zN] at h;exact h
 |.int _,_,h=>by simp [zN] at h;exact h
 |.str _,_,h=>by simp [zN] at h;exact h
 |.list xs,_,h=>by simp only [zN] at h;exact VN h
 |.tuple xs,_,h=>by simp only [zN] at h;exact VN h
 |.dict _,_,h=>by simp [zN] at h
def VN:∀ {d:List PyData} {b:Bool},JY d d=some b->b=true
 |[],_,h=>by simp [JY] at h;exact h
 |x::xs,b,h=>by
  simp only [JY] at h;split at h
  ·rename_i a c e1 e2;rw [X8 e1,VN e2] at h;simpa using h.symm
  ·cases h
end
def Z5:∀ {xs ys:List PyData} {b:Bool},JY xs ys=some b->xs.length=ys.length->∃ e:Nat->Bool,(∀ (j:Nat) x y,xs[j]?=some x->ys[j]?=some y->zN x y=some (e j))/\b=(List.range xs.length).all e
 |[],[],b,h,_=>by simp [JY] at h;exact ⟨λ_=>true,by simp,by simp [h]⟩
 |x::xs,y::ys,b,h,hl=>by
  simp only [JY] at h;split at h
  ·rename_i a c e1 e2;obtain ⟨e,h1,h2⟩:=Z5 e2 (by simpa using hl);refine ⟨λj=>match j with|0=>a|j+1=>e j,λj u v hu hv=>?_,?_⟩
   ·cases j with
    |zero=>simp at hu hv;subst hu;subst hv;exact e1
    |succ j=>exact h1 j u v (by simpa using hu) (by simpa using hv)
   ·rw [length_cons,List.range_succ_eq_map,List.all_cons,List.all_map];cases h;rw [h2];rfl
  ·cases h
 |[],_::_,_,_,hl=>by simp at hl
 |_::_,[],_,_,hl=>by simp at hl
def ZV:∀ {xs ys:List PyData} {b:Bool},JY xs ys=some b->xs.length≠ys.length->b=false/\∃ e:Nat->Bool,∀ (j:Nat) x y,xs[j]?=some x->ys[j]?=some y->zN x y=some (e j)
 |[],[],_,_,hl=>by simp at hl
 |[],_::_,b,h,_=>by simp [JY] at h;exact ⟨h,λ_=>true,by simp⟩
 |_::_,[],b,h,_=>by simp [JY] at h;exact ⟨h,λ_=>true,by simp⟩
 |x::xs,y::ys,b,h,hl=>by
  simp only [JY] at h;split at h
  ·rename_i a c e1 e2;obtain ⟨h0,e,h1⟩:=ZV e2 (by simpa using hl);subst h0;refine ⟨by simpa using h.symm,λj=>match j with|0=>a|j+1=>e j,λj u v hu hv=>?_⟩;cases j with
   |zero=>simp at hu hv;subst hu;subst hv;exact e1
   |succ j=>exact h1 j u v (by simpa using hu) (by simpa using hv)
  ·cases h
def YA:∀ {xs:List PyData} {x:PyData},x∈xs->dpt x<=qfQ xs
 |[],_,h=>by simp at h
 |y::ys,x,h=>by
  simp only [qfQ];rcases mem_cons.mp h with e|e
  ·subst e;omega
  ·have:=YA e;omega
def DVs.get {K:Frg} {H:Hp}:∀ {xs:List V} {ds:List PyData} {i:Nat} {x:V},DVs K H xs ds->xs[i]?=some x->∃ d,ds[i]?=some d/\DV K H x d
 |_,_,_,_,.nil,e=>by simp at e
 |_,_,0,_,.cons r _,e=>by simp at e;subst e;exact ⟨_,rfl,r⟩
 |_,_,i+1,x,.cons _ t,e=>by
  obtain ⟨u,h1,h2⟩:=DVs.get (i:=i) (x:=x) t (by simpa using e);exact ⟨u,by simpa using h1,h2⟩
def DVs.length {K:Frg} {H:Hp}:∀ {xs:List V} {ds:List PyData},DVs K H xs ds->xs.length=ds.length
 |_,_,.nil=>rfl
 |_,_,.cons _ b=>by simp [DVs.length b]
def ZS {vs:List V} {us:List Value} (r:zx vs us) {j:Nat} (h:j<us.toArray.size):∃ v,vs[j]?=some v/\jt v us.toArray[j]:=by
 have hj:j<vs.length:=by rw [r.length];simpa using h
 obtain ⟨u,hu,ru⟩:=r.get (getElem?_eq_getElem hj);refine ⟨vs[j],getElem?_eq_getElem hj,?_⟩;have hj2:j<us.length:=by simpa using h
 rw [getElem?_eq_getElem hj2] at hu;have:us[j]=u:=Option.some.inj hu;simpa [this] using ru
def XC (I:Inv X pins σ H s):∀ (n:Nat) {v u:V} {d e:PyData} {b:Bool} {x y:Value} {A:Around},DV X.K H v d->DV X.K H u e->zN d e=some b->dpt d<=n->A.units+n<cLine->jt v x->jt u y ->
  RcAt A s x y b/\EqAt A s x y b:=by
 intro n;induction n with
 |zero=>
  intro v u d e b x y A hv hu h hd hn rx ry;cases hv with
  |non=>
   cases hu with
   |non=>simp [zN] at h;subst h;cases (show x=Value.none from rx);cases (show y=Value.none from ry);exact ⟨RcAt.none_none,EqAt.same _⟩
   |int c=>simp [zN] at h;subst h;cases (show x=Value.none from rx);obtain ⟨t',rfl⟩:=(show ∃ t,y=Value.int _ t from ry);exact ⟨RcAt.none_int _ _,EqAt.none_int _ _⟩
   |bl _=>simp [zN] at h
   |str _=>simp [zN] at h
   |tup _ _=>simp [zN] at h
   |lst _ _=>simp [zN] at h
  |bl a=>cases hu<;>simp [zN] at h;subst h;cases (show x=Value.bool _ from rx);cases (show y=Value.bool _ from ry);exact ⟨RcAt.bool_bool _ _,EqAt.bool_bool _ _⟩
  |int a=>
   cases hu with
   |int c=>simp [zN] at h;subst h;obtain ⟨t,rfl⟩:=(show ∃ t,x=Value.int _ t from rx);obtain ⟨t',rfl⟩:=(show ∃ t,y=Value.int _ t from ry);exact ⟨RcAt.int_int _ _ _ _,EqAt.int_int _ _ _ _⟩
   |non=>simp [zN] at h;subst h;obtain ⟨t,rfl⟩:=(show ∃ t,x=Value.int _ t from rx);cases (show y=Value.none from ry);exact ⟨RcAt.int_none _ _,EqAt.int_none _ _⟩
   |bl _=>simp [zN] at h
   |str _=>simp [zN] at h
   |tup _ _=>simp [zN] at h
   |lst _ _=>simp [zN] at h
  |str a=>cases hu<;>simp [zN] at h;subst h;obtain ⟨t,rfl⟩:=(show ∃ t,x=Value.str _ t from rx);obtain ⟨t',rfl⟩:=(show ∃ t,y=Value.str _ t from ry);exact ⟨RcAt.str_str _ _ _ _,EqAt.str_str _ _ _ _⟩
  |tup=>simp [dpt] at hd
  |lst=>simp [dpt] at hd
 |succ n ih=>
  intro v u d e b x y A hv hu h hd hn rx ry;have fin:∀ {l l':Addr} {k:Bool},x=.ref l->y=.ref l'->v=.ref l->u=.ref l'->b=k->RcAt A s x y k->RcAt A s x y b/\EqAt A s x y b:=by
   rintro l l' k rfl rfl rfl rfl rfl rc;refine ⟨rc,?_⟩;by_cases hll:l=l'
   ·subst hll;have:=DV.inj I hv hu;subst this;rw [X8 h];exact EqAt.same _
   ·exact EqAt.of_refs hll rc
  cases hv with
  |non=>
   cases hu with
   |non=>simp [zN] at h;subst h;cases (show x=Value.none from rx);cases (show y=Value.none from ry);exact ⟨RcAt.none_none,EqAt.same _⟩
   |int c=>simp [zN] at h;subst h;cases (show x=Value.none from rx);obtain ⟨t',rfl⟩:=(show ∃ t,y=Value.int _ t from ry);exact ⟨RcAt.none_int _ _,EqAt.none_int _ _⟩
   |bl _=>simp [zN] at h
   |str _=>simp [zN] at h
   |tup _ _=>simp [zN] at h
   |lst _ _=>simp [zN] at h
  |bl a=>cases hu<;>simp [zN] at h;subst h;cases (show x=Value.bool _ from rx);cases (show y=Value.bool _ from ry);exact ⟨RcAt.bool_bool _ _,EqAt.bool_bool _ _⟩
  |int a=>
   cases hu with
   |int c=>simp [zN] at h;subst h;obtain ⟨t,rfl⟩:=(show ∃ t,x=Value.int _ t from rx);obtain ⟨t',rfl⟩:=(show ∃ t,y=Value.int _ t from ry);exact ⟨RcAt.int_int _ _ _ _,EqAt.int_int _ _ _ _⟩
   |non=>simp [zN] at h;subst h;obtain ⟨t,rfl⟩:=(show ∃ t,x=Value.int _ t from rx);cases (show y=Value.none from ry);exact ⟨RcAt.int_none _ _,EqAt.int_none _ _⟩
   |bl _=>simp [zN] at h
   |str _=>simp [zN] at h
   |tup _ _=>simp [zN] at h
   |lst _ _=>simp [zN] at h
  |str a=>cases hu<;>simp [zN] at h;subst h;obtain ⟨t,rfl⟩:=(show ∃ t,x=Value.str _ t from rx);obtain ⟨t',rfl⟩:=(show ∃ t,y=Value.str _ t from ry);exact ⟨RcAt.str_str _ _ _ _,EqAt.str_str _ _ _ _⟩
  |tup hq hs=>
   cases hu with
   |tup kq ks=>
    rename_i a1 vs1 ds1 a2 vs2 ds2;simp only [zN] at h;obtain ⟨i1,r1,p1,z1⟩:=I.tuple hq;obtain ⟨i2,r2,p2,z2⟩:=I.tuple kq;have l1:=hs.length;have l2:=ks.length;have m1:=r1.length;have m2:=r2.length;have el:∀ (e:Nat->Bool),(∀ (j:Nat) x y,ds1[j]?=some x->ds2[j]?=some y->zN x y=some (e j))->∀ j (h1:j<i1.toArray.size) (h2:j<i2.toArray.size),EqAt A.in1 s i1.toArray[j] i2.toArray[j] (e j):=λe he j h1 h2=>by
     obtain ⟨w1,g1,q1⟩:=ZS r1 h1;obtain ⟨w2,g2,q2⟩:=ZS r2 h2;obtain ⟨d1,f1,dv1⟩:=hs.get g1;obtain ⟨d2,f2,dv2⟩:=ks.get g2;have:=YA (mem_of_getElem? f1);exact (ih dv1 dv2 (he j d1 d2 f1 f2) (by simp only [dpt] at hd;omega) (show A.units+1+n<cLine by omega) q1 q2).2
    cases (show x=Value.ref a1 from rx);cases (show y=Value.ref a2 from ry);by_cases hl:ds1.length=ds2.length
    ·obtain ⟨e,he,hb⟩:=Z5 h hl;refine fin rfl rfl rfl rfl (k:=(List.range (min i1.toArray.size i2.toArray.size)).all e&&i1.toArray.size==i2.toArray.size) ?_ (RcAt.tuples (show s.heap.IsTuple a1 i1.toArray from p1) (show s.heap.IsTuple a2 i2.toArray from p2) (by omega) (el e he));have e1:i1.toArray.size=ds1.length:=by rw [size_toArray];omega
     have e2:i2.toArray.size=ds1.length:=by rw [size_toArray];omega
     rw [e1,e2,hb];simp
    ·obtain ⟨hb,e,he⟩:=ZV h hl;refine fin rfl rfl rfl rfl (k:=(List.range (min i1.toArray.size i2.toArray.size)).all e&&i1.toArray.size==i2.toArray.size) ?_ (RcAt.tuples (show s.heap.IsTuple a1 i1.toArray from p1) (show s.heap.IsTuple a2 i2.toArray from p2) (by omega) (el e he));have e1:i1.toArray.size≠i2.toArray.size:=by rw [size_toArray,size_toArray];omega
     rw [hb];simp [e1];intro;omega
   |_=>simp [zN] at h
  |lst hq hs=>
   cases hu with
   |lst kq ks=>
    rename_i a1 vs1 ds1 a2 vs2 ds2;simp only [zN] at h;obtain ⟨i1,r1,p1,z1⟩:=I.list hq;obtain ⟨i2,r2,p2,z2⟩:=I.list kq;have l1:=hs.length;have l2:=ks.length;have m1:=r1.length;have m2:=r2.length;have el:∀ (e:Nat->Bool),(∀ (j:Nat) x y,ds1[j]?=some x->ds2[j]?=some y->zN x y=some (e j))->∀ j (h1:j<i1.toArray.size) (h2:j<i2.toArray.size),EqAt A.in1 s i1.toArray[j] i2.toArray[j] (e j):=λe he j h1 h2=>by
     obtain ⟨w1,g1,q1⟩:=ZS r1 h1;obtain ⟨w2,g2,q2⟩:=ZS r2 h2;obtain ⟨d1,f1,dv1⟩:=hs.get g1;obtain ⟨d2,f2,dv2⟩:=ks.get g2;have:=YA (mem_of_getElem? f1);exact (ih dv1 dv2 (he j d1 d2 f1 f2) (by simp only [dpt] at hd;omega) (show A.units+1+n<cLine by omega) q1 q2).2
    cases (show x=Value.ref a1 from rx);cases (show y=Value.ref a2 from ry);by_cases hl:ds1.length=ds2.length
    ·obtain ⟨e,he,hb⟩:=Z5 h hl;refine fin rfl rfl rfl rfl (k:=(List.range i1.toArray.size).all e) ?_ (RcAt.lists p1.isList p2.isList (by rw [size_toArray,size_toArray];omega) (by omega) (el e he));have e1:i1.toArray.size=ds1.length:=by rw [size_toArray];omega
     rw [e1,hb]
    ·obtain ⟨hb,e,he⟩:=ZV h hl;refine fin rfl rfl rfl rfl (k:=false) hb (RcAt.lists_lengths p1.isList p2.isList (by rw [size_toArray,size_toArray];simp;omega) (by omega))
   |_=>simp [zN] at h
def qfd (I:Inv X pins σ H s) {n:Nat} {v u:V} {d e:PyData} {b:Bool} {x y:Value} {A:Around} (hv:DV X.K H v d) (hu:DV X.K H u e) (h:zN d e=some b) (hd:dpt d<=n+1) (hn:A.units+(n+1)<cLine) (rx:jt v x) (ry:jt u y) (hs:dpt d≠0):RcNeAt A s x y (!b):=by
 cases hv with
 |tup hq hs'=>
  cases hu with
  |tup kq ks=>
   rename_i a1 vs1 ds1 a2 vs2 ds2;simp only [zN] at h;obtain ⟨i1,r1,p1,z1⟩:=I.tuple hq;obtain ⟨i2,r2,p2,z2⟩:=I.tuple kq;have l1:=hs'.length;have l2:=ks.length;have m1:=r1.length;have m2:=r2.length;have el:∀ (e:Nat->Bool),(∀ (j:Nat) x y,ds1[j]?=some x->ds2[j]?=some y->zN x y=some (e j))->∀ j (h1:j<i1.toArray.size) (h2:j<i2.toArray.size),EqAt A.in1 s i1.toArray[j] i2.toArray[j] (e j):=λe he j h1 h2=>by
    obtain ⟨w1,g1,q1⟩:=ZS r1 h1;obtain ⟨w2,g2,q2⟩:=ZS r2 h2;obtain ⟨d1,f1,dv1⟩:=hs'.get g1;obtain ⟨d2,f2,dv2⟩:=ks.get g2;have:=YA (mem_of_getElem? f1);exact (XC I n dv1 dv2 (he j d1 d2 f1 f2) (by simp only [dpt] at hd;omega) (show A.units+1+n<cLine by omega) q1 q2).2
   cases (show x=Value.ref a1 from rx);cases (show y=Value.ref a2 from ry);by_cases hl:ds1.length=ds2.length
   ·obtain ⟨e,he,hb⟩:=Z5 h hl;have:=RcNeAt.tuples (show s.heap.IsTuple a1 i1.toArray from p1) (show s.heap.IsTuple a2 i2.toArray from p2) (A:=A) (by omega) (el e he);have e1:i1.toArray.size=ds1.length:=by rw [size_toArray];omega
    have e2:i2.toArray.size=ds1.length:=by rw [size_toArray];omega
    rw [e1,e2] at this;rw [hb];simpa using this
   ·obtain ⟨hb,e,he⟩:=ZV h hl;have:=RcNeAt.tuples (show s.heap.IsTuple a1 i1.toArray from p1) (show s.heap.IsTuple a2 i2.toArray from p2) (A:=A) (by omega) (el e he);have e1:(i1.toArray.size==i2.toArray.size)=false:=by rw [size_toArray,size_toArray];simp;omega
    rw [e1] at this;rw [hb];simpa using this
  |_=>simp [zN] at h
 |lst hq hs'=>
  cases hu with
  |lst kq ks=>
   rename_i a1 vs1 ds1 a2 vs2 ds2;simp only [zN] at h;obtain ⟨i1,r1,p1,z1⟩:=I.list hq;obtain ⟨i2,r2,p2,z2⟩:=I.list kq;have l1:=hs'.length;have l2:=ks.length;have m1:=r1.length;have m2:=r2.length;have el:∀ (e:Nat->Bool),(∀ (j:Nat) x y,ds1[j]?=some x->ds2[j]?=some y->zN x y=some (e j))->∀ j (h1:j<i1.toArray.size) (h2:j<i2.toArray.size),EqAt A.in1 s i1.toArray[j] i2.toArray[j] (e j):=λe he j h1 h2=>by
    obtain ⟨w1,g1,q1⟩:=ZS r1 h1;obtain ⟨w2,g2,q2⟩:=ZS r2 h2;obtain ⟨d1,f1,dv1⟩:=hs'.get g1;obtain ⟨d2,f2,dv2⟩:=ks.get g2;have:=YA (mem_of_getElem? f1);exact (XC I n dv1 dv2 (he j d1 d2 f1 f2) (by simp only [dpt] at hd;omega) (show A.units+1+n<cLine by omega) q1 q2).2
   cases (show x=Value.ref a1 from rx);cases (show y=Value.ref a2 from ry);by_cases hl:ds1.length=ds2.length
   ·obtain ⟨e,he,hb⟩:=Z5 h hl;have:=RcNeAt.lists p1.isList p2.isList (A:=A) (by rw [size_toArray,size_toArray];omega) (by omega) (el e he);have e1:i1.toArray.size=ds1.length:=by rw [size_toArray];omega
    rw [e1] at this;rw [hb];exact this
   ·obtain ⟨hb,e,he⟩:=ZV h hl;rw [hb];exact RcNeAt.lists_lengths p1.isList p2.isList (by rw [size_toArray,size_toArray];simp;omega) (by omega)
  |_=>simp [zN] at h
 |_=>simp [dpt] at hs
def qgS (K:Frg) (neg:Bool):R2:=λx y H Q=>∃ d e b,DV K H x d/\DV K H y e/\zN d e=some b/\dpt d<=40/\dpt d≠0/\Q (.bl (if neg then !b else b)) H
def qkQ (hu:X.A.units+64<cLine):OpR X (compareOp .Eq) (qgS X.K false):=by
 intro pins s σ H x y v u Q I rx ry h;obtain ⟨d,e,b,hx,hy,hb,hd,_,q⟩:=h;exact (XC I 40 hx hy hb hd (by omega) rx ry).1 X.prog X.w X.xe _ ⟨.bl b,H,I,rfl,q⟩
def qhn (hu:X.A.units+64<cLine):OpR X (compareOp .NotEq) (qgS X.K true):=by
 intro pins s σ H x y v u Q I rx ry h;obtain ⟨d,e,b,hx,hy,hb,hd,hs,q⟩:=h;exact qfd I (n:=40) hx hy hb (by omega) (by omega) rx ry hs X.prog X.w X.xe _ ⟨.bl (!b),H,I,rfl,q⟩
end
def zK (neg:Bool):R3:=λx y G q=>match ZK x y with
 |some k=>q (.bl (if neg then !k else k)) G
 |none=>∃ d e b,Dp G x d/\Dp G y e/\zN d e=some b/\dpt d<=40/\dpt d≠0/\q (.bl (if neg then !b else b)) G
def qD {K:Frg}:UH K (zK false) (λx y H Q=>rEq x y H Q\/qgS K false x y H Q):=λx y v u G H q Q hr rx ry h af=>by
 unfold zK at h;split at h
 ·rename_i k e;obtain ⟨h1,h2⟩:=TQ rx ry e;refine .inl ⟨h1,?_⟩;rw [h2];exact af _ G h _ H (.bl _) hr Kp.refl
 ·obtain ⟨d,e,b,h1,h2,h3,h4,h5,h6⟩:=h;exact .inr ⟨d,e,b,h1.dv hr rx,h2.dv hr ry,h3,h4,h5,af _ G h6 _ H (.bl _) hr Kp.refl⟩
def jR {K:Frg}:UH K (zK true) (λx y H Q=>rNe x y H Q\/qgS K true x y H Q):=λx y v u G H q Q hr rx ry h af=>by
 unfold zK at h;split at h
 ·rename_i k e;obtain ⟨h1,h2⟩:=TQ rx ry e;refine .inl ⟨h1,?_⟩;rw [h2];exact af _ G h _ H (.bl _) hr Kp.refl
 ·obtain ⟨d,e,b,h1,h2,h3,h4,h5,h6⟩:=h;exact .inr ⟨d,e,b,h1.dv hr rx,h2.dv hr ry,h3,h4,h5,af _ G h6 _ H (.bl _) hr Kp.refl⟩
def qU {X:Cx} (hu:X.A.units+64<cLine):OpR X (compareOp .Eq) (λx y H Q=>rEq x y H Q\/qgS X.K false x y H Q):=qnu.or (qkQ hu)
def Z1 {X:Cx} (hu:X.A.units+64<cLine):OpR X (compareOp .NotEq) (λx y H Q=>rNe x y H Q\/qgS X.K true x y H Q):=qmj.or (qhn hu)
end L3
namespace L3
open PySem PySem.Spec PyProof.Rows L2
section
variable {X:Cx} {pins:List (Addr×Obj)} {σ:L2.St} {H:Hp} {s:Shared}
mutual
def DV.reads (I:Inv X pins σ H s):∀ {v:V} {d:PyData} {x:Value},DV X.K H v d->jt v x->∃ as,Reads s.heap x d as
 |_,_,x,.non,r=>by cases (show x=Value.none from r);exact ⟨_,.none⟩
 |_,_,x,.bl b,r=>by cases (show x=Value.bool b from r);exact ⟨_,.bool b⟩
 |_,_,x,.int i,r=>by obtain ⟨t,rfl⟩:=(show ∃ t,x=Value.int i t from r);exact ⟨_,.int i t⟩
 |_,_,x,.str y,r=>by obtain ⟨t,rfl⟩:=(show ∃ t,x=Value.str y t from r);exact ⟨_,.str y t⟩
 |_,_,x,.tup (a:=a) h hs,r=>by
  cases (show x=Value.ref a from r);obtain ⟨its,rv,⟨o,h1,h2,n,h3⟩,_⟩:=I.tuple h;obtain ⟨as,ra⟩:=DVs.reads I hs rv;exact ⟨as,.tuple h1 h2 h3 (by simpa using ra)⟩
 |_,_,x,.lst (a:=a) h hs,r=>by
  cases (show x=Value.ref a from r);obtain ⟨its,rv,p,_⟩:=I.list h;obtain ⟨o,h1,h2,n,h3⟩:=p.isList;obtain ⟨as,ra⟩:=DVs.reads I hs rv;exact ⟨a::as,.list h1 h2 h3 (by simpa using ra)⟩
def DVs.reads (I:Inv X pins σ H s):∀ {v:List V} {d:List PyData} {x:List Value},DVs X.K H v d->zx v x->∃ as,ReadsAll s.heap x d as
 |_,_,_,.nil,.nil=>⟨_,.nil⟩
 |_,_,_,.cons a b,.cons c d=>by
  obtain ⟨as,r1⟩:=DV.reads I a c;obtain ⟨bs,r2⟩:=DVs.reads I b d;exact ⟨_,.cons r1 r2⟩
end
structure ShOk (d:PyData):Prop where
 sh:d.showable=true
 nd:d.hasDict=false
 dp:d.depth<=40
 lv:d.leavesShort 13=true
 bk:d.bulk<=2 ^ 20
end
section
variable {X:Cx}
end
section
variable {prog:Program} {w:World} {A:Around} {R:Result->Shared->Prop} {s:Shared}
def J5 (elt t1 i1 t2 i2:Expr) (f1 f2:List Expr) (scope:Scope) (pos:Pos) (it acc:Value) (env:Env) :
  compTurn (.ListComp elt [⟨t1,i1,f1,0⟩,⟨t2,i2,f2,0⟩] scope pos) 0 it acc env=(do
   standAt i1.pos
   match←pyNext it with
   |none=>pure (.done .next)
   |some v=>
    letOwnedTupleGo t1 it v
    assign t1 env v
    let mut ok:=true
    for c in f1 do
     if ok then ok←isTrue c env (eval c env)
    if ok then
     let x←eval i2 env
     standAt i2.pos
     let x←foldedSetIterable i2 env x
     let _←runOwn (.compStart (.ListComp elt [⟨t1,i1,f1,0⟩,⟨t2,i2,f2,0⟩] scope pos) 1 (← holding [x] (pyIter x)) acc env) env
    again (.compLoop (.ListComp elt [⟨t1,i1,f1,0⟩,⟨t2,i2,f2,0⟩] scope pos) 0 it acc env)):=by rfl
def W6 (elt t1 i1 t2 i2:Expr) (f1 f2:List Expr) (scope:Scope) (pos:Pos) (it acc:Value) (env:Env) :
  compTurn (.ListComp elt [⟨t1,i1,f1,0⟩,⟨t2,i2,f2,0⟩] scope pos) 1 it acc env=(do
   standAt i2.pos
   match←pyNext it with
   |none=>pure (.done .next)
   |some v=>
    letOwnedTupleGo t2 it v
    assign t2 env v
    let mut ok:=true
    for c in f2 do
     if ok then ok←isTrue c env (eval c env)
    if ok then
     (do let _←call (.builtin "list.append") [acc,← eval elt env])
    again (.compLoop (.ListComp elt [⟨t1,i1,f1,0⟩,⟨t2,i2,f2,0⟩] scope pos) 1 it acc env)):=by rfl
def ZJ {elt t1 i1 t2 i2:Expr} {f1 f2:List Expr} {scope:Scope} {pos:Pos} {it acc:Value} {env:Env}
  (h0:codeAny (model prog w) A (.compLoop (.ListComp elt [⟨t1,i1,f1,0⟩,⟨t2,i2,f2,0⟩] scope pos) 1 it acc env) R s)
  (h:wpAny (model prog w) A (pyIter it) (λit' s'=>codeAny (model prog w) A (.compLoop (.ListComp elt [⟨t1,i1,f1,0⟩,⟨t2,i2,f2,0⟩] scope pos) 1 it' acc env) R s')
   (notedBy (model prog w) A env λx s'=>R (.error x) s') s) :
  codeAny (model prog w) A (.compStart (.ListComp elt [⟨t1,i1,f1,0⟩,⟨t2,i2,f2,0⟩] scope pos) 1 it acc env) R s:=by
 refine codeAny_of_tree ?_;show wpAny _ _ ((compStart (.ListComp elt [⟨t1,i1,f1,0⟩,⟨t2,i2,f2,0⟩] scope pos) 1 it acc env).onRaise (λx=>do noteFrame x env;standAt theWindowsPlace)) _ _ s;refine wpAny_notedAt ?_;unfold compStart;show wpAny _ _ (ask >>= _) _ _ s;refine wpAny_bind (wpAny_askSetting (wpAny_ite ?_));split
 ·first
   |exact wpAny_bind (wpAny_pure (wpAny_pure (And.intro rfl h0)))
   |exact wpAny_pure (And.intro rfl h0)
 ·first
   |exact wpAny_bind (wpAny_rule (wpAny_bind (wpAny_standAt (wpAny_bind (wpAny_mono h (λit' s' h'=>wpAny_pure (And.intro rfl h')) λ_ _ x=>x)))))
   | (refine wpAny_bind (wpAny_rule ?_);show wpAny _ _ (standAt i2.pos >>= _) _ _ s;exact wpAny_bind (wpAny_standAt (wpAny_bind (wpAny_mono h (λit' s' h'=>wpAny_pure (And.intro rfl h')) λ_ _ x=>x))))
end
def tIn (wi:TI) (g:TG) (tif:TT) (te:TE) (D:Addr) (N:L2.St->Hp->Prop) (σ:L2.St) (H:Hp):Prop:=wi σ H λJ H1=>
 ∃ W:Nat->Nat->L2.St->Hp->Prop,(∃ n,W 0 n σ H1)/\∀ i n σ H,W i n σ H ->
  (J.stop i H/\N σ H)\/(J.go i H/\∀ x H',J.yld i H x H'->g x σ H' λσ2 H2=>tif σ2 H2 λk H3=>
   if k=true then te σ2 H3 λy H4=>∃ zs,H4 D=some (.lst zs)/\zs.length<sizeLine/\∃ n',n'<n/\W (i+1) n' σ2 (upd H4 D (.lst (zs++[y])))
   else ∃ n',n'<n/\W (i+1) n' σ2 H3)
section
variable {X:Cx}
def qdQ {elt t1 i1 t2 i2:Expr} {f1 f2:List Expr} {scope:Scope} {pos:Pos} {wi:TI} {g:TG} {tif:TT} {te:TE} {D:Addr} {N:L2.St->Hp->Prop} (hc:X.calm=true) (hx:∀ v s,¬ X.xe v s) (hi:PI X t2 i2 wi) (hg:PG X t2 g) (hf:PF X f2 tif) (he:PE X elt te)
    (hs:∀ x,foldedSetIterable i2 X.env x=pure x) {pins:List (Addr×Obj)} {s:Shared} {σ:L2.St} {H:Hp} {E:Value->Shared->Prop} {α:Type} {kk:Sem α} {Q:α->Shared->Prop} (I:Inv X pins σ H s) (h:tIn wi g tif te D N σ H) (hk:∀ s' σ' H',Inv X pins σ' H' s'->N σ' H'->wpAny (model X.prog X.w) X.A kk Q E s') :
    wpAny (model X.prog X.w) X.A (do
            let x←eval i2 X.env
            standAt i2.pos
            let x←foldedSetIterable i2 X.env x
            let _←runOwn (.compStart (.ListComp elt [⟨t1,i1,f1,0⟩,⟨t2,i2,f2,0⟩] scope pos) 1 (← holding [x] (pyIter x)) (.ref D) X.env) X.env
            kk) Q E s:=by
  refine wpAny_bind (wpAny_mono (hi pins s σ H _ I h) (λv s1 h1=>?_) λ_ _ z=>(hx _ _ z).elim);refine wpAny_bind (wpAny_standAt (wpAny_bind (wpAny_of_eq (hs v) ?_)));refine wpAny_bind (wpAny_holding (wpAny_mono h1 (λitv s2 h2=>?_) λ_ _ z=>(hx _ _ z).elim));obtain ⟨it,fp,tn,J,H2,rfl,I2,T,st2,f2',W,⟨n0,w0⟩,turn⟩:=h2;have stat:∀ {H':Hp},(∀ b∈fp,H' b=none)->∀ b∈fp,C5 X pins H' b:=λhn b hb=>⟨hn b hb,(f2' b hb).2⟩
  refine wpAny_bind (wpAny_runOwn ?_);show codeAny (model X.prog X.w) X.A (.compStart (.ListComp elt [⟨t1,i1,f1,0⟩,⟨t2,i2,f2,0⟩] scope pos) 1 (.ref it) (.ref D) X.env) _ s2;have loop:codeAny (model X.prog X.w) X.A (.compLoop (.ListComp elt [⟨t1,i1,f1,0⟩,⟨t2,i2,f2,0⟩] scope pos) 1 (.ref it) (.ref D) X.env) (λr s'=>match r with
      |.ok f=>wpAny (model X.prog X.w) X.A kk Q E s'
      |.error e=>cameBackBy (model X.prog X.w) X.A X.env E e s') s2:=by
    refine codeAny_loop rfl (λn s'=>∃ i σ' H',Inv X pins σ' H' s'/\tn i s'.heap/\(∀ b∈fp,H' b=none)/\W i n σ' H') (λn s' hI=>?_) n0 ⟨0,σ,H2,I2,st2,λb hb=>(f2' b hb).1,w0⟩;show wpAny _ X.A ((compTurn (.ListComp elt [⟨t1,i1,f1,0⟩,⟨t2,i2,f2,0⟩] scope pos) 1 (.ref it) (.ref D) X.env).onRaise (λx=>do noteFrame x X.env;theTreesLotGoes x)) _ _ s';refine wpAny_noted ?_;rw [W6];refine wpAny_bind (wpAny_standAt (wpAny_bind ?_));obtain ⟨i,σ5,H5,I5,st5,fr5,w5⟩:=hI;rcases turn i n σ5 H5 w5 with ⟨stop,q⟩|⟨go,step⟩
    · refine thn (T.done X rfl rfl rfl hc i pins s' σ5 H5 _ I5 (stat fr5) st5 stop) λr s6 ⟨hr,I6⟩=>?_;subst hr;exact wpAny_pure (hk _ σ5 H5 I6 q)
    · refine thn (T.item X rfl rfl rfl hc i pins s' σ5 H5 _ I5 (stat fr5) st5 go) λr s6 ⟨u,hr,h6⟩=>?_;subst hr;refine wpAny_bind (thn h6 λ_ s7 ⟨x,H7,I7,r7,y7,st7,fr7⟩=>?_);have I7':=I7.pinned (stat fr7) (T.obj _ _ st7);have again:∀ {σ8:L2.St} {H8:Hp} {s8:Shared},Inv X (pins++VZ fp s7.heap) σ8 H8 s8->(∃ n',n'<n/\W (i+1) n' σ8 H8) ->
          ∃ m',m'<n/\∃ i σ' H',Inv X pins σ' H' s8/\tn i s8.heap/\(∀ b∈fp,H' b=none)/\W i m' σ' H':=λ{σ8 H8 s8} I8 ⟨n',hn,w8⟩=>by
        refine ⟨n',hn,i+1,σ8,H8,I8.unpinned,T.keep _ _ _ st7 λb hb o e=>(I8.pin (b,o) (mem_append_right _ (mem_append_right _ (zl hb e)))).1,λb hb=>?_,w8⟩;obtain ⟨o,e,d⟩:=T.obj _ _ st7 b hb;exact (I8.pin (b,o) (mem_append_right _ (mem_append_right _ (zl hb e)))).2.1
      refine wpAny_bind (wpAny_mono (hg _ s7 σ5 H7 x u _ I7' r7 (step x H7 y7)) (λ_ s8 ⟨σ8,H8,I8,q8⟩=>?_) λ_ _ z=>(hx _ _ z).elim);refine wpAny_bind (wpAny_mono (hf _ s8 σ8 H8 _ I8 q8) (λk s9 ⟨H9,I9,q9⟩=>?_) λ_ _ z=>(hx _ _ z).elim);cases k with
      |false=>
        rw [if_neg Bool.false_ne_true] at q9;exact wpAny_pure ⟨rfl,again I9 q9⟩
      |true=>
        rw [if_pos rfl] at q9;refine wpAny_bind (wpAny_bind (wpAny_mono (he _ s9 σ8 H9 _ I9 q9) (λw s10 ⟨y,H10,I10,r10,q10⟩=>?_) λ_ _ z=>(hx _ _ z).elim));obtain ⟨zs,hz,hl,q10⟩:=q10;refine wpAny_bind (wpAny_mono (EG (X:=X) _ s10 σ8 H10 (.ref D) [y] (.ref D) [w] (λ_ H11=>H11=upd H10 D (.lst (zs++[y]))) I10 rfl (.cons r10 .nil) ⟨D,zs,y,rfl,rfl,hz,hl,rfl⟩) (λ_ s11 ⟨_,H11,I11,_,e11⟩=>?_) λ_ _ z=>(hx _ _ z).elim);subst e11;exact wpAny_pure (wpAny_pure ⟨rfl,again I11 q10⟩)
  exact ZJ loop (T.self X.A 0 _ _ _ st2 loop)
def qnH (wi:TI) (g:TG) (tif:TT) (wi2:TI) (g2:TG) (tif2:TT) (te:TE) (m:List (Option Nat)):TE:=λσ H Q=>wi σ H λJ H1=>∀ D,H1 D=none ->
 ∃ W:Nat->Nat->L2.St->Hp->Prop,(∃ n,W 0 n (cap m σ) (upd H1 D (.lst [])))/\∀ i n σ H,W i n σ H ->
  (J.stop i H/\Q (.ref D) H)\/(J.go i H/\∀ x H',J.yld i H x H'->g x σ H' λσ2 H2=>tif σ2 H2 λk H3=>
   if k=true then tIn wi2 g2 tif2 te D (λσ4 H4=>∃ n',n'<n/\W (i+1) n' σ4 H4) σ2 H3
   else ∃ n',n'<n/\W (i+1) n' σ2 H3)
def qjv {elt tg iter t2 i2:Expr} {ifs f2:List Expr} {scope:Scope} {pos:Pos} {N':List Str} {m:List (Option Nat)} {wi:TI} {g:TG} {tif:TT} {wi2:TI} {g2:TG} {tif2:TT} {te:TE} (hc:X.calm=true) (hi:PI X tg iter wi)
  (hg:∀ s H fp,PG (qf X N' scope s H fp) tg g) (hf:∀ s H fp,PF (qf X N' scope s H fp) ifs tif) (hi2:∀ s H fp,PI (qf X N' scope s H fp) t2 i2 wi2) (hg2:∀ s H fp,PG (qf X N' scope s H fp) t2 g2) (hf2:∀ s H fp,PF (qf X N' scope s H fp) f2 tif2) (he:∀ s H fp,PE (qf X N' scope s H fp) elt te)
  (hsc:MB X.env.scope scope=true) (hcap:JV X.N N' scope m=true) (hs:∀ x,foldedSetIterable iter X.env x=pure x:=by intro _;rfl) (hs2:∀ s H fp x,foldedSetIterable i2 (qf X N' scope s H fp).env x=pure x:=by intro _ _ _ _;rfl) :
  PE X (.ListComp elt [⟨tg,iter,ifs,0⟩,⟨t2,i2,f2,0⟩] scope pos) (qnH wi g tif wi2 g2 tif2 te m):=by
 intro pins s σ H Q I h;have sc:=VO hsc;have hcl:∀ y∈scope.names,y.2=.free->∃ c,X.env.cells.lookup y.1=some c:=λy hy e=>by
  rcases (sc.free y hy e).2 with z|z
  ·exact I.ok.has y.1 (.inl z)
  ·exact I.ok.has y.1 (.inr z)
 rw [eval_ListComp];refine wpAny_comprehension_free (use:=none) (g:=⟨tg,iter,ifs,0⟩) (gs:=[⟨t2,i2,f2,0⟩]) rfl hs (QZ hcl) sc.kind sc.loc ?_;show wpAny _ _ (eval iter X.env) _ _ s;refine thn (hi pins s σ H _ I h) λv s1 h1=>thn h1 λitv s2 h2=>?_;obtain ⟨it,fp,tn,J,H2,rfl,I2,T,st2,fF2,hW⟩:=h2;refine wpAny_newObj_type ?_;have hD:H2 s2.heap.objs.size=none:=I2.fresh;obtain ⟨W,⟨n0,w0⟩,turn⟩:=hW _ hD;generalize hDe:s2.heap.objs.size=D at *;have I3:Inv X pins σ (upd H2 D (.lst [])) { s2 with heap:=s2.heap.push { cls:=.type "list",dict:=none,data:=.seq ([]:List Value).toArray } }:=by
  subst hDe;exact I2.laid (t':=s2.toks) (λb u e=>Heap.get?_push_of_some _ e) (Nat.le_refl _) ⟨Nat.zero_le _,[],0,.nil,Heap.get?_push_size _ rfl⟩
 have ob2:=T.obj 0 _ st2;have ob3:∀ b∈fp,∃ o,(s2.heap.push { cls:=.type "list",dict:=none,data:=.seq ([]:List Value).toArray }).get? b=some o:=λb hb=>let ⟨o,e,_⟩:=ob2 b hb;⟨o,Heap.get?_push_of_some _ e⟩
 have f3:∀ b∈fp,C5 X pins (upd H2 D (.lst [])) b:=λb hb=>by
  obtain ⟨o,e,_⟩:=ob2 b hb;have:b≠D:=by rw [← hDe];exact Nat.ne_of_lt (Heap.lt_size e)
  exact ⟨by rw [qv this];exact (fF2 b hb).1,(fF2 b hb).2⟩
 have k23:∀ b o,s2.heap.get? b=some o->(s2.heap.push { cls:=.type "list",dict:=none,data:=.seq ([]:List Value).toArray }).get? b=some o:=λb o e=>Heap.get?_push_of_some _ e;generalize hH3:upd H2 D (.lst [])=H3 at *;generalize hs3:({ s2 with heap:=s2.heap.push { cls:=.type "list",dict:=none,data:=.seq ([]:List Value).toArray } }:Shared)=s3 at *;have ob3:∀ b∈fp,∃ o,s3.heap.get? b=some o:=by rw [← hs3];exact ob3
 have k23:∀ b o,s2.heap.get? b=some o->s3.heap.get? b=some o:=by rw [← hs3];exact k23
 refine jA λh₁ hns hk hown=>?_;have I4:Inv (qf X N' scope s3 H3 fp) [] (cap m σ) H3 { s3 with heap:=h₁ }:=WP hc I3 sc hcap f3 ob3 hns hk hown;have tn4:tn 0 h₁:=T.keep _ _ _ st2 λb hb o e=>hk b o (k23 b o e);have fr4:∀ b∈fp,H3 b=none:=λb hb=>(f3 b hb).1;have stat:∀ {H':Hp},(∀ b∈fp,H' b=none)->∀ b∈fp,C5 (qf X N' scope s3 H3 fp) [] H' b:=λhn b hb=>by
  refine ⟨hn b hb,I4.ok.exf b hb |>.1,I4.ok.exfs b hb,.inl hb,λx c e=>(I4.ok.exf b hb).2 x c e,λp hp=>absurd (show p∈([]:List (Addr×Obj)) from hp) (by simp)⟩
 show codeAny (model X.prog X.w) X.A (.compStart (.ListComp elt [⟨tg,iter,ifs,0⟩,⟨t2,i2,f2,0⟩] scope pos) 0 (.ref it) (.ref D) (qf X N' scope s3 H3 fp).env) (compPost (model X.prog X.w) X.A X.xe none (EP X pins σ Q) (.ref D) s3.heap.objs.size) { s3 with heap:=h₁ };have loop:codeAny (model X.prog X.w) X.A (.compLoop (.ListComp elt [⟨tg,iter,ifs,0⟩,⟨t2,i2,f2,0⟩] scope pos) 0 (.ref it) (.ref D) (qf X N' scope s3 H3 fp).env) (compPost (model X.prog X.w) X.A X.xe none (EP X pins σ Q) (.ref D) s3.heap.objs.size) { s3 with heap:=h₁ }:=by
  refine codeAny_loop rfl (λn s'=>∃ i σ' H',Inv (qf X N' scope s3 H3 fp) [] σ' H' s'/\tn i s'.heap/\(∀ b∈fp,H' b=none)/\W i n σ' H') (λn s' hI=>?_) n0 ⟨0,cap m σ,H3,I4,tn4,fr4,w0⟩;show wpAny _ X.A ((compTurn (.ListComp elt [⟨tg,iter,ifs,0⟩,⟨t2,i2,f2,0⟩] scope pos) 0 (.ref it) (.ref D) (qf X N' scope s3 H3 fp).env).onRaise (λx=>do noteFrame x (qf X N' scope s3 H3 fp).env;theTreesLotGoes x)) _ _ s';refine wpAny_noted ?_;rw [J5];refine wpAny_bind (wpAny_standAt (wpAny_bind ?_));obtain ⟨i,σ5,H5,I5,st5,fr5,w5⟩:=hI;rcases turn i n σ5 H5 w5 with ⟨stop,q⟩|⟨go,step⟩
  ·refine thn (T.done (qf X N' scope s3 H3 fp) rfl rfl rfl rfl i [] s' σ5 H5 _ I5 (stat fr5) st5 stop) λr s6 ⟨hr,I6⟩=>?_;subst hr;refine wpAny_pure ?_;obtain ⟨mm,hn6,_⟩:=I6.loc;exact ⟨mm,hn6,λh' sb=>⟨.ref D,H5,VF I3 f3 I6 sb,rfl,q⟩⟩
  ·refine thn (T.item (qf X N' scope s3 H3 fp) rfl rfl rfl rfl i [] s' σ5 H5 _ I5 (stat fr5) st5 go) λr s6 ⟨u,hr,h6⟩=>?_;subst hr;refine wpAny_bind (thn h6 λ_ s7 ⟨x,H7,I7,r7,y7,st7,fr7⟩=>?_);have I7':=I7.pinned (stat fr7) (T.obj _ _ st7);have again:∀ {σ8:L2.St} {H8:Hp} {s8:Shared},Inv (qf X N' scope s3 H3 fp) ([]++VZ fp s7.heap) σ8 H8 s8->(∃ n',n'<n/\W (i+1) n' σ8 H8) ->
     ∃ m',m'<n/\∃ i σ' H',Inv (qf X N' scope s3 H3 fp) [] σ' H' s8/\tn i s8.heap/\(∀ b∈fp,H' b=none)/\W i m' σ' H':=λ{σ8 H8 s8} I8 ⟨n',hn,w8⟩=>by
    refine ⟨n',hn,i+1,σ8,H8,I8.unpinned,T.keep _ _ _ st7 λb hb o e=>(I8.pin (b,o) (mem_append_right _ (mem_append_right _ (zl hb e)))).1,λb hb=>?_,w8⟩;obtain ⟨o,e,d⟩:=T.obj _ _ st7 b hb;exact (I8.pin (b,o) (mem_append_right _ (mem_append_right _ (zl hb e)))).2.1
   refine wpAny_bind (wpAny_mono (hg s3 H3 fp _ s7 σ5 H7 x u _ I7' r7 (step x H7 y7)) (λ_ s8 ⟨σ8,H8,I8,q8⟩=>?_) λ_ _ z=>z.elim);refine wpAny_bind (wpAny_mono (hf s3 H3 fp _ s8 σ8 H8 _ I8 q8) (λk s9 ⟨H9,I9,q9⟩=>?_) λ_ _ z=>z.elim);cases k with
   |false=>
    rw [if_neg Bool.false_ne_true] at q9;exact wpAny_pure ⟨rfl,again I9 q9⟩
   |true=>
    rw [if_pos rfl] at q9;refine qdQ (X:=qf X N' scope s3 H3 fp) rfl (λ_ _ z=>z) (hi2 s3 H3 fp) (hg2 s3 H3 fp) (hf2 s3 H3 fp) (he s3 H3 fp) (hs2 s3 H3 fp) I9 q9 λs10 σ10 H10 I10 q10=>?_;exact wpAny_pure ⟨rfl,again I10 q10⟩
 exact codeAny_compStart_list loop (T.self X.A 0 _ _ _ tn4 loop)
end
def qgM (D:Addr) (stay:Gp->Prop) (g:TG3) (tif:TT3) (te:TE3) (N:St3->Gp->Prop):List T->St3->Gp->Prop
 |[],τ,G=>stay G/\N τ G
 |x::r,τ,G=>stay G/\g x τ G λτ2 G2=>tif τ2 G2 λk G3=>
  if k=true then te τ2 G3 λy G4=>(match G4 D with|some (.lst ys)=>ys.length<sizeLine/\qgM D stay g tif te N r τ2 (gu G4 D (.lst (ys++[y])))|_=>False) else qgM D stay g tif te N r τ2 G3
def KR (D:Addr) (stay:Gp->Prop) (g:TG3) (tif:TT3) (wi2:TI3) (g2:TG3) (tif2:TT3) (te:TE3) (q:Q3):List T->St3->Gp->Prop
 |[],_,G=>stay G/\q (.ref D) G
 |x::r,τ,G=>stay G/\g x τ G λτ2 G2=>tif τ2 G2 λk G3=>
  if k=true then wi2 τ2 G3 λitems2 stay2 G4=>qgM D stay2 g2 tif2 te (λτ' G'=>KR D stay g tif wi2 g2 tif2 te q r τ' G') items2 τ2 G4 else KR D stay g tif wi2 g2 tif2 te q r τ2 G3
def qdc (wi:TI3) (g:TG3) (tif:TT3) (wi2:TI3) (g2:TG3) (tif2:TT3) (te:TE3) (m:List (Option Nat)):TE3:=λτ G q=>wi τ G λitems stay G1=>∀ D,G1 D=none->KR D stay g tif wi2 g2 tif2 te q items (cap m τ) (gu G1 D (.lst []))
section
variable {K:Frg}
def qaD {wi2:TI3} {g2:TG3} {tif2:TT3} {te:TE3} {D:Addr} {N3:St3->Gp->Prop} {N:L2.St->Hp->Prop} {τ:St3} {G:Gp} {σ:L2.St} {H:Hp} {Gb:Gp} {Hb:Hp} (rl:Rel K τ G σ H) (kb:Kp Gb Hb G H) (h:wi2 τ G λitems stay G1=>qgM D stay g2 tif2 te N3 items τ G1)
  (hN:∀ τ' G' σ' H',Rel K τ' G' σ' H'->Kp Gb Hb G' H'->N3 τ' G'->N σ' H'):tIn (lI K wi2) (lG K g2) (lT K tif2) (lE K te) D N σ H:=by
 refine ⟨τ,G,_,rl,h,λitems stay G1 h1 J H1 hr1 k1 ok=>?_⟩;refine ⟨λi n σ' H'=>n=items.length-i/\i<=items.length/\∃ τ' G',Rel K τ' G' σ' H'/\Kp G1 H1 G' H'/\qgM D stay g2 tif2 te N3 (items.drop i) τ' G',⟨_,rfl,Nat.zero_le _,τ,G1,rl.next hr1 k1,Kp.refl,by simpa using h1⟩,?_⟩;rintro i n σ' H' ⟨rfl,hi,τ',G',rl',k',h'⟩;by_cases hlt:i<items.length
 ·rw [List.drop_eq_getElem_cons hlt] at h';obtain ⟨hst,h'⟩:=h';obtain ⟨go,yld,_⟩:=ok G' H' rl'.hp k' hst;have hx:items[i]?=some items[i]:=getElem?_eq_getElem hlt;refine .inr ⟨go i _ hx,λv H2 y=>?_⟩;obtain ⟨rv,hr2,k2⟩:=yld i _ v H2 hx y;refine ⟨_,τ',G',_,rv,rl'.next hr2 k2,h',λτ3 G3 h3 σ3 H3 rl3 k3=>⟨τ3,G3,_,rl3,h3,λk G4 h4 H4 hr4 k4=>?_⟩⟩;have kk:=(k2.trans k3).trans k4;cases k with
  |false=>
   rw [if_neg Bool.false_ne_true] at h4;refine qlE ?_;exact ⟨_,by omega,rfl,hlt,τ3,G4,rl3.next hr4 k4,k'.trans kk,h4⟩
  |true=>
   rw [if_pos rfl] at h4;refine qlR ?_;refine ⟨τ3,G4,_,rl3.next hr4 k4,h4,λz G5 h5 w H5 rw5 hr5 k5=>?_⟩;split at h5
   ·rename_i ys e1;obtain ⟨vs,g1,r1⟩:=hr5.lst e1;exact ⟨vs,g1,by rw [← r1.length];exact h5.1,_,by omega,rfl,hlt,τ3,_,((rl3.next hr4 k4).next hr5 k5).next (hr5.wr e1 (r1.append (.cons rw5 .nil))) (Kp.wr e1),((k'.trans kk).trans k5).trans (Kp.wr e1),h5.2⟩
   ·exact h5.elim
 ·have e:i=items.length:=by omega
  subst e;rw [List.drop_length] at h';obtain ⟨_,_,stop⟩:=ok G' H' rl'.hp k' h'.1;exact .inl ⟨stop,hN _ _ _ _ rl' ((kb.trans k1).trans k') h'.2⟩
end
section
variable {X:Cx}
def qny {elt tg iter t2 i2:Expr} {ifs f2:List Expr} {scope:Scope} {pos:Pos} (N':List Str) (m:List (Option Nat)) {wi:TI3} {g:TG3} {tif:TT3} {wi2:TI3} {g2:TG3} {tif2:TT3} {te:TE3} (hc:X.calm=true) (hi:I3 X tg iter wi)
  (hg:∀ s H fp,G3 (qf X N' scope s H fp) tg g) (hf:∀ s H fp,F3 (qf X N' scope s H fp) ifs tif) (hi2:∀ s H fp,I3 (qf X N' scope s H fp) t2 i2 wi2) (hg2:∀ s H fp,G3 (qf X N' scope s H fp) t2 g2) (hf2:∀ s H fp,F3 (qf X N' scope s H fp) f2 tif2) (he:∀ s H fp,E3 (qf X N' scope s H fp) elt te)
  (hsc:MB X.env.scope scope=true) (hcap:JV X.N N' scope m=true) (hs:∀ x,foldedSetIterable iter X.env x=pure x:=by intro _;rfl) (hs2:∀ s H fp x,foldedSetIterable i2 (qf X N' scope s H fp).env x=pure x:=by intro _ _ _ _;rfl) :
  E3 X (.ListComp elt [⟨tg,iter,ifs,0⟩,⟨t2,i2,f2,0⟩] scope pos) (qdc wi g tif wi2 g2 tif2 te m):=
 VM (qjv (g:=lG X.K g) (tif:=lT X.K tif) (wi2:=lI X.K wi2) (g2:=lG X.K g2) (tif2:=lT X.K tif2) (te:=lE X.K te) hc hi hg hf hi2 hg2 hf2 he hsc hcap hs hs2) λσ H Q ⟨τ,G,q,rl,h,af⟩=>by
  refine ⟨τ,G,_,rl,h,λitems stay G1 h1 J H1 hr1 k1 ok D hD=>?_⟩;have gD:G1 D=none:=hr1.free hD;have h1:=h1 D gD;have hr1':HR X.K (gu G1 D (.lst [])) (upd H1 D (.lst [])):=HR.newL hr1 hD .nil;have k1':Kp G1 H1 (gu G1 D (.lst [])) (upd H1 D (.lst [])):=Kp.newL hD;refine ⟨λi n σ' H'=>n=items.length-i/\i<=items.length/\∃ τ' G',Rel X.K τ' G' σ' H'/\Kp G1 H1 G' H'/\KR D stay g tif wi2 g2 tif2 te q (items.drop i) τ' G',
   ⟨_,rfl,Nat.zero_le _,cap m τ,_,((rl.next hr1 k1).cap m).next hr1' k1',k1',by simpa using h1⟩,?_⟩
  rintro i n σ' H' ⟨rfl,hi,τ',G',rl',k',h'⟩;by_cases hlt:i<items.length
  ·rw [List.drop_eq_getElem_cons hlt] at h';obtain ⟨hst,h'⟩:=h';obtain ⟨go,yld,_⟩:=ok G' H' rl'.hp k' hst;have hx:items[i]?=some items[i]:=getElem?_eq_getElem hlt;refine .inr ⟨go i _ hx,λv H2 y=>?_⟩;obtain ⟨rv,hr2,k2⟩:=yld i _ v H2 hx y;refine ⟨_,τ',G',_,rv,rl'.next hr2 k2,h',λτ3 G3 h3 σ3 H3 rl3 k3=>⟨τ3,G3,_,rl3,h3,λk G4 h4 H4 hr4 k4=>?_⟩⟩;have kk:=(k2.trans k3).trans k4;cases k with
   |false=>
    rw [if_neg Bool.false_ne_true] at h4;refine qlE ?_;exact ⟨_,by omega,rfl,hlt,τ3,G4,rl3.next hr4 k4,k'.trans kk,h4⟩
   |true=>
    rw [if_pos rfl] at h4;refine qlR ?_;exact qaD (rl3.next hr4 k4) (k'.trans kk) h4 λτ5 G5 σ5 H5 rl5 k5 h5=>⟨_,by omega,rfl,hlt,τ5,G5,rl5,k5,h5⟩
  ·have e:i=items.length:=by omega
   subst e;rw [List.drop_length] at h';obtain ⟨_,_,stop⟩:=ok G' H' rl'.hp k' h'.1;exact .inl ⟨stop,af _ _ h'.2 _ H' (.ref D) rl'.hp (k1.trans k')⟩
def qls {elt tg iter t2 i2:Expr} {ifs f2:List Expr} {scope:Scope} {pos:Pos} (N':List Str) (m:List (Option Nat)) {wi:TI3} {g:TG3} {tif:TT3} {wi2:TI3} {g2:TG3} {tif2:TT3} {te:TE3} (hc:X.calm=true) (hi:jI3 X tg iter wi)
  (hg:∀ s H fp,jG3 (qf X N' scope s H fp) tg g) (hf:∀ s H fp,jF3 (qf X N' scope s H fp) ifs tif) (hi2:∀ s H fp,jI3 (qf X N' scope s H fp) t2 i2 wi2) (hg2:∀ s H fp,jG3 (qf X N' scope s H fp) t2 g2) (hf2:∀ s H fp,jF3 (qf X N' scope s H fp) f2 tif2) (he:∀ s H fp,jE3 (qf X N' scope s H fp) elt te)
  (hsc:MB X.env.scope scope=true) (hcap:JV X.N N' scope m=true) (hs:∀ x,foldedSetIterable iter X.env x=pure x:=by intro _;rfl) (hs2:∀ s H fp x,foldedSetIterable i2 (qf X N' scope s H fp).env x=pure x:=by intro _ _ _ _;rfl) :
  jE3 X (.ListComp elt [⟨tg,iter,ifs,0⟩,⟨t2,i2,f2,0⟩] scope pos) (qdc wi g tif wi2 g2 tif2 te m):=
 ⟨qny N' m hc hi.h (λs H fp=>(hg s H fp).h) (λs H fp=>(hf s H fp).h) (λs H fp=>(hi2 s H fp).h) (λs H fp=>(hg2 s H fp).h) (λs H fp=>(hf2 s H fp).h) (λs H fp=>(he s H fp).h) hsc hcap hs hs2⟩
end
section
variable {X:Cx}
end
section
variable {X:Cx} {tg a b c:Expr} {pos:Pos}
end
section
variable {X:Cx}
end
section
variable {X:Cx} {a b:Expr} {ta tb:TE3} {pos:Pos}
def qgr:OpR X (compareOp .IsNot) (λx y H Q=>∃ i j,x=.bl i/\y=.bl j/\Q (.bl (i != j)) H):=by
 intro pins s σ H x y v u Q I rx ry h;obtain ⟨i,j,rfl,rfl,q⟩:=h;cases rx;cases ry;exact isnot_bool (qM I q rfl)
def qlU (neg:Bool):R3:=λx y G q=>match x,y with|.bl i,.bl j=>q (.bl (if neg then i != j else i==j)) G|_,_=>False
def qb6 {K:Frg}:UH K (qlU true) (λx y H Q=>∃ i j,x=.bl i/\y=.bl j/\Q (.bl (i != j)) H):=λx y v u G H q Q hr rx ry h af=>by
 cases x<;>try exact h.elim
 cases y<;>try exact h.elim
 cases rx;cases ry;exact ⟨_,_,rfl,rfl,af _ G h _ H (.bl _) hr Kp.refl⟩
structure ShW (d:PyData):Prop where
 sh:d.showable=true
 nd:d.hasDict=false
 dp:d.depth<=40
 fit:d.shown.length<=sizeLine
def ShOk.w {d:PyData} (h:ShOk d):ShW d:=⟨h.sh,h.nd,h.dp,PyData.shown_fits_bulk (by decide) (by decide) h.lv h.bk⟩
def qbq (hg:X.A.guards=some []) (hu:X.A.units+64<cLine):ZI X (.type "str") (λxs H Q=>∃ a d,xs=[.ref a]/\DV X.K H (.ref a) d/\ShW d/\Q (.str d.shown) H):=by
 intro pins s σ H xs us Q I r h;obtain ⟨a,d,rfl,dv,ok,q⟩:=h;obtain ⟨u,rfl,rp⟩:=EM r;cases (show u=Value.ref a from rp);obtain ⟨as,rd⟩:=dv.reads I (show jt (.ref a) (.ref a) from rfl);refine str_of_reads rd ok.sh (PyData.noDict_hsm ok.nd) hg (by have:=ok.dp;omega) (λ_ _ e=>e) (λh' u tk hk=>?_) ok.fit;exact ⟨.str _,H,I.kept (h':=h') (t':=tk) hk,⟨_,rfl⟩,q⟩
def shV (st:Bool):V->Hp->(Str->Prop)->Prop:=λv H q=>match v with
 |.non=>q (Str.ofString "None")
 |.bl b=>q (if b=true then Str.ofString "True" else Str.ofString "False")
 |.int i=>i.natAbs.log2<1920/\q (Str.ofString (toString i))
 |.str x=>if st then q x else (reprText x).length<=sizeLine/\q (reprText x)
 |.ref a=>∃ d,DV X.K H (.ref a) d/\ShW d/\q d.shown
 |_=>False
def zJ (hg:X.A.guards=some []) (hu:X.A.units+64<cLine):ZI X (.type "str") (λxs H Q=>∃ v,xs=[v]/\shV (X:=X) true v H λx=>Q (.str x) H):=by
 intro pins s σ H xs us Q I r h;obtain ⟨v,rfl,h⟩:=h;obtain ⟨u,rfl,rp⟩:=EM r;cases v with
 |non=>cases (show u=Value.none from rp);exact P.str_of_none ⟨.str _,H,I.tok _,⟨_,rfl⟩,h⟩
 |bl b=>cases (show u=Value.bool b from rp);exact P.str_of_bool ⟨.str _,H,I.tok _,⟨_,rfl⟩,h⟩
 |int i=>obtain ⟨t,rfl⟩:=(show ∃ t,u=Value.int i t from rp);exact P.str_of_int h.1 ⟨.str _,H,I.tok _,⟨_,rfl⟩,h.2⟩
 |str x=>obtain ⟨t,rfl⟩:=(show ∃ t,u=Value.str x t from rp);exact P.str_of_str ⟨.str _,H,I,⟨_,rfl⟩,h⟩
 |ref a=>
  obtain ⟨d,dv,ok,q⟩:=h;exact qbq hg hu _ _ _ _ _ _ _ I r ⟨a,d,rfl,dv,ok,q⟩
 |_=>exact h.elim
def shT (st:Bool):T->Gp->(Str->Prop)->Prop:=λx G q=>match x with
 |.non=>q (Str.ofString "None")
 |.bl b=>q (if b=true then Str.ofString "True" else Str.ofString "False")
 |.int i=>i.natAbs.log2<1920/\q (Str.ofString (toString i))
 |.str x=>if st then q x else (reprText x).length<=sizeLine/\q (reprText x)
 |.tup _=>∃ d,Dp G x d/\ShW d/\q d.shown
 |.ref _=>∃ d,Dp G x d/\ShW d/\q d.shown
def UB (st:Bool):List T->Gp->Q3->Prop:=λxs G q=>match xs with
 |[x]=>shT st x G λy=>q (.str y) G
 |_=>False
def Q5 {st:Bool}:TU X.K (UB st) (λxs H Q=>∃ v,xs=[v]/\shV (X:=X) st v H λx=>Q (.str x) H):=λxs vs G H q Q hr rs h af=>by
 unfold UB at h;split at h
 ·rename_i x;obtain ⟨v,rfl,r⟩:=XV rs;refine ⟨v,rfl,?_⟩;cases r with
  |non=>exact af _ G h _ H (.str _) hr Kp.refl
  |bl b=>exact af _ G h _ H (.str _) hr Kp.refl
  |int i=>exact ⟨h.1,af _ G h.2 _ H (.str _) hr Kp.refl⟩
  |str x=>
   cases st with
   |true=>exact af _ G h _ H (.str _) hr Kp.refl
   |false=>exact ⟨h.1,af _ G h.2 _ H (.str _) hr Kp.refl⟩
  |tup hs r2=>
   obtain ⟨d,h1,h2,h3⟩:=h;exact ⟨d,h1.dv hr (.tup hs r2),h2,af _ G h3 _ H (.str _) hr Kp.refl⟩
  |ref a=>
   obtain ⟨d,h1,h2,h3⟩:=h;exact ⟨d,h1.dv hr (.ref a),h2,af _ G h3 _ H (.str _) hr Kp.refl⟩
 ·exact h.elim
def qbW:OpR X (binaryOp .Add) (λx y H Q=>∃ a b ys,x=.ref a/\y=.ref b/\SqT X.K H a []/\SqT X.K H b ys/\Q (.ref b) H):=by
 intro pins s σ H x y v u Q I rx ry h;obtain ⟨a,b,ys,rfl,rfl,ha,hb,q⟩:=h;cases rx;cases ry;obtain ⟨its,r1,p1,_⟩:=I.tuple ha;obtain ⟨its2,r2,p2,_⟩:=I.tuple hb;cases r1;obtain ⟨⟨cls,dd,data,sl⟩,ho,hc,n,hd⟩:=id p1;obtain ⟨⟨cls2,dd2,data2,sl2⟩,ho2,hc2,n2,hd2⟩:=id p2;simp only at hc hd hc2 hd2;subst hc hd hc2 hd2;exact concat_meets ⟨_,ho,rfl⟩ ⟨_,ho2,rfl⟩ noFill_tuple_add seq_tuple_add PySem.F.slot_tuple_add PySem.F.entry_tuple_add (PySem.F.args_tuple_add_2 _ _)
   (tuple_addW0 a b #[] its2.toArray n n2 dd dd2 sl sl2 rfl) ⟨ho,ho2,⟨.ref b,H,I,rfl,q⟩⟩
def CA:R3:=λx y G q=>match x,y with
 |.tup xs,.tup ys=>xs.length+ys.length<=sizeLine/\q (.tup (xs++ys)) G
 |.ref a,.ref b=>(match G a,G b with|some (.lst xs),some (.lst ys)=>xs.length+ys.length<=sizeLine/\∀ p,G p=none->q (.ref p) (gu G p (.lst (xs++ys)))|_,_=>False)
 |.int i,.int j=>q (.int (i+j)) G
 |_,_=>False
def qcp:UH X.K CA (λx y H Q=>((rI0 (λi j=>.int (i+j)) x y H Q\/qf8 X.K x y H Q)\/qmV x y H Q)\/∃ a b ys,x=.ref a/\y=.ref b/\SqT X.K H a []/\SqT X.K H b ys/\Q (.ref b) H):=λx y v u G H q Q hr rx ry h af=>by
 cases x with
 |tup xs=>
  cases y with
  |tup ys=>
   cases xs with
   |nil=>
    cases rx with
    |tup hs rs=>
     cases rs;cases ry with
     |tup hs' rs'=>exact .inr ⟨_,_,_,rfl,rfl,hs,hs',af _ G h.2 _ H (.tup hs' rs') hr Kp.refl⟩
   |cons x xs=>exact .inl (WR _ _ v u G H q Q hr rx ry ⟨by simp,h⟩ af)
  |_=>exact h.elim
 |ref a=>
  cases y with
  |ref b=>exact .inl (WR (.ref a) (.ref b) v u G H q Q hr rx ry h af)
  |_=>exact h.elim
 |int i=>
  cases y with
  |int j=>exact .inl (WR (.int i) (.int j) v u G H q Q hr rx ry h af)
  |_=>exact h.elim
 |_=>exact h.elim
def UF (ha:jE3 X a ta) (hb:jE3 X b tb):jE3 X (.BinOp a .Add b pos) (o3 CA ta tb):=⟨qfu (((qeK.or M6).or qdv).or qbW) qcp ha.h hb.h⟩
def YX {prog:Program} {w:World} {A:Around} {E:Value->Shared->Prop} {s:Shared} {t sl:Addr} {items:Array Value} {vl vu:Value} {lo hi:Option Int} {Q:Value->Shared->Prop} (ht:IsTup s.heap t items) (hs:s.heap.IsSliceOf sl vl vu .none) (pl:IsPart vl lo) (pu:IsPart vu hi)
  (hw:HT.sIx items.size 0 lo=0/\HT.sIx items.size items.size hi=items.size) (h:Q (.ref t) s):wpAny (model prog w) A (getItem (.ref t) (.ref sl)) Q E s:=by
 obtain ⟨os,hos,hcs,hds⟩:=id hs;have hTs:s.TypeIs (.ref sl) "slice" := ⟨os,hos,hcs⟩
 unfold getItem
 try with_reducible refine wpAny_holding ?_
 first|refine wpAny_bind (wpAny_pure ?_)|skip
 refine wpAny_bind (wpAny_sequenceKey ht.typeIs (by decide) ?_);refine wpAny_bind (wpAny_callSpecial?_slot (name:=Str.ofString "__getitem__") ht.typeIs PyProof.Rows.slot_tuple_getitem
  (wpAny_call_entry PyProof.Rows.slot_tuple_getitem ht.typeIs entry_tuple_getitem ?_ (args_tuple_getitem _ _)))
 show wpAny _ _ (Builtin.Tuple.tupleItemsOf (.ref t) >>= _) _ _ s;refine wpAny_bind (tupleItemsOf_ ht ?_);refine wpAny_bind (wpAny_typeOf hTs ?_);rw [if_pos (by decide)];refine wpAny_bind (HT.ZH hs pl pu ?_);have hyes:(((HT.sIx items.size 0 lo:Nat):Int)==0&&(1:Int)==1&&(HT.sIx items.size items.size hi-HT.sIx items.size 0 lo)==items.size)=true:=by
  rw [hw.1,hw.2];simp
 show wpAny _ _ (if (((HT.sIx items.size 0 lo:Nat):Int)==0&&(1:Int)==1&&(HT.sIx items.size items.size hi-HT.sIx items.size 0 lo)==items.size)=true then _ else _) _ _ s;rw [if_pos hyes];unfold Builtin.Tuple.tupleIsExact;refine wpAny_bind (wpAny_bind (wpAny_typeOf ht.typeIs (wpAny_pure ?_)));rw [if_pos (by decide)];refine wpAny_bind (wpAny_rule ?_);exact wpAny_pure ⟨_,rfl,wpAny_pure h⟩
def qo6 (K:Frg):V->Option Int->Option Int->Hp->VK->Prop:=λx lo hi H Q=>∃ a xs,x=.ref a/\SqT K H a xs/\(HT.sIx xs.length 0 lo=0/\HT.sIx xs.length xs.length hi=xs.length)/\Q (.ref a) H
def qcS:SlR X (qo6 X.K):=by
 intro pins s σ H x v vl vu lo hi sl Q I rx hs pl pu h;obtain ⟨a,xs,rfl,hx,hw,q⟩:=h;cases rx;obtain ⟨its,r,ht,hz⟩:=I.tuple hx;have hlen:its.toArray.size=xs.length:=by rw [size_toArray];exact r.length.symm
 refine ⟨"tuple",_,PyProof.Rows.slot_tuple_getitem.lookup,ht.typeIs,?_⟩;exact YX ht hs pl pu (by rw [hlen];exact hw) ⟨.ref a,H,I,rfl,q⟩
def qnd:T->Option Int->Option Int->Gp->Q3->Prop:=λx lo hi G q=>match x with
 |.tup xs=>q (.tup (XN xs lo hi)) G
 |.ref p=>(match getL G p with|some xs=>∀ a,G a=none->q (.ref a) (gu G a (.lst (XN xs lo hi)))|none=>False)
 |_=>False
def qcP (te:TE3) (tl th:TO3):TE3:=λτ G q=>te τ G λx G1=>tl τ G1 λl G2=>th τ G2 λu G3=>qnd x l u G3 q
def CN {e:Expr} {te:TE3} {lo hi:Option Expr} {tl th:TO3} {p2:Pos} (he:jE3 X e te) (hl:jP3 X lo tl) (hu:jP3 X hi th):jE3 X (.Subscript e (.Slice lo hi none p2) pos) (qcP te tl th):=
 ⟨VM (W2 ((qdw.or ND).or qcS) he.h hl.h hu.h) λ_ _ _ ⟨τ,G,q,rl,h,af⟩=>qQ rl h λx G1 h1 v H1 rx hr1 k1 rl1=>
  ⟨τ,G1,_,rl1,h1,λl G2 h2 H2 hr2 k2=>⟨τ,G2,_,rl1.next hr2 k2,h2,λu G3 h3 H3 hr3 k3=>by
   have kk:=(k1.trans k2).trans k3;have rx3:=(rx.keep hr1 k2).keep hr2 k3;cases x<;>try exact h3.elim
   case tup xs=>
    cases rx3 with
    |tup hs rs=>
     by_cases hw:HT.sIx xs.length 0 l=0/\HT.sIx xs.length xs.length u=xs.length
     ·refine .inr ⟨_,_,rfl,hs,by rw [← rs.length];exact hw,?_⟩;have e:XN xs l u=xs:=by unfold XN;rw [hw.1,hw.2];simp
      have h4:q (.tup (XN xs l u)) G3:=h3;rw [e] at h4;exact af _ G3 h4 _ _ (.tup hs rs) hr3 kk
     ·refine .inl (.inl ⟨_,_,rfl,hs,by rw [← rs.length];exact hw,λp hp=>?_⟩);exact af _ G3 h3 _ _ (.tup (SqT.of qT) ((rs.cut _ _).keep hr3 (Kp.laid hp))) (hr3.laid hp) (kk.trans (Kp.laid hp))
   case ref p=>
    unfold qnd at h3;simp only at h3;split at h3
    ·rename_i xs e0;cases rx3;obtain ⟨vs,hs,rs⟩:=zz hr3 e0;refine .inl (.inr ⟨p,vs,rfl,hs,λa ha=>?_⟩);exact af _ _ (h3 a (hr3.free ha)) _ _ (.ref a) (hr3.newL ha (rs.cut _ _)) (kk.trans (Kp.newL ha))
    ·exact h3.elim⟩⟩⟩
end
end L3
namespace HT
open PySem PySem.Spec PyProof.Rows
section
variable {prog:Program} {w:World} {A:Around} {E:Value->Shared->Prop} {s:Shared}
end
end HT
namespace L3
open PySem PySem.Spec PyProof.Rows L2
section
variable {X:Cx} {e ek:Expr} {p2 pos:Pos}
end
section
variable {X:Cx} {a b:Expr} {ta tb:TE3} {pos:Pos}
end
abbrev Rd (sp:Sp3) (n:Nat) (t:TS3) (N:List Str):Prop:=∀ ts G q,sp ts G q->ts.length=n/\t { nx:=λ_ G'=>q .non G',rt:=q } (qx N ts) G
def jgn {pos:Pos} {X:Cx} {x:Str} (i:Nat) (hN:decide X.N.Nodup=true:=by kernel_rfl) (hi:X.N[i]?=some x:=by rfl) (hx:Loc X.env.scope x:=by first|exact Or.inl rfl|exact Or.inr rfl) (hf:X.fn x=true\/X.env.scope.names.lookup x=some .local:=by first|exact .inl rfl|exact .inr rfl):jG3 X (.Name x pos) (gn3 i):=
 jz (of_decide_eq_true hN) hi hx hf
end L3
namespace L2
open PySem PySem.Spec PyProof.Rows
section
variable {X:Cx} {pos:Pos}
end
end L2
namespace L3
open PySem PySem.Spec PyProof.Rows L2
section
variable {X:Cx} {pos:Pos}
end
end L3
namespace HT
open PySem PyProof.Rows
section
variable {prog:Program} {w:World} {A:Around} {E:Value->Shared->Prop} {s:Shared}
abbrev oS (led:Bool):Obj:={ cls:=.type "set",dict:=none,data:=.set #[] 0 (.fresh 0 0 led) }
end
end HT
namespace L3
open PySem PySem.Spec PyProof.Rows L2
section
variable {X:Cx}
end
def F0 (f0:Value):Prop:=f0=.none\/∃ n:Nat,f0=rawInt n
section
variable {P:Program} {w:World} {A:Around} {s:Shared} {z ti to i1 i2 c1 c2:Addr} {S1 S2:Nat->Heap->Prop} {H1 H2:Array Value->Heap->Prop} {k1 k2:Nat} {xs ys:Array Value} {x y a b f0 f1:Value} {E:Value->Shared->Prop}
end
section
variable {P:Program} {w:World} {A:Around} {s:Shared} {E:Value->Shared->Prop}
end
section
variable {X:Cx} {a b e l:Expr} {es:List Expr} {pos:Pos} {t:TA3}
end
end L3
namespace Tb8
open PySem PySem.SetTable
def Up (xs:Array Nat):Prop:=∀ a b,a<b->b<xs.size->xs.getD a 0<xs.getD b 0
def gD {xs:Array Nat} {i d e:Nat} (h:i<xs.size):xs.getD i d=xs.getD i e:=by simp [Array.getD,h]
def Up.le {xs:Array Nat} (u:Up xs) {a b:Nat} (h:a<=b) (hb:b<xs.size):xs.getD a 0<=xs.getD b 0:=by
 rcases Nat.lt_or_ge a b with z|z
 ·exact Nat.le_of_lt (u a b z hb)
 ·rw [show a=b by omega];exact Nat.le_refl _
structure Bel (xs:Array Nat) (j r:Nat):Prop where
 le:r<=xs.size
 lo:∀ i,i<r->xs.getD i 0<j
 hi:∀ i,r<=i->i<xs.size->j<=xs.getD i 0
def XQ {xs:Array Nat} {j:Nat} (u:Up xs):∀ (fuel lo hi:Nat),lo<=hi->hi<=xs.size->hi-lo<=fuel->(∀ i,i<lo->xs.getD i 0<j)->(∀ i,hi<=i->i<xs.size->j<=xs.getD i 0)->Bel xs j (below.go xs j fuel lo hi)
 |0,lo,hi,h1,h2,h3,h4,h5=>by
  obtain rfl:lo=hi:=by omega
  exact ⟨h2,h4,h5⟩
 |fuel+1,lo,hi,h1,h2,h3,h4,h5=>by
  unfold below.go;by_cases c:lo<hi
  ·have hm:(lo+hi)/2<xs.size:=by omega
   rw [if_pos c];simp only;rw [gD (e:=0) hm];by_cases c2:xs.getD ((lo+hi)/2) 0<j
   ·rw [if_pos c2];exact XQ u fuel _ _ (by omega) h2 (by omega) (λi hi'=>Nat.lt_of_le_of_lt (u.le (show i<=(lo+hi)/2 by omega) hm) c2) h5
   ·rw [if_neg c2];exact XQ u fuel _ _ (by omega) (by omega) (by omega) h4 λi hi' hs=>Nat.le_trans (Nat.le_of_not_lt c2) (u.le hi' hs)
  ·rw [if_neg c];obtain rfl:lo=hi:=by omega
   exact ⟨h2,h4,h5⟩
def T2 {xs:Array Nat} {j:Nat} (u:Up xs):Bel xs j (below xs j):=XQ u _ _ _ (Nat.zero_le _) (Nat.le_refl _) (Nat.le_refl _) (λi h=>absurd h (Nat.not_lt_zero i)) λi h hs=>absurd hs (by omega)
def qcu {xs:Array Nat} {i j:Nat} (h:xs[i]?=some j):i<xs.size/\xs.getD i 0=j:=by
 obtain ⟨h1,h2⟩:=Array.getElem?_eq_some_iff.mp h;exact ⟨h1,by simp [Array.getD,h1,h2]⟩
def W0 {xs:Array Nat} {i:Nat} (h:i<xs.size):xs[i]?=some (xs.getD i 0):=by simp [Array.getD,h]
def qch {xs:Array Nat} {i j:Nat} (u:Up xs) (h:xs[i]?=some j):below xs j=i:=by
 obtain ⟨h1,h2⟩:=qcu h;have B:=T2 (j:=j) u;rcases Nat.lt_trichotomy (below xs j) i with z|z|z
 ·have:=B.hi _ (Nat.le_refl _) (by omega);have:=u _ _ z h1;omega
 ·exact z
 ·have:=B.lo i z;omega
def YB {t:SetTable} {i j:Nat} (u:Up t.place) (h:t.place[i]?=some j):t.slot j=.live i:=by
 unfold SetTable.slot;simp only;rw [qch u h,h];simp
def DT {t:SetTable} {j:Nat} (d:t.dummies=#[]) (h:∀ i:Nat,t.place[i]?≠some j):t.slot j=.empty:=by
 unfold SetTable.slot;simp only;rw [if_neg (by simpa using h _),if_neg];unfold has;rw [d];simp
def SR {t:SetTable} (u:Up t.place) (d:t.dummies=#[]) (j:Nat):(t.slot j=.empty/\∀ i:Nat,t.place[i]?≠some j)\/∃ i:Nat,t.slot j=.live i/\t.place[i]?=some j:=by
 by_cases c:∃ i:Nat,t.place[i]?=some j
 ·obtain ⟨i,h⟩:=c;exact .inr ⟨i,YB u h,h⟩
 ·have c':∀ i:Nat,t.place[i]?≠some j:=λi h=>c ⟨i,h⟩;exact .inl ⟨DT d c',c'⟩
def adv (M:Nat) (p:Probe):Probe:=
 if p.more > 0 then { p with j:=p.j+1,more:=p.more-1 } else
 { p with j:=(leap M p.i p.perturb).1,more:=runEnd M (leap M p.i p.perturb).1-(leap M p.i p.perturb).1,i:=(leap M p.i p.perturb).1,perturb:=(leap M p.i p.perturb).2 }
def qiT (t:SetTable) (p:Probe):t.advance p=adv t.mask p:=rfl
def st (M:Nat) (h:Int):Probe:={ j:=bits h%(M+1),more:=runEnd M (bits h%(M+1))-bits h%(M+1),i:=bits h%(M+1),perturb:=bits h,dummy:=none }
def pth (M:Nat) (h:Int):Nat->Probe
 |0=>st M h
 |n+1=>adv M (pth M h n)
def C2 (M:Nat) (h:Int):∀ n,(pth M h n).dummy=none
 |0=>rfl
 |n+1=>by
  have:=C2 M h n;simp only [pth,adv];split<;>exact this
def KB {M i:Nat} (h:i<=M):runEnd M i<=M/\i<=runEnd M i/\runEnd M i<=i+9:=by unfold runEnd;split<;>omega
def qc4 (M:Nat) (h:Int):∀ n,(pth M h n).j+(pth M h n).more<=M
 |0=>by
  have:=Nat.mod_lt (bits h) (show 0<M+1 by omega);have:=KB (M:=M) (i:=bits h%(M+1)) (by omega);simp only [pth,st];omega
 |n+1=>by
  have ih:=qc4 M h n;simp only [pth,adv];split
  ·simp only;omega
  ·have:(leap M (pth M h n).i (pth M h n).perturb).1<M+1:=Nat.mod_lt _ (by omega);have:=KB (M:=M) (i:=(leap M (pth M h n).i (pth M h n).perturb).1) (by omega);simp only;omega
def hd (M i p:Nat):Probe:={ j:=i,more:=runEnd M i-i,i:=i,perturb:=p,dummy:=none }
def lv (M:Nat) (h:Int):Nat->Nat×Nat
 |0=>(bits h%(M+1),bits h)
 |k+1=>leap M (lv M h k).1 (lv M h k).2
def qmP {M:Nat} {h:Int} {i p:Nat}:∀ (m n j:Nat),pth M h n={ j:=j,more:=m,i:=i,perturb:=p,dummy:=none }->pth M h (n+m)={ j:=j+m,more:=0,i:=i,perturb:=p,dummy:=none }
 |0,n,j,e=>e
 |m+1,n,j,e=>by
  have e2:pth M h (n+1)={ j:=j+1,more:=m,i:=i,perturb:=p,dummy:=none }:=by
   rw [pth,e,adv];simp
  have:=qmP m (n+1) (j+1) e2;rw [show n+1+m=n+(m+1) by omega,show j+1+m=j+(m+1) by omega] at this;exact this
def qco (M:Nat) (h:Int):∀ k,(lv M h k).1<=M
 |0=>by have:=Nat.mod_lt (bits h) (show 0<M+1 by omega);simp only [lv];omega
 |k+1=>by
  have:(leap M (lv M h k).1 (lv M h k).2).1<M+1:=Nat.mod_lt _ (by omega);simp only [lv];omega
def qhQ (M:Nat) (h:Int):∀ k,∃ n,n<=10*k/\pth M h n=hd M (lv M h k).1 (lv M h k).2
 |0=>⟨0,by omega,rfl⟩
 |k+1=>by
  obtain ⟨n,hn,e⟩:=qhQ M h k;have r:=KB (qco M h k);have w:=qmP _ n _ e;refine ⟨n+(runEnd M (lv M h k).1-(lv M h k).1)+1,by omega,?_⟩;rw [pth,w];rfl
def NW (M:Nat) (h:Int):∀ k,(lv M h k).2=bits h/32 ^ k
 |0=>by simp [lv]
 |k+1=>by
  show (lv M h k).2/32=_;rw [NW M h k,Nat.div_div_eq_div_mul,Nat.pow_succ]
def qf4 (h:Int):bits h<2 ^ 64:=by
 unfold bits;have:=Int.emod_lt_of_pos h (show (0:Int)<2 ^ 64 by decide);have:=Int.emod_nonneg h (show (2 ^ 64:Int)≠0 by decide);omega
def stp (M x:Nat):Nat:=(x*5+1)%(M+1)
def its (M:Nat):Nat->Nat->Nat
 |0,x=>x
 |t+1,x=>stp M (its M t x)
def N0 (M:Nat) (h:Int):∀ t,(lv M h (13+t)).1=its M t (lv M h 13).1
 |0=>rfl
 |t+1=>by
  have z:(lv M h (13+t)).2/32=0:=by
   rw [NW,Nat.div_div_eq_div_mul,← Nat.pow_succ];refine Nat.div_eq_of_lt (Nat.lt_of_lt_of_le (qf4 h) ?_);exact Nat.le_trans (show 2 ^ 64<=32 ^ 14 by decide) (Nat.pow_le_pow_right (by omega) (by omega))
  show ((lv M h (13+t)).1*5+1+(lv M h (13+t)).2/32)%(M+1)=stp M (its M t _);rw [z,N0 M h t];rfl
def LS (M:Nat):Prop:=∀ x,x<=M->∀ c,c<=M->∃ t,t<=M/\its M t x=c
def qnO:LS 7:=by
 have:∀ x:Fin 8,∀ c:Fin 8,∃ t:Fin 8,its 7 t.val x.val=c.val:=by decide +kernel
 intro x hx c hc;obtain ⟨t,ht⟩:=this ⟨x,by omega⟩ ⟨c,by omega⟩;exact ⟨t.val,by omega,ht⟩
def qjt:LS 31:=by
 have:∀ x:Fin 32,∀ c:Fin 32,∃ t:Fin 32,its 31 t.val x.val=c.val:=by decide +kernel
 intro x hx c hc;obtain ⟨t,ht⟩:=this ⟨x,by omega⟩ ⟨c,by omega⟩;exact ⟨t.val,by omega,ht⟩
def JP (M:Nat) (x t:Nat):∀ s,its M (s+t) x=its M s (its M t x)
 |0=>by rw [Nat.zero_add];rfl
 |s+1=>by rw [Nat.succ_add];show stp M (its M (s+t) x)=stp M _;rw [JP M x t s]
def qgi:LS 127:=by
 have h:∀ c:Fin 128,∃ t:Fin 128,its 127 t.val 0=c.val:=by decide +kernel
 have z:its 127 128 0=0:=by decide +kernel
 intro x hx c hc;obtain ⟨a,ha⟩:=h ⟨x,by omega⟩;obtain ⟨b,hb⟩:=h ⟨c,by omega⟩;simp only at ha hb;have la:=a.isLt;have lb:=b.isLt;by_cases q:a.val<=b.val
 ·refine ⟨b.val-a.val,by omega,?_⟩;have:=JP 127 0 a.val (b.val-a.val);rw [Nat.sub_add_cancel q,hb,ha] at this;exact this.symm
 ·refine ⟨b.val+128-a.val,by omega,?_⟩;have:=JP 127 0 a.val (b.val+128-a.val);rw [Nat.sub_add_cancel (by omega),JP 127 0 128,z,hb,ha] at this;exact this.symm
def qgo:LS 511:=by
 have h:∀ c:Fin 512,∃ t:Fin 512,its 511 t.val 0=c.val:=by decide +kernel
 have z:its 511 512 0=0:=by decide +kernel
 intro x hx c hc;obtain ⟨a,ha⟩:=h ⟨x,by omega⟩;obtain ⟨b,hb⟩:=h ⟨c,by omega⟩;simp only at ha hb;have la:=a.isLt;have lb:=b.isLt;by_cases q:a.val<=b.val
 ·refine ⟨b.val-a.val,by omega,?_⟩;have:=JP 511 0 a.val (b.val-a.val);rw [Nat.sub_add_cancel q,hb,ha] at this;exact this.symm
 ·refine ⟨b.val+512-a.val,by omega,?_⟩;have:=JP 511 0 a.val (b.val+512-a.val);rw [Nat.sub_add_cancel (by omega),JP 511 0 512,z,hb,ha] at this;exact this.symm
def qiM {M:Nat} (F:LS M) (h:Int) {c:Nat} (hc:c<=M):∃ n,n<10*turns M/\(pth M h n).j=c:=by
 obtain ⟨t,ht,e⟩:=F _ (qco M h 13) c hc;obtain ⟨n,hn,e2⟩:=qhQ M h (13+t);refine ⟨n,by unfold turns;omega,?_⟩;rw [e2,hd,N0,e]
def qah {P:Nat->Prop} {n:Nat} (h:P n):∃ m,m<=n/\P m/\∀ k,k<m->¬ P k:=by
 induction n using Nat.strongRecOn with
 |_ n ih=>
  by_cases c:∃ k,k<n/\P k
  ·obtain ⟨k,hk,pk⟩:=c;obtain ⟨m,hm,r⟩:=ih k hk pk;exact ⟨m,by omega,r⟩
  ·exact ⟨n,Nat.le_refl _,h,λk hk pk=>c ⟨k,hk,pk⟩⟩
def qfv {xs:Array Nat} {M:Nat} (u:Up xs) (h:xs.size<=M):∃ c,c<=M/\∀ i:Nat,xs[i]?≠some c:=by
 by_cases c:∃ c,c<=M/\∀ i:Nat,xs[i]?≠some c
 ·exact c
 exfalso;have all:∀ c,c<=M->∃ i:Nat,xs[i]?=some c:=λd hd=>by
  by_cases z:∃ i:Nat,xs[i]?=some d
  ·exact z
  ·exact absurd ⟨d,hd,λi e=>z ⟨i,e⟩⟩ c
 have ge:∀ i,i<xs.size->i<=xs.getD i 0:=by
  intro i;induction i with
  |zero=>intro _;exact Nat.zero_le _
  |succ i ih=>
   intro hi;have:=ih (by omega);have:=u i (i+1) (by omega) hi;omega
 obtain ⟨i,hi⟩:=all M (Nat.le_refl _);obtain ⟨i1,i2⟩:=qcu hi;obtain ⟨m,hm,⟨m1,m2⟩,hl⟩:=qah (P:=λi=>i<xs.size/\i<xs.getD i 0) (n:=i) ⟨i1,by omega⟩;obtain ⟨k,hk⟩:=all m (by omega);obtain ⟨k1,k2⟩:=qcu hk;rcases Nat.lt_or_ge k m with z|z
 ·have a:=ge k k1;have b:=hl k z;have:¬ k<xs.getD k 0:=λq=>b ⟨k1,q⟩;omega
 ·have:=u.le z k1;omega
def LZ {t:SetTable} {h:Int} (F:LS t.mask) (u:Up t.place) (d:t.dummies=#[]) (s:t.place.size<=t.mask):∃ e,e<10*turns t.mask/\t.slot (pth t.mask h e).j=.empty/\∀ k,k<e->t.slot (pth t.mask h k).j≠.empty:=by
 obtain ⟨c,hc,hf⟩:=qfv u s;obtain ⟨n,hn,e⟩:=qiM F h hc;obtain ⟨m,hm,pm,hl⟩:=qah (P:=λn=>t.slot (pth t.mask h n).j=.empty) (n:=n) (by rw [e];exact DT d hf);exact ⟨m,by omega,pm,hl⟩
def qbg {t:SetTable} {hA:Nat->Int} {h:Int}:∀ (m fuel n:Nat),(∀ k,k<m->∃ i,t.slot (pth t.mask h (n+k)).j=.live i/\(hA i==h)=false)->m<=fuel->probe.go t hA h fuel (pth t.mask h n)=probe.go t hA h (fuel-m) (pth t.mask h (n+m))
 |0,fuel,n,_,_=>rfl
 |m+1,0,n,_,hf=>by omega
 |m+1,fuel+1,n,hs,hf=>by
  obtain ⟨i,e1,e2⟩:=hs 0 (by omega);rw [Nat.add_zero] at e1;rw [probe.go,e1];simp only [e2,Bool.false_eq_true,if_false];have:=qbg m fuel (n+1) (λk hk=>by rw [show n+1+k=n+(k+1) by omega];exact hs (k+1) (by omega)) (by omega);rw [qiT,← pth,this,show n+1+m=n+(m+1) by omega,show fuel+1-(m+1)=fuel-m by omega]
def qbI {t:SetTable} {hA:Nat->Int} {h:Int} {fuel n:Nat} (e:t.slot (pth t.mask h n).j=.empty) (hf:0<fuel):probe.go t hA h fuel (pth t.mask h n)=some (.empty (pth t.mask h n).j none):=by
 obtain ⟨f,rfl⟩:∃ f,fuel=f+1:=⟨fuel-1,by omega⟩
 rw [probe.go,e,C2]
def qgq {t:SetTable} {hA:Nat->Int} {h:Int} {fuel n i:Nat} (e:t.slot (pth t.mask h n).j=.live i) (eh:(hA i==h)=true) (hf:0<fuel):probe.go t hA h fuel (pth t.mask h n)=some (.candidate (pth t.mask h n).j i (pth t.mask h (n+1))):=by
 obtain ⟨f,rfl⟩:∃ f,fuel=f+1:=⟨fuel-1,by omega⟩
 rw [probe.go,e];simp only [eh,if_true];rfl
def ins {α:Type} (l:List α) (p:Nat) (x:α):List α:=l.take p++x::l.drop p
def WW {α:Type} {l:List α} {p:Nat} {x:α} (h:p<=l.length):(ins l p x).length=l.length+1:=by simp [ins];omega
def MK {α:Type} {l:List α} {p:Nat} {x:α} (h:p<=l.length) (i:Nat):(ins l p x)[i]?=if i<p then l[i]? else if i=p then some x else l[i-1]?:=by
 have e:(l.take p).length=p:=by simp;omega
 unfold ins;split
 ·rename_i c;rw [List.getElem?_append_left (by omega),List.getElem?_take_of_lt c]
 ·rw [List.getElem?_append_right (by omega),e];split
  ·rename_i c;subst c;simp
  ·rename_i c1 c2;obtain ⟨k,rfl⟩:∃ k,i=p+(k+1):=⟨i-p-1,by omega⟩
   rw [show p+(k+1)-p=k+1 by omega,getElem?_cons_succ,List.getElem?_drop,show p+(k+1)-1=p+k by omega]
def YT {α:Type} (xs:Array α) (p:Nat) (x:α) (h:p<=xs.size):(insertAt xs p x).toList=ins xs.toList p x:=by
 unfold insertAt ins;simp;exact List.take_of_length_le (by simp)
structure Ok8 (t:SetTable) (hs:List Int):Prop where
 up:Up t.place
 dm:t.dummies=#[]
 sz:t.place.size=hs.length
 fl:hs.length<=t.mask
 le:∀ (i j:Nat),t.place[i]?=some j->j<=t.mask
 fu:LS t.mask
 od:t.mask%2=1
 wy:∀ (i j:Nat) (h:Int),t.place[i]?=some j->hs[i]?=some h->∃ m,(pth t.mask h m).j=j/\∀ k,k<m->t.slot (pth t.mask h k).j≠.empty
def Ok8.ne {t:SetTable} {hs:List Int} (o:Ok8 t hs) {j:Nat}:t.slot j≠.empty↔∃ i:Nat,t.place[i]?=some j:=by
 rcases SR o.up o.dm j with ⟨e,h⟩|⟨i,e,h⟩
 ·exact ⟨λz=>absurd e z,λ⟨i,z⟩=>absurd z (h i)⟩
 ·exact ⟨λ_=>⟨i,h⟩,λ_ z=>by rw [e] at z;cases z⟩
def LR {α:Type} (xs:Array α) (i:Nat):xs[i]?=xs.toList[i]?:=by simp
def Ok8.put {t:SetTable} {hs:List Int} (o:Ok8 t hs) {j:Nat} {h:Int} (he:t.slot j=.empty) (hj:j<=t.mask) (hf:hs.length+1<=t.mask) (w:∃ m,(pth t.mask h m).j=j/\∀ k,k<m->t.slot (pth t.mask h k).j≠.empty) :
  (t.put j).2<=hs.length/\Ok8 (t.put j).1 (ins hs (t.put j).2 h)/\(t.put j).1.mask=t.mask:=by
 have hn:∀ i:Nat,t.place[i]?≠some j:=λi z=>(o.ne.mpr ⟨i,z⟩) he;have B:=T2 (j:=j) o.up;obtain ⟨p,hp⟩:∃ p,p=below t.place j:=⟨_,rfl⟩
 have hd:has t.dummies j=false:=by unfold has;rw [o.dm];simp
 have e1:(t.put j).1={ t with place:=insertAt t.place p j }:=by
  unfold SetTable.put;simp only [hd,hp];rfl
 have e2:(t.put j).2=p:=by unfold SetTable.put;rw [hp]
 rw [← hp] at B;have pl:p<=t.place.size:=B.le;have pl':p<=hs.length:=by rw [← o.sz];exact pl
 have gt:∀ i:Nat,(insertAt t.place p j)[i]?=if i<p then t.place[i]? else if i=p then some j else t.place[i-1]?:=λi=>by
  rw [LR,YT _ _ _ pl,MK (by simpa using pl),LR,LR]
 have hz:(insertAt t.place p j).size=t.place.size+1:=by
  rw [← Array.length_toList,YT _ _ _ pl,WW (by simpa using pl),Array.length_toList]
 rw [e1,e2];have up':Up (insertAt t.place p j):=by
  intro a b hab hb;rw [hz] at hb;have ga:=gt a;have gb:=gt b;have da:(insertAt t.place p j)[a]?=some ((insertAt t.place p j).getD a 0):=W0 (by rw [hz];omega);have db:(insertAt t.place p j)[b]?=some ((insertAt t.place p j).getD b 0):=W0 (by rw [hz];omega);rw [da] at ga;rw [db] at gb;generalize (insertAt t.place p j).getD a 0=x at ga ⊢;generalize (insertAt t.place p j).getD b 0=y at gb ⊢;have gtj:∀ i:Nat,p<=i->i<t.place.size->j<t.place.getD i 0:=λi h1 h2=>by
   have a1:=B.hi i h1 h2;have a2:t.place.getD i 0≠j:=λz=>hn i (by rw [W0 h2,z]);omega
  by_cases c1:a<p
  ·rw [if_pos c1,W0 (by omega)] at ga;cases ga;by_cases c2:b<p
   ·rw [if_pos c2,W0 (by omega)] at gb;cases gb;exact o.up a b hab (by omega)
   ·rw [if_neg c2] at gb;by_cases c3:b=p
    ·rw [if_pos c3] at gb;cases gb;exact B.lo a c1
    ·rw [if_neg c3,W0 (by omega)] at gb;cases gb;exact Nat.lt_trans (B.lo a c1) (gtj _ (by omega) (by omega))
  ·rw [if_neg c1] at ga;have c2:¬ b<p:=by omega
   have c3:¬ b=p:=by omega
   rw [if_neg c2,if_neg c3,W0 (by omega)] at gb;cases gb;by_cases c4:a=p
   ·rw [if_pos c4] at ga;cases ga;exact gtj _ (by omega) (by omega)
   ·rw [if_neg c4,W0 (by omega)] at ga;cases ga;exact o.up _ _ (by omega) (by omega)
 have ne':∀ j',t.slot j'≠.empty->SetTable.slot { t with place:=insertAt t.place p j } j'≠.empty:=λj' z=>by
  obtain ⟨i,hi⟩:=o.ne.mp z;have:∃ i':Nat,(insertAt t.place p j)[i']?=some j':=by
   by_cases c:i<p
   ·exact ⟨i,by rw [gt,if_pos c,hi]⟩
   ·exact ⟨i+1,by rw [gt,if_neg (by omega),if_neg (by omega),Nat.add_sub_cancel,hi]⟩
  obtain ⟨i',hi'⟩:=this;rw [YB (t:={ t with place:=insertAt t.place p j }) up' hi'];exact λz=>by cases z
 refine ⟨pl',⟨up',o.dm,by rw [WW pl'];simp only;rw [hz,o.sz],by rw [WW pl'];exact hf,λi j' hi=>?_,o.fu,o.od,λi j' h' hi hh=>?_⟩,rfl⟩
 ·simp only at hi;rw [gt] at hi;split at hi
  ·exact o.le _ _ hi
  ·split at hi
   ·cases hi;exact hj
   ·exact o.le _ _ hi
 ·simp only at hi;rw [gt] at hi;rw [MK pl'] at hh;have go:∀ i0:Nat,t.place[i0]?=some j'->hs[i0]?=some h'->∃ m,(pth t.mask h' m).j=j'/\∀ k,k<m->SetTable.slot { t with place:=insertAt t.place p j } (pth t.mask h' k).j≠.empty:=λi0 a b=>by
   obtain ⟨m,m1,m2⟩:=o.wy i0 j' h' a b;exact ⟨m,m1,λk hk=>ne' _ (m2 k hk)⟩
  split at hi
  ·rename_i c;rw [if_pos c] at hh;exact go i hi hh
  ·rename_i c;rw [if_neg c] at hh;split at hi
   ·rename_i c2;rw [if_pos c2] at hh;cases hi;cases hh;obtain ⟨m,m1,m2⟩:=w;exact ⟨m,m1,λk hk=>ne' _ (m2 k hk)⟩
   ·rename_i c2;rw [if_neg c2] at hh;exact go _ hi hh
def Ok8.fresh (f m:Nat) (led:Bool):Ok8 (SetTable.fresh f m led) []:=by
 refine ⟨λa b h hb=>?_,rfl,rfl,Nat.zero_le _,λi j h=>?_,qnO,(by show 7%2=1;rfl),λi j h a b=>?_⟩
 ·simp [SetTable.fresh] at hb
 ·simp [SetTable.fresh] at h
 ·simp at b
end Tb8
namespace Tb8
open PySem PyProof.Rows
section
variable {prog:Program} {w:World} {A:Around} {E:Value->Shared->Prop} {s:Shared}
abbrev IsP (prog:Program) (w:World) (h:Heap) (k:List Int) (a:Addr):Prop:=IsTupleKey (intKind prog w) h k a
abbrev hsh (prog:Program) (w:World) (k:List Int):Int:=tupleKeyHash (intKind prog w) k
def qhK {k:Int} {v:Value} (h:(intKind prog w).is k v=true):∃ t,v=.int k t:=by
 cases v<;>first|(cases h;done)|skip
 case int i t=>
  have:i=k:=by simpa [intKind,Value.isInt] using h
  exact ⟨t,by rw [this]⟩
def qdg {ks:List Int} {vs:List Value} (h:ItemsAre (intKind prog w) ks vs):∀ v∈vs,∃ i t,v=Value.int i t:=by
 induction h with
 |nil=>intro v hv;cases hv
 |cons h1 _ ih=>
  intro v hv;rcases mem_cons.mp hv with rfl|hv
  ·obtain ⟨t,e⟩:=qhK h1;exact ⟨_,t,e⟩
  ·exact ih v hv
def qoR {k:List Int} {a:Addr} {Q:Bool->Shared->Prop} (hk:IsP prog w s.heap k a) (h:Q false s):wpAny (model prog w) A (ofAClassStatement 8 (.ref a)) Q E s:=by
 have hT:=hk.typeIs;obtain ⟨o,items,n,ho,_,hd,hi⟩:=hk;unfold ofAClassStatement;refine wpAny_bind (wpAny_typeOf hT ?_);simp only [beq_self_eq_true,if_true];refine wpAny_bind (wpAny_pure ?_);simp only [Bool.not_true,Bool.false_eq_true,if_false];refine wpAny_bind (wpAny_seqItems ho hd ?_);refine wpAny_bind ?_;show wpAny _ _ (forIn items _ _) _ _ s;rw [← Array.forIn_toList];refine wpAny_forIn_list _ (λjk r s'=>r.1=none/\s'=s/\∀ v∈jk,∃ i t,v=Value.int i t) _ ?_ ?_ _ _ ⟨rfl,rfl,qdg hi⟩
 ·rintro v jk r s' ⟨hr,rfl,hall⟩;obtain ⟨i,t,rfl⟩:=hall v List.mem_cons_self;refine wpAny_bind (wpAny_pure ?_);simp only [Bool.false_eq_true,if_false];exact wpAny_pure ⟨rfl,rfl,λu hu=>hall u (List.mem_cons_of_mem _ hu)⟩
 ·rintro ⟨r1,r2⟩ s' ⟨hr,rfl,_⟩;simp only at hr;subst hr;exact wpAny_pure h
def ql3 {k:List Int} {a:Addr} {ys:List Value} {Q:Bool->Shared->Prop} (hk:IsP prog w s.heap k a) (hy:∀ y∈ys,∃ k' b,y=Value.ref b/\IsP prog w s.heap k' b) (h:Q false s):wpAny (model prog w) A (searchCouldBeSeen (.ref a) ys) Q E s:=by
 unfold searchCouldBeSeen;refine wpAny_bind ?_;refine wpAny_forIn_list _ (λjk r s'=>r.1=none/\s'=s/\∀ y∈jk,∃ k' b,y=Value.ref b/\IsP prog w s.heap k' b) _ ?_ ?_ _ _ ⟨rfl,rfl,hy⟩
 ·rintro y jk r s' ⟨hr,rfl,hall⟩;obtain ⟨k',b,rfl,hb⟩:=hall y List.mem_cons_self;have nx:∀ y∈jk,∃ k' b,y=Value.ref b/\IsP prog w s'.heap k' b:=λu hu=>hall u (List.mem_cons_of_mem _ hu);simp only;refine wpAny_ite ?_;split
  ·exact wpAny_pure ⟨rfl,rfl,nx⟩
  refine wpAny_bind (wpAny_eqIsQuiet_tuple hk ?_);simp only [Bool.not_true,Bool.false_eq_true,if_false];refine wpAny_bind (wpAny_eqIsQuiet_tuple hb ?_);simp only [Bool.not_true,Bool.false_eq_true,if_false];refine wpAny_bind (qoR hk ?_);simp only [Bool.false_eq_true,if_false];refine wpAny_bind (qoR hb ?_);simp only [Bool.false_eq_true,if_false];exact wpAny_pure ⟨rfl,rfl,nx⟩
 ·rintro ⟨r1,r2⟩ s' ⟨hr,rfl,_⟩;simp only at hr;subst hr;exact wpAny_pure h
def qpE {k:List Int} {a:Addr} {Q:Bool->Shared->Prop} (hk:IsP prog w s.heap k a) (h:∀ b,Q b s):wpAny (model prog w) A (hashByValue 8 (.ref a)) Q E s:=by
 have hT:=hk.typeIs;obtain ⟨o,items,n,ho,_,hd,hi⟩:=hk;unfold hashByValue;refine wpAny_bind (wpAny_specialOf hT F.slot_tuple_hash.lookup ?_);simp only;refine wpAny_bind (wpAny_seqItems ho hd ?_);simp only [Option.getD_some];refine wpAny_bind ?_;show wpAny _ _ (forIn items _ _) _ _ s;rw [← Array.forIn_toList];refine wpAny_forIn_list _ (λjk r s'=>r.1=none/\s'=s/\∀ v∈jk,∃ i t,v=Value.int i t) _ ?_ ?_ _ _ ⟨rfl,rfl,qdg hi⟩
 ·rintro v jk r s' ⟨hr,rfl,hall⟩;obtain ⟨i,t,rfl⟩:=hall v List.mem_cons_self;refine wpAny_bind (wpAny_pure ?_);simp only [Bool.not_true,Bool.false_eq_true,if_false];exact wpAny_pure ⟨rfl,rfl,λu hu=>hall u (List.mem_cons_of_mem _ hu)⟩
 ·rintro ⟨r1,r2⟩ s' ⟨hr,rfl,_⟩;simp only at hr;subst hr;exact wpAny_pure (h _)
end
end Tb8
namespace Tb8
open PySem PyProof.Rows PySem.SetTable
section
variable {prog:Program} {w:World} {A:Around} {E:Value->Shared->Prop} {s:Shared}
def ent (prog:Program) (w:World) (q:List Int×Addr):Int×Value:=(hsh prog w q.1,.ref q.2)
structure PS (prog:Program) (w:World) (h:Heap) (S:Addr) (en:List (List Int×Addr)) (o:Obj) (es:Array (Int×Value)) (ep:Nat) (t:SetTable):Prop where
 ho:h.get? S=some o
 hc:o.ExactSet
 hd:o.data=.set es ep t
 he:es.toList=en.map (ent prog w)
 hP:∀ q∈en,IsP prog w h q.1 q.2
 ok:Ok8 t (en.map λq=>hsh prog w q.1)
 nd:(en.map (·.1)).Nodup
def PS.sz {h:Heap} {S:Addr} {en:List (List Int×Addr)} {o:Obj} {es:Array (Int×Value)} {ep:Nat} {t:SetTable} (p:PS prog w h S en o es ep t):es.size=en.length:=by
 have:=congrArg List.length p.he;simpa using this
def PS.fits {h:Heap} {S:Addr} {en:List (List Int×Addr)} {o:Obj} {es:Array (Int×Value)} {ep:Nat} {t:SetTable} (p:PS prog w h S en o es ep t):t.fits es.size=true:=by
 have a:=p.ok.sz;have b:=p.ok.fl;rw [length_map] at a b;have c:t.fill=t.place.size:=by unfold SetTable.fill;rw [p.ok.dm];rfl
 unfold SetTable.fits;rw [p.sz,c,a];simp [b]
def PS.at_ {h:Heap} {S:Addr} {en:List (List Int×Addr)} {o:Obj} {es:Array (Int×Value)} {ep:Nat} {t:SetTable} (p:PS prog w h S en o es ep t) (i:Nat):es[i]?=(en[i]?).map (ent prog w):=by
 rw [LR,p.he,getElem?_map]
def qf5 {S:Addr} {en:List (List Int×Addr)} {o:Obj} {es:Array (Int×Value)} {ep:Nat} {t:SetTable} {k:List Int} {a:Addr} {e:Nat} {Q:SetFound->Shared->Prop} (hu:A.units<cLine) (p:PS prog w s.heap S en o es ep t) (hk:IsP prog w s.heap k a)
  (e0:e<10*turns t.mask) (e1:t.slot (pth t.mask (hsh prog w k) e).j=.empty) (e2:∀ m,m<e->t.slot (pth t.mask (hsh prog w k) m).j≠.empty)
  (q1:k∈en.map (·.1)->Q (.there none) s) (q2:k∉en.map (·.1)->Q (.free (pth t.mask (hsh prog w k) e).j false) s) :
  ∀ (d n fuel:Nat) (stand:Option Probe),e-n=d->n<=e->d<fuel->stand.getD (t.probeStart (hsh prog w k))=pth t.mask (hsh prog w k) n ->
   (∀ m,m<n->∀ i q,t.slot (pth t.mask (hsh prog w k) m).j=.live i->en[i]?=some q->q.1≠k) ->
   wpAny (model prog w) A (setSearchFrom S (.ref a) (hsh prog w k) true fuel stand) Q E s:=by
 intro d;induction d using Nat.strongRecOn with
 |_ d ih=>
  intro n fuel stand hd hn hf hst hno;obtain ⟨f,rfl⟩:∃ f,fuel=f+1:=⟨fuel-1,by omega⟩
  obtain ⟨H,hH⟩:∃ H:Nat->Int,H=λi=>(es[i]?.map (·.1)).getD 0:=⟨_,rfl⟩
  have hA:∀ i q,en[i]?=some q->H i=hsh prog w q.1:=λi q hq=>by rw [hH];simp only;rw [p.at_,hq];rfl
  -- the next that is met
  obtain ⟨m,hm1,⟨hm2,hm3⟩,hm4⟩:=qah (P:=λm=>n<=m/\(t.slot (pth t.mask (hsh prog w k) m).j=.empty\/∃ i,t.slot (pth t.mask (hsh prog w k) m).j=.live i/\(H i==hsh prog w k)=true)) (n:=e) ⟨hn,.inl e1⟩;have sk:∀ x,x<m-n->∃ i,t.slot (pth t.mask (hsh prog w k) (n+x)).j=.live i/\(H i==hsh prog w k)=false:=λx hx=>by
   have b:=hm4 (n+x) (by omega);have c:¬ (t.slot (pth t.mask (hsh prog w k) (n+x)).j=.empty\/∃ i,t.slot (pth t.mask (hsh prog w k) (n+x)).j=.live i/\(H i==hsh prog w k)=true):=λz=>b ⟨by omega,z⟩;rcases SR p.ok.up p.ok.dm (pth t.mask (hsh prog w k) (n+x)).j with ⟨z,_⟩|⟨i,z,_⟩
   ·exact absurd (.inl z) c
   ·refine ⟨i,z,?_⟩;cases z2:(H i==hsh prog w k) with
    |true=>exact absurd (.inr ⟨i,z,z2⟩) c
    |false=>rfl
  have pr:t.probe H (hsh prog w k) (stand.getD (t.probeStart (hsh prog w k)))=SetTable.probe.go t H (hsh prog w k) (10*turns t.mask-(m-n)) (pth t.mask (hsh prog w k) m):=by
   rw [hst];show SetTable.probe.go t H (hsh prog w k) (10*turns t.mask) _=_;rw [qbg (m-n) _ n sk (by omega),show n+(m-n)=m by omega]
  have gw:t.gaveWay=false:=by unfold SetTable.gaveWay;rw [p.ok.od];rfl
  unfold setSearchFrom;refine wpAny_bind (wpAny_setState_of p.ho p.hd p.fits ?_);simp only [gw,Bool.false_eq_true,if_false];rw [hH] at pr;rcases hm3 with hm3|⟨i,hm3,hm5⟩
  ·-- a free place
   obtain rfl:m=e:=by
    rcases Nat.lt_or_ge m e with z|z
    ·exact absurd hm3 (e2 m z)
    ·omega
   rw [qbI hm3 (by omega)] at pr;generalize hX:t.probe _ _ _=X;obtain rfl:X=_:=hX.symm.trans pr;simp only;refine wpAny_pure (q2 λhin=>?_)
   -- it would have been met
   obtain ⟨q,hq,rfl⟩:=mem_map.mp hin;obtain ⟨i,hi⟩:=List.mem_iff_getElem?.mp hq;obtain ⟨j,hj⟩:∃ j,t.place[i]?=some j:=by
    have:=(List.getElem?_eq_some_iff.mp hi).1;have sz:=p.ok.sz;rw [length_map] at sz;exact ⟨_,W0 (by omega)⟩
   obtain ⟨x,x1,x2⟩:=p.ok.wy i j (hsh prog w q.1) hj (by rw [getElem?_map,hi];rfl);have lv:t.slot (pth t.mask (hsh prog w q.1) x).j=.live i:=by rw [x1];exact YB p.ok.up hj
   have xe:x<m:=by
    rcases Nat.lt_trichotomy x m with z|z|z
    ·exact z
    ·rw [z,e1] at lv;cases lv
    ·exact absurd e1 (x2 m z)
   rcases Nat.lt_or_ge x n with z|z
   ·exact hno x z i q lv hi rfl
   ·refine hm4 x xe ⟨z,.inr ⟨i,lv,?_⟩⟩;rw [hA i q hi];simp
  ·-- one with the same hash
   rw [qgq hm3 (by rw [hH] at hm5;exact hm5) (by omega)] at pr;generalize hX:t.probe _ _ _=X;obtain rfl:X=_:=hX.symm.trans pr;simp only;have iP:∃ q,en[i]?=some q:=by
    rcases SR p.ok.up p.ok.dm (pth t.mask (hsh prog w k) m).j with ⟨z,_⟩|⟨i',z,z2⟩
    ·rw [z] at hm3;cases hm3
    ·rw [hm3] at z;cases z;have:=(qcu z2).1;have sz:=p.ok.sz;rw [length_map] at sz;exact ⟨_,getElem?_eq_getElem (by omega)⟩
   obtain ⟨q,hq⟩:=iP;have hqP:=p.hP q (mem_of_getElem? hq);have ei:es[i]?=some (ent prog w q):=by rw [p.at_,hq];rfl
   have sm:t.sameMemory t.moves t.mask=some true:=by unfold SetTable.sameMemory;simp
   have me:m<e:=by
    rcases Nat.lt_or_ge m e with z|z
    ·exact z
    ·rw [show m=e by omega,e1] at hm3;cases hm3
   have jk:wpAny (model prog w) A (holding [Value.ref q.2] (eqBool (Value.ref q.2) (Value.ref a)) >>= λequal=>do
     let __x←setState S
     if (true&&equal)=true then pure (SetFound.there none)
     else match __x.2.snd.sameMemory t.moves t.mask with
      |some same=>match if same=true then __x.2.snd.slot (pth t.mask (hsh prog w k) m).j else Slot.empty with
       |Slot.live i'=>match __x.fst[i']? with
        |some (fst,y')=>do
         let __do_lift←isSame y' (Value.ref q.2)
         let still←pure (if __do_lift=true then some i' else none)
         match still with
          |none=>do
           rule "set.search.anew"
           setSearchFrom S (Value.ref a) (hsh prog w k) true f none
          |some i'=>if equal=true then pure (SetFound.there (some i')) else setSearchFrom S (Value.ref a) (hsh prog w k) true f (some (pth t.mask (hsh prog w k) (m+1)))
        |none=>do
         let still←pure none
         match still with
          |none=>do
           rule "set.search.anew"
           setSearchFrom S (Value.ref a) (hsh prog w k) true f none
          |some i'=>if equal=true then pure (SetFound.there (some i')) else setSearchFrom S (Value.ref a) (hsh prog w k) true f (some (pth t.mask (hsh prog w k) (m+1)))
       |x=>do
        let still←pure none
        match still with
         |none=>do
          rule "set.search.anew"
          setSearchFrom S (Value.ref a) (hsh prog w k) true f none
         |some i'=>if equal=true then pure (SetFound.there (some i')) else setSearchFrom S (Value.ref a) (hsh prog w k) true f (some (pth t.mask (hsh prog w k) (m+1)))
      |x=>unsupported "set.changed-during-lookup:is-the-new-block-at-the-old-address") Q E s:=by
    refine wpAny_bind (wpAny_holding (wpAny_eqBool_tuple hu hqP hk ?_));refine wpAny_bind (wpAny_setState_of p.ho p.hd p.fits ?_);by_cases c:q.1=k
    ·rw [decide_eq_true c];simp only [Bool.and_self,if_true];exact wpAny_pure (q1 (mem_map.mpr ⟨q,mem_of_getElem? hq,c⟩))
    ·rw [decide_eq_false c];simp only [Bool.and_false,Bool.false_eq_true,if_false,sm,if_true,hm3,ei,ent];refine wpAny_bind (wpAny_isSame_ref_self ?_);refine wpAny_bind (wpAny_pure ?_);simp only [if_true];refine ih (e-(m+1)) (by omega) (m+1) f _ rfl (by omega) (by omega) rfl λx hx i' q' hl hq'=>?_;rcases Nat.lt_or_ge x n with z|z
     ·exact hno x z i' q' hl hq'
     rcases Nat.lt_or_ge x m with z2|z2
     ·obtain ⟨i2,y1,y2⟩:=sk (x-n) (by omega);rw [show n+(x-n)=x by omega,hl] at y1;cases y1;rw [hA _ _ hq'] at y2;exact λz3=>by rw [z3] at y2;simp at y2
     ·obtain rfl:x=m:=by omega
      rw [hm3] at hl;cases hl;rw [hq] at hq';cases hq';exact c
   cases t.led with
   |true=>
    simp only [Bool.not_true,Bool.false_eq_true,if_false,ei,ent];exact jk
   |false=>
    simp only [Bool.not_false,if_true];refine wpAny_bind (ql3 hk (λy hy=>?_) ?_)
    ·obtain ⟨x,hx,rfl⟩:=mem_map.mp hy;have hx2:x∈es.toList:=by
      have:=Array.mem_toList_iff.mp hx;exact Array.mem_toList_iff.mpr (Array.mem_of_mem_filter this)
     rw [p.he] at hx2;obtain ⟨q',hq',rfl⟩:=mem_map.mp hx2;exact ⟨q'.1,q'.2,rfl,p.hP q' hq'⟩
    ·simp only [Bool.false_eq_true,if_false,ei,ent];exact jk
end
end Tb8
namespace Tb8
open PySem PySem.SetTable
def own (ow:Array (Option Nat)) (j:Nat):Option Nat:=ow.getD j (some 0)
def KC {M:Nat} {h:Int} {c n:Nat} (e:pth M h n=hd M (lv M h c).1 (lv M h c).2) {k:Nat} (hk:(lv M h c).1+k<=runEnd M (lv M h c).1):(pth M h (n+k)).j=(lv M h c).1+k:=by
 have key:∀ k,(lv M h c).1+k<=runEnd M (lv M h c).1->pth M h (n+k)={ j:=(lv M h c).1+k,more:=runEnd M (lv M h c).1-((lv M h c).1+k),i:=(lv M h c).1,perturb:=(lv M h c).2,dummy:=none }:=by
  intro k;induction k with
  |zero=>intro _;exact e
  |succ k ih=>
   intro hk;have:=ih (by omega);rw [← Nat.add_assoc,pth,this,adv];simp only;rw [if_pos (by omega)];congr 1
 rw [key k hk]
def qcZ {M:Nat} {h:Int} {c n:Nat} (e:pth M h n=hd M (lv M h c).1 (lv M h c).2):pth M h (n+(runEnd M (lv M h c).1-(lv M h c).1)+1)=hd M (lv M h (c+1)).1 (lv M h (c+1)).2:=by
 rw [pth,qmP _ n _ e];rfl
def CC {n:Nat} {P:Nat->Bool} (h:(List.range n).find? P=none):∀ k,k<n->P k=false:=λk hk=>by
 have:=List.find?_eq_none.mp h k (mem_range.mpr hk);simpa using this
def NV {P:Nat->Bool}:∀ {n k:Nat},(List.range n).find? P=some k->k<n/\P k=true/\∀ i,i<k->P i=false:=by
 intro n;induction n with
 |zero=>intro k h;simp at h
 |succ n ih=>
  intro k h;rw [List.range_succ,List.find?_append] at h;cases e:(List.range n).find? P with
  |some k'=>
   rw [e] at h;simp at h;subst h;obtain ⟨a,b,c⟩:=ih e;exact ⟨by omega,b,c⟩
  |none=>
   rw [e] at h;simp [List.find?_cons] at h;split at h
   ·rename_i z;cases h;exact ⟨by omega,z,CC e⟩
   ·cases h
def qk5 {M:Nat} {h:Int} {ow:Array (Option Nat)}:∀ (fuel c n:Nat),pth M h n=hd M (lv M h c).1 (lv M h c).2->(∀ m,m<n->own ow (pth M h m).j≠none)->(∃ c',c<=c'/\c'<c+fuel/\own ow (lv M h c').1=none) ->
  ∃ m,layClean.free M ow fuel (lv M h c).1 (lv M h c).2=some (pth M h m).j/\own ow (pth M h m).j=none/\∀ m',m'<m->own ow (pth M h m').j≠none
 |0,c,n,_,_,⟨c',h1,h2,_⟩=>by omega
 |fuel+1,c,n,e,hn,⟨c',h1,h2,h3⟩=>by
  have r:=KB (qco M h c);rw [layClean.free];cases f:(List.range (runEnd M (lv M h c).1+1-(lv M h c).1)).find? (λk=>(ow.getD ((lv M h c).1+k) (some 0)).isNone) with
  |some k=>
   obtain ⟨k1,k2,k3⟩:=NV f;refine ⟨n+k,?_,?_,λm' hm'=>?_⟩
   ·simp only;rw [KC e (by omega)]
   ·rw [KC e (by omega)];unfold own;exact Option.isNone_iff_eq_none.mp k2
   ·rcases Nat.lt_or_ge m' n with z|z
    ·exact hn m' z
    ·obtain ⟨x,rfl⟩:∃ x,m'=n+x:=⟨m'-n,by omega⟩
     rw [KC e (by omega)];have:=k3 x (by omega);unfold own;intro q;rw [q] at this;cases this
  |none=>
   have k3:=CC f;have all:∀ m,m<n+(runEnd M (lv M h c).1-(lv M h c).1)+1->own ow (pth M h m).j≠none:=λm hm=>by
    rcases Nat.lt_or_ge m n with z|z
    ·exact hn m z
    ·obtain ⟨x,rfl⟩:∃ x,m=n+x:=⟨m-n,by omega⟩
     rw [KC e (by omega)];have:=k3 x (by omega);unfold own;intro q;rw [q] at this;cases this
   have ne:c'≠c:=λz=>by
    subst z;have:=k3 0 (by omega);rw [Nat.add_zero] at this;unfold own at h3;rw [h3] at this;cases this
   exact qk5 fuel (c+1) _ (qcZ e) all ⟨c',by omega,by omega,h3⟩
structure Lay (M:Nat) (ow:Array (Option Nat)) (hs:List Int):Prop where
 sz:ow.size=M+1
 lt:∀ (j k:Nat),ow[j]?=some (some k)->k<hs.length
 ex:∀ k,k<hs.length->∃ j:Nat,ow[j]?=some (some k)
 un:∀ (j j' k:Nat),ow[j]?=some (some k)->ow[j']?=some (some k)->j=j'
 wy:∀ (j k:Nat) (h:Int),ow[j]?=some (some k)->hs[k]?=some h->∃ m,(pth M h m).j=j/\∀ x,x<m->own ow (pth M h x).j≠none
def V4 {ow:Array (Option Nat)} {j:Nat} (h:j<ow.size):ow[j]?=some (own ow j):=by simp [own,Array.getD,h]
def MR {M:Nat} {h:Int} {n:Nat}:(pth M h n).j<=M:=by have:=qc4 M h n;omega
def pig:∀ (b:Nat) (l:List Nat),(∀ x∈l,x<b)->l.Nodup->l.length<=b
 |0,l,h,_=>by
  cases l with
  |nil=>simp
  |cons a r=>exact absurd (h a (by simp)) (Nat.not_lt_zero a)
 |b+1,l,h,nd=>by
  have ih:=pig b (l.erase b) (λx hx=>by
   have q:=(List.Nodup.mem_erase_iff nd).mp hx;have:=h x q.2;have:=q.1;omega) (nd.erase b)
  rw [List.length_erase] at ih;split at ih<;>omega
def Lay.free {M:Nat} {ow:Array (Option Nat)} {hs:List Int} (l:Lay M ow hs) (hl:hs.length<=M):∃ c,c<=M/\own ow c=none:=by
 by_cases z:∃ c,c<=M/\own ow c=none
 ·exact z
 exfalso;have all:∀ c,c<=M->∃ k,ow[c]?=some (some k):=λc hc=>by
  have:=V4 (ow:=ow) (j:=c) (by rw [l.sz];omega);cases q:own ow c with
  |none=>exact absurd ⟨c,hc,q⟩ z
  |some k=>exact ⟨k,by rw [this,q]⟩
 have inj:((List.range (M+1)).map λc=>(own ow c).getD 0).Nodup:=by
  rw [List.nodup_iff_pairwise_ne,List.pairwise_map];refine List.Pairwise.imp_of_mem (R:=(·<·)) (λ{a b} ha hb hab e=>?_) (List.pairwise_lt_range);obtain ⟨k1,h1⟩:=all a (by have:=mem_range.mp ha;omega);obtain ⟨k2,h2⟩:=all b (by have:=mem_range.mp hb;omega);have e1:=V4 (ow:=ow) (j:=a) (by rw [l.sz];have:=mem_range.mp ha;omega);have e2:=V4 (ow:=ow) (j:=b) (by rw [l.sz];have:=mem_range.mp hb;omega);rw [h1] at e1;rw [h2] at e2;rw [← Option.some.inj e1,← Option.some.inj e2] at e;simp only [Option.getD_some] at e;subst e;have:=l.un a b k1 h1 h2;omega
 have sub:∀ x∈((List.range (M+1)).map λc=>(own ow c).getD 0),x∈List.range hs.length:=λx hx=>by
  obtain ⟨c,hc,rfl⟩:=mem_map.mp hx;obtain ⟨k,hk⟩:=all c (by have:=mem_range.mp hc;omega);have e1:=V4 (ow:=ow) (j:=c) (by rw [l.sz];have:=mem_range.mp hc;omega);rw [hk] at e1;rw [← Option.some.inj e1];exact mem_range.mpr (l.lt c k hk)
 have:=pig hs.length _ (λx hx=>mem_range.mp (sub x hx)) inj;simp at this;omega
def Lay.next {M:Nat} {ow:Array (Option Nat)} {hs:List Int} (F:LS M) (l:Lay M ow hs) (hl:hs.length<=M) (h:Int):∃ j,layClean.free M ow (turns M) (bits h%(M+1)) (bits h)=some j/\Lay M (ow.setIfInBounds j (some hs.length)) (hs++[h]):=by
 obtain ⟨c,hc,hf⟩:=l.free hl;obtain ⟨t,ht,e⟩:=F _ (qco M h 13) c hc;obtain ⟨m,m1,m2,m3⟩:=qk5 (M:=M) (h:=h) (ow:=ow) (turns M) 0 0 rfl (λm hm=>absurd hm (Nat.not_lt_zero m)) ⟨13+t,by omega,by unfold turns;omega,by rw [N0,e];exact hf⟩;refine ⟨_,m1,?_⟩;obtain ⟨j,hj⟩:∃ j,j=(pth M h m).j:=⟨_,rfl⟩
 have jl:j<ow.size:=by rw [l.sz,hj];have:=MR (M:=M) (h:=h) (n:=m);omega
 rw [← hj] at m2 ⊢;have gt:∀ i:Nat,(ow.setIfInBounds j (some hs.length))[i]?=if j=i then some (some hs.length) else ow[i]?:=λi=>by
  rw [Array.getElem?_setIfInBounds];by_cases c:j=i
  ·rw [if_pos c,if_pos c,if_pos (by omega)]
  ·rw [if_neg c,if_neg c]
 have jn:ow[j]?=some none:=by rw [V4 jl,m2]
 have on:∀ i,i<=M->own ow i≠none->own (ow.setIfInBounds j (some hs.length)) i≠none:=λi hi hn q=>by
  have s2:(ow.setIfInBounds j (some hs.length)).size=ow.size:=by simp
  have e1:=V4 (ow:=ow.setIfInBounds j (some hs.length)) (j:=i) (by rw [s2,l.sz];omega);rw [gt,q] at e1;split at e1
  ·cases e1
  ·rw [V4 (by rw [l.sz];omega)] at e1;exact hn (Option.some.inj e1)
 refine ⟨by simp [l.sz],λi k hk=>?_,λk hk=>?_,λi i' k h1 h2=>?_,λi k h' h1 h2=>?_⟩
 ·rw [gt] at hk;rw [length_append,List.length_singleton];split at hk
  ·cases hk;omega
  ·have:=l.lt i k hk;omega
 ·rw [length_append,List.length_singleton] at hk;rcases Nat.lt_or_ge k hs.length with z|z
  ·obtain ⟨i,hi⟩:=l.ex k z;refine ⟨i,?_⟩;rw [gt,if_neg (λq=>by rw [← q,jn] at hi;cases hi),hi]
  ·obtain rfl:k=hs.length:=by omega
   exact ⟨j,by rw [gt,if_pos rfl]⟩
 ·rw [gt] at h1 h2;split at h1
  ·rename_i q1;split at h2
   ·rename_i q2;omega
   ·cases h1;have:=l.lt i' _ h2;omega
  ·split at h2
   ·cases h2;have:=l.lt i _ h1;omega
   ·exact l.un i i' k h1 h2
 ·rw [gt] at h1;split at h1
  ·rename_i q;cases h1;rw [List.getElem?_append_right (by omega),Nat.sub_self] at h2;cases h2;exact ⟨m,by rw [← hj,q],λx hx=>on _ MR (m3 x hx)⟩
  ·have kl:=l.lt i k h1;rw [List.getElem?_append_left kl] at h2;obtain ⟨m',w1,w2⟩:=l.wy i k h' h1 h2;exact ⟨m',w1,λx hx=>on _ MR (w2 x hx)⟩
def Lay.start (M:Nat):Lay M (Array.replicate (M+1) none) []:=by
 have g:∀ j k:Nat,¬ (Array.replicate (M+1) (none:Option Nat))[j]?=some (some k):=λj k h=>by
  rw [Array.getElem?_replicate] at h;split at h<;>cases h
 exact ⟨by simp,λj k h=>absurd h (g j k),λk hk=>absurd hk (by simp),λj j' k h=>absurd h (g j k),λj k h q=>absurd q (g j k)⟩
def qbn {M:Nat} (F:LS M):∀ (hs r:List Int) (ow:Array (Option Nat)),Lay M ow r->r.length+hs.length<=M+1 ->
  ∃ ow',hs.foldl (λacc h=>do
   let (owner,k)←acc
   let j←layClean.free M owner (turns M) (bits h%(M+1)) (bits h)
   pure (owner.setIfInBounds j (some k),k+1)) (some (ow,r.length))=some (ow',(r++hs).length)/\Lay M ow' (r++hs)
 |[],r,ow,l,_=>⟨ow,by simp,by simpa using l⟩
 |h::hs,r,ow,l,hl=>by
  rw [length_cons] at hl;obtain ⟨j,h1,h2⟩:=l.next F (by omega) h;have ih:=qbn F hs (r++[h]) _ h2 (by rw [length_append,List.length_singleton];omega);rw [length_append,List.length_singleton,List.append_assoc] at ih;obtain ⟨ow',e1,e2⟩:=ih;refine ⟨ow',?_,e2⟩;rw [List.foldl_cons];simp only [Option.bind_eq_bind,Option.bind_some,h1,Option.pure_def];exact e1
def qiE {M:Nat} (F:LS M) {hs:Array Int} (hl:hs.size<=M+1):∃ ow,layClean M hs=some ow/\Lay M ow hs.toList:=by
 obtain ⟨ow,e1,e2⟩:=qbn F hs.toList [] _ (Lay.start M) (by simpa using hl);refine ⟨ow,?_,by simpa using e2⟩;unfold layClean;rw [← Array.foldl_toList];rw [length_nil] at e1;rw [e1];rfl
def liv (M:Nat) (ow:Array (Option Nat)):List (Nat×Nat):=(List.range (M+1)).filterMap λj=>(ow.getD j none).map (j,·)
def JX {M:Nat} {ow:Array (Option Nat)} {hs:List Int} (l:Lay M ow hs) {j k:Nat}:(j,k)∈liv M ow↔ow[j]?=some (some k):=by
 unfold liv;rw [List.mem_filterMap];constructor
 ·rintro ⟨x,hx,e⟩;obtain ⟨k',e1,e2⟩:=Option.map_eq_some_iff.mp e;cases e2;have:=mem_range.mp hx;have:j<ow.size:=by rw [l.sz];exact this
  have z:ow.getD j none=ow[j]:=by simp [Array.getD,this]
  rw [Array.getElem?_eq_getElem this,← z,e1]
 ·intro e;obtain ⟨h1,h2⟩:=Array.getElem?_eq_some_iff.mp e;refine ⟨j,mem_range.mpr (by rw [← l.sz];exact h1),?_⟩;have z:ow.getD j none=ow[j]:=by simp [Array.getD,h1]
  rw [z,h2];rfl
def qdY (M:Nat) (ow:Array (Option Nat)):((liv M ow).map (·.1)).Pairwise (·<·):=by
 unfold liv;rw [List.pairwise_map,List.pairwise_filterMap];refine List.Pairwise.imp (λ{a b} hab x hx y hy=>?_) List.pairwise_lt_range;obtain ⟨_,_,rfl⟩:=Option.map_eq_some_iff.mp hx;obtain ⟨_,_,rfl⟩:=Option.map_eq_some_iff.mp hy;exact hab
def qmI {l:List Nat} (h:l.Pairwise (·<·)):Up l.toArray:=by
 intro a b hab hb;have hb':b<l.length:=by simpa using hb
 have:=List.pairwise_iff_getElem.mp h a b (by omega) hb' hab;simpa [Array.getD,hb',show a<l.length by omega] using this
def TB {M:Nat} {ow:Array (Option Nat)} {hs:List Int} (l:Lay M ow hs):((liv M ow).map (·.2)).Perm (List.range hs.length):=by
 have nd:((liv M ow).map (·.2)).Nodup:=by
  rw [List.nodup_iff_pairwise_ne,List.pairwise_map];have u:=qdY M ow;rw [List.pairwise_map] at u;refine List.Pairwise.imp_of_mem (λ{a b} ha hb hab e=>?_) u;obtain ⟨a1,a2⟩:=a;obtain ⟨b1,b2⟩:=b;simp only at e hab;subst e;have:=l.un a1 b1 a2 ((JX l).mp ha) ((JX l).mp hb);omega
 refine (List.perm_ext_iff_of_nodup nd List.nodup_range).mpr λk=>?_;rw [mem_range,mem_map];constructor
 ·rintro ⟨⟨j,k'⟩,hq,rfl⟩;exact l.lt j _ ((JX l).mp hq)
 ·intro hk;obtain ⟨j,hj⟩:=l.ex k hk;exact ⟨(j,k),(JX l).mpr hj,rfl⟩
def qe1 {M f mv:Nat} {led pl:Bool} {ow:Array (Option Nat)} {hs:List Int} (F:LS M) (od:M%2=1) (l:Lay M ow hs) (hl:hs.length<=M) :
  Ok8 { mask:=M,place:=((liv M ow).map (·.1)).toArray,dummies:=#[],finger:=f,led:=led,moves:=mv,plain:=pl } (((liv M ow).map (·.2)).map λk=>hs.getD k 0):=by
 have pm:=TB l;have ll:(liv M ow).length=hs.length:=by have:=pm.length_eq;simpa using this
 have up:Up ((liv M ow).map (·.1)).toArray:=qmI (qdY M ow);have at_:∀ (i j:Nat),((liv M ow).map (·.1)).toArray[i]?=some j->∃ k,(liv M ow)[i]?=some (j,k):=λi j h=>by
  rw [LR,getElem?_map] at h;obtain ⟨⟨a,b⟩,e1,e2⟩:=Option.map_eq_some_iff.mp h;exact ⟨b,by rw [e1];simp only at e2;rw [e2]⟩
 refine ⟨up,rfl,by simp [ll],by simp [ll];exact hl,λi j h=>?_,F,od,λi j h h1 h2=>?_⟩
 ·obtain ⟨k,hk⟩:=at_ i j h;have:=(JX l).mp (mem_of_getElem? hk);have:=(Array.getElem?_eq_some_iff.mp this).1;rw [l.sz] at this;simp only;omega
 ·obtain ⟨k,hk⟩:=at_ i j h1;have o1:=(JX l).mp (mem_of_getElem? hk);rw [getElem?_map,getElem?_map,hk] at h2;simp only [Option.map_some,Option.some.injEq] at h2;have kl:=l.lt j k o1;obtain ⟨m,m1,m2⟩:=l.wy j k h o1 (by rw [← h2,getD_eq_getElem?_getD,getElem?_eq_getElem kl];rfl);refine ⟨m,m1,λx hx=>?_⟩;have n1:=m2 x hx;have jl:(pth M h x).j<ow.size:=by rw [l.sz];have:=MR (M:=M) (h:=h) (n:=x);omega
  cases q:own ow (pth M h x).j with
  |none=>exact absurd q n1
  |some k'=>
   have o2:ow[(pth M h x).j]?=some (some k'):=by rw [V4 jl,q]
   obtain ⟨i',hi'⟩:=List.mem_iff_getElem?.mp ((JX l).mpr o2);have:((liv M ow).map (·.1)).toArray[i']?=some (pth M h x).j:=by rw [LR,getElem?_map,hi'];rfl
   rw [YB (t:={ mask:=M,place:=((liv M ow).map (·.1)).toArray,dummies:=#[],finger:=f,led:=led,moves:=mv,plain:=pl }) up this];exact λz=>by cases z
def qfx {t:SetTable} {hs:Array Int} {n M:Nat} (hM:sizeAbove n-1=M) (F:LS M) (od:M%2=1) (hl:hs.size<=M) :
  ∃ t' ord,t.relaid hs n=some (t',ord)/\ord.toList.Perm (List.range hs.size)/\Ok8 t' (ord.toList.map λk=>hs.toList.getD k 0)/\t'.mask=M:=by
 obtain ⟨ow,e1,e2⟩:=qiE F (hs:=hs) (by omega);refine ⟨{ mask:=M,place:=((liv M ow).map (·.1)).toArray,dummies:=#[],finger:=t.finger,led:=t.led,moves:=t.movedTo M,plain:=t.plain },((liv M ow).map (·.2)).toArray,?_,?_,?_,rfl⟩
 ·unfold SetTable.relaid SetTable.laid;rw [hM,e1];rfl
 ·have:=TB e2;simpa using this
 ·exact qe1 F od e2 (by simpa using hl)
end Tb8
namespace Tb8
open PySem PyProof.Rows PySem.SetTable
section
variable {prog:Program} {w:World} {A:Around} {E:Value->Shared->Prop} {s:Shared}
def IsP.other {h h':Heap} {S a:Addr} {k:List Int} (p:IsP prog w h k a) (n:a≠S) (sb:Heap.SameBut S h h'):IsP prog w h' k a:=by
 obtain ⟨o,items,m,ho,r⟩:=p;exact ⟨o,items,m,(sb.2 a n).trans ho,r⟩
def PS.ne {h:Heap} {S:Addr} {en:List (List Int×Addr)} {o:Obj} {es:Array (Int×Value)} {ep:Nat} {t:SetTable} (p:PS prog w h S en o es ep t) {k:List Int} {a:Addr} (hk:IsP prog w h k a):a≠S:=by
 rintro rfl;obtain ⟨o',items,m,ho,hc,_⟩:=hk;obtain rfl:o'=o:=Option.some.inj (ho.symm.trans p.ho);have z:=hc.symm.trans p.hc.1;injection z with z;exact absurd z (by decide)
def PS.store {h:Heap} {S:Addr} {en en':List (List Int×Addr)} {o:Obj} {es es':Array (Int×Value)} {ep:Nat} {t t':SetTable} (p:PS prog w h S en o es ep t) (he:es'.toList=en'.map (ent prog w)) (hP:∀ q∈en',IsP prog w h q.1 q.2) (ok:Ok8 t' (en'.map λq=>hsh prog w q.1)) (nd:(en'.map (·.1)).Nodup) :
  ∃ o',PS prog w (h.update S (Obj.putSet es' t')) S en' o' es' (ep+1) t':=by
 have hp:Obj.putSet es' t' o={ o with data:=.set es' (ep+1) t' }:=by
  obtain ⟨c,d,da,sl⟩:=o;have hd:da=.set es ep t:=p.hd;subst hd;rfl
 have hg:(h.update S (Obj.putSet es' t')).get? S=some { o with data:=.set es' (ep+1) t' }:=by
  have:=Heap.get?_update_self (Obj.putSet es' t') p.ho (by rw [hp];rfl);rw [hp] at this;exact this
 exact ⟨_,hg,p.hc,rfl,he,λq hq=>(hP q hq).other (p.ne (hP q hq)) (.update ..),ok,nd⟩
def W9 {α β:Type} {l:List α} {f:α->β} {g:α->Option β}:(∀ x∈l,g x=some (f x))->l.filterMap g=l.map f:=by
 induction l with
 |nil=>intro _;rfl
 |cons x r ih=>
  intro h;rw [List.filterMap_cons,h x (by simp),map_cons,ih λy hy=>h y (by simp [hy])]
def qaW {S:Addr} {en:List (List Int×Addr)} {o:Obj} {es:Array (Int×Value)} {ep:Nat} {t:SetTable} {n M:Nat} {Q:Unit->Shared->Prop} (p:PS prog w s.heap S en o es ep t) (hM:sizeAbove n-1=M) (hs:sizeAbove n<=1000) (F:LS M) (od:M%2=1) (hl:en.length<=M)
  (h:∀ h' en' o' es' ep' t',PS prog w h' S en' o' es' ep' t'->t'.mask=M->en'.Perm en->Heap.SameBut S s.heap h'->Q () { s with heap:=h' }):wpAny (model prog w) A (setRelay S n) Q E s:=by
 have sz:=p.sz;obtain ⟨t',ord,e1,e2,e3,e4⟩:=qfx (t:=t) (hs:=es.map (·.1)) hM F od (by simpa [sz] using hl);have e2':ord.toList.Perm (List.range en.length):=by simpa [sz] using e2
 obtain ⟨g,hg⟩:∃ g:Nat->List Int×Addr,g=λk=>en.getD k ([],0):=⟨_,rfl⟩
 have gl:∀ k∈ord.toList,k<en.length:=λk hk=>mem_range.mp (e2'.mem_iff.mp hk);have ga:∀ k,k<en.length->en[k]?=some (g k):=λk hk=>by rw [hg];simp [getD_eq_getElem?_getD,getElem?_eq_getElem hk]
 have pm:(ord.toList.map g).Perm en:=by
  refine (e2'.map g).trans ?_;have:(List.range en.length).map g=en:=by
   refine List.ext_getElem? λi=>?_;rw [getElem?_map];by_cases c:i<en.length
   ·rw [List.getElem?_range c,ga i c];rfl
   ·rw [List.getElem?_eq_none (by simpa using c),List.getElem?_eq_none (by simpa using c)];rfl
  rw [this]
 obtain ⟨es',he'⟩:∃ es',es'=ord.filterMap (es[·]?):=⟨_,rfl⟩
 have hes:es'.toList=(ord.toList.map g).map (ent prog w):=by
  rw [he',Array.toList_filterMap,map_map];exact W9 λk hk=>by rw [p.at_,ga k (gl k hk)];rfl
 have es'z:es'.size=es.size:=by
  rw [← Array.length_toList,hes,length_map,pm.length_eq,sz]
 have ok:Ok8 t' ((ord.toList.map g).map λq=>hsh prog w q.1):=by
  have:((ord.toList.map g).map λq=>hsh prog w q.1)=ord.toList.map λk=>((es.map (·.1)).toList).getD k 0:=by
   rw [map_map];refine List.map_congr_left λk hk=>?_;rw [Array.toList_map,p.he,map_map,getD_eq_getElem?_getD,getElem?_map,ga k (gl k hk)];rfl
  rw [this];exact e3
 obtain ⟨o',q⟩:=p.store (en':=ord.toList.map g) hes (λq hq=>p.hP q (pm.mem_iff.mp hq)) ok ((pm.map _).nodup_iff.mpr p.nd);unfold setRelay;refine wpAny_bind (wpAny_setState_of p.ho p.hd p.fits ?_);dsimp only;rw [if_neg (by rw [sizeLine_eq];omega)];refine wpAny_bind ?_;rw [e1];show wpAny (model prog w) A (do
  if (ord.filterMap (es[·]?)).size != es.size then unsupported "internal:set-table-lost-an-element"
  pure (ord.filterMap (es[·]?),t')) _ E s
 rw [← he',es'z];simp only [bne_self_eq_false,Bool.false_eq_true,if_false];refine wpAny_bind (wpAny_pure ?_);refine wpAny_pure ?_;refine wpAny_storeSet_of p.ho p.hd ?_ (by rw [es'z,sz,sizeLine_eq];omega);exact h _ _ _ _ _ _ q e4 pm (.update ..)
def Gd (t:SetTable) (n:Nat):Prop:=(t.mask=7/\n<=4)\/(t.mask=31/\n<=18)\/(t.mask=127/\n<=76)\/(t.mask=511/\n<=306)
def qpi {S a:Addr} {en:List (List Int×Addr)} {o:Obj} {es:Array (Int×Value)} {ep:Nat} {t:SetTable} {k:List Int} {Q:Bool->Shared->Prop} (hu:A.units<cLine) (p:PS prog w s.heap S en o es ep t) (g:Gd t en.length) (hn:en.length<306) (hk:IsP prog w s.heap k a)
  (h:∀ b h' en' o' es' ep' t',PS prog w h' S en' o' es' ep' t'->Gd t' en'.length->(∀ q∈en',q∈en\/q=(k,a))->(∀ x,x∈en'.map (·.1)↔x∈en.map (·.1)\/x=k)->(k∈en.map (·.1)->en'.length=en.length)->(k∉en.map (·.1)->en'.length=en.length+1)->Heap.SameBut S s.heap h'->Q b { s with heap:=h' }) :
  wpAny (model prog w) A (setAddHashed S (.ref a) (hsh prog w k)) Q E s:=by
 obtain ⟨e,e0,e1,e2⟩:=LZ (t:=t) (h:=hsh prog w k) p.ok.fu p.ok.up p.ok.dm (by have:=p.ok.sz;have:=p.ok.fl;simp at *;omega);have tm:t.mask<=511:=by rcases g with g|g|g|g<;>omega
 unfold setAddHashed;refine wpAny_holding ?_;unfold setAddHashedIn;refine wpAny_bind (wpAny_setState_of p.ho p.hd p.fits ?_);have bs:byScan (.ref a) es=false:=rfl;simp only [bs,Bool.false_eq_true,if_false];unfold setSearch;refine wpAny_bind (qf5 (e:=e) hu p hk e0 e1 e2 (λhin=>?_) (λhin=>?_) e 0 100000 none (by omega) (Nat.zero_le _) (by unfold turns at e0;omega) rfl λm hm=>absurd hm (Nat.not_lt_zero m))
 ·exact wpAny_pure (h _ s.heap en o es ep t p g (λq hq=>.inl hq) (λx=>⟨.inl,λz=>z.elim id λz=>z▸hin⟩) (λ_=>rfl) (λz=>absurd hin z) (.refl ..))
 simp only;refine wpAny_bind (wpAny_setState_of p.ho p.hd p.fits ?_);obtain ⟨j,hj⟩:∃ j,j=(pth t.mask (hsh prog w k) e).j:=⟨_,rfl⟩
 rw [← hj] at e1 ⊢;obtain ⟨pl,ok1,mk1⟩:=p.ok.put (h:=hsh prog w k) e1 (by rw [hj];exact MR) (by rcases g with g|g|g|g<;>(rw [length_map];omega)) ⟨e,hj.symm,λm hm=>e2 m hm⟩;simp only;generalize ht1:(t.put j).1=t1 at *;generalize hp1:(t.put j).2=pp at *;rw [length_map] at pl;have sz:=p.sz;have hes:(insertAt es pp (hsh prog w k,.ref a)).toList=(ins en pp (k,a)).map (ent prog w):=by
  rw [YT _ _ _ (by rw [sz];exact pl),p.he];unfold ins;rw [List.map_append,map_cons,List.map_take,List.map_drop];rfl
 have hhs:(ins en pp (k,a)).map (λq=>hsh prog w q.1)=ins (en.map λq=>hsh prog w q.1) pp (hsh prog w k):=by
  unfold ins;rw [List.map_append,map_cons,List.map_take,List.map_drop]
 have pm:(ins en pp (k,a)).Perm ((k,a)::en):=by
  unfold ins;refine List.perm_middle.trans ?_;rw [List.take_append_drop]
 have il:(ins en pp (k,a)).length=en.length+1:=WW pl;have hP:∀ q∈ins en pp (k,a),IsP prog w s.heap q.1 q.2:=λq hq=>by
  rcases mem_cons.mp (pm.mem_iff.mp hq) with rfl|z
  ·exact hk
  ·exact p.hP q z
 have nd:((ins en pp (k,a)).map (·.1)).Nodup:=by
  rw [(pm.map _).nodup_iff,map_cons,List.nodup_cons];exact ⟨hin,p.nd⟩
 have sub:∀ q∈ins en pp (k,a),q∈en\/q=(k,a):=λq hq=>(mem_cons.mp (pm.mem_iff.mp hq)).elim .inr .inl;have mem:∀ x,x∈(ins en pp (k,a)).map (·.1)↔x∈en.map (·.1)\/x=k:=λx=>by
  rw [(pm.map _).mem_iff,map_cons,mem_cons];exact ⟨λz=>z.elim .inr .inl,λz=>z.elim .inr .inl⟩
 have main:∀ pl:Bool,wpAny (model prog w) A (do
   storeSet S (insertAt es pp (hsh prog w k,.ref a)) { t1 with plain:=pl }
   if (!false&&({ t1 with plain:=pl }:SetTable).tooFull)=true then setRelay S (grown (es.size+1))
   pure true) Q E s:=λb=>by
  have ok2:Ok8 { t1 with plain:=b } ((ins en pp (k,a)).map λq=>hsh prog w q.1):=by
   rw [hhs];exact ⟨ok1.up,ok1.dm,ok1.sz,ok1.fl,ok1.le,ok1.fu,ok1.od,ok1.wy⟩
  obtain ⟨o',q⟩:=p.store (t':={ t1 with plain:=b }) hes hP ok2 nd;have iz:(insertAt es pp (hsh prog w k,.ref a)).size=en.length+1:=by rw [← Array.length_toList,hes,length_map,il]
  refine wpAny_bind (wpAny_storeSet_of p.ho p.hd ?_ (by rw [iz,sizeLine_eq];omega));have fl:({ t1 with plain:=b }:SetTable).fill=en.length+1:=by
   have z:=ok2.sz;rw [length_map,il] at z;unfold SetTable.fill;rw [ok2.dm,z];rfl
  have tf:({ t1 with plain:=b }:SetTable).tooFull=decide ((en.length+1)*5 ≥ t.mask*3):=by
   unfold SetTable.tooFull;rw [fl,show ({ t1 with plain:=b }:SetTable).mask=t.mask from mk1]
  rw [tf];by_cases c:(en.length+1)*5 ≥ t.mask*3
  ·rw [decide_eq_true c];simp only [Bool.not_false,Bool.and_self,if_true];have n5:(en.length=4/\t.mask=7)\/(en.length=18/\t.mask=31)\/(en.length=76/\t.mask=127):=by rcases g with g|g|g|g<;>omega
   rcases n5 with n5|n5|n5
   rotate_left
   ·have hM:sizeAbove (grown (es.size+1))-1=127:=by rw [sz,n5.1];rfl
    have hM2:sizeAbove (grown (es.size+1))<=1000:=by rw [sz,n5.1];decide
    refine wpAny_bind (qaW (s:={ s with heap:=s.heap.update S (Obj.putSet (insertAt es pp (hsh prog w k,.ref a)) { t1 with plain:=b }) }) q hM hM2 qgi rfl (by rw [il];omega) λh' en' o'' es'' ep'' t'' q' mk pe sb=>?_);refine wpAny_pure (h _ h' en' o'' es'' ep'' t'' q' (.inr (.inr (.inl ⟨mk,by rw [pe.length_eq,il];omega⟩))) (λq hq=>sub q (pe.mem_iff.mp hq)) (λx=>by rw [(pe.map _).mem_iff];exact mem x) (λz=>absurd z hin) (λ_=>by rw [pe.length_eq,il]) (.trans (.update ..) sb))
   ·have hM:sizeAbove (grown (es.size+1))-1=511:=by rw [sz,n5.1];rfl
    have hM2:sizeAbove (grown (es.size+1))<=1000:=by rw [sz,n5.1];decide
    refine wpAny_bind (qaW (s:={ s with heap:=s.heap.update S (Obj.putSet (insertAt es pp (hsh prog w k,.ref a)) { t1 with plain:=b }) }) q hM hM2 qgo rfl (by rw [il];omega) λh' en' o'' es'' ep'' t'' q' mk pe sb=>?_);refine wpAny_pure (h _ h' en' o'' es'' ep'' t'' q' (.inr (.inr (.inr ⟨mk,by rw [pe.length_eq,il];omega⟩))) (λq hq=>sub q (pe.mem_iff.mp hq)) (λx=>by rw [(pe.map _).mem_iff];exact mem x) (λz=>absurd z hin) (λ_=>by rw [pe.length_eq,il]) (.trans (.update ..) sb))
   have hM:sizeAbove (grown (es.size+1))-1=31:=by rw [sz,n5.1];rfl
   have hM2:sizeAbove (grown (es.size+1))<=1000:=by rw [sz,n5.1];decide
   refine wpAny_bind (qaW (s:={ s with heap:=s.heap.update S (Obj.putSet (insertAt es pp (hsh prog w k,.ref a)) { t1 with plain:=b }) }) q hM hM2 qjt rfl (by rw [il];omega) λh' en' o'' es'' ep'' t'' q' mk pe sb=>?_);refine wpAny_pure (h _ h' en' o'' es'' ep'' t'' q' (.inr (.inl ⟨mk,by rw [pe.length_eq,il];omega⟩)) (λq hq=>sub q (pe.mem_iff.mp hq)) (λx=>by rw [(pe.map _).mem_iff];exact mem x) (λz=>absurd z hin) (λ_=>by rw [pe.length_eq,il]) (.trans (.update ..) sb))
  ·rw [decide_eq_false c];simp only [Bool.not_false,Bool.and_false,Bool.false_eq_true,if_false];refine wpAny_bind (wpAny_pure (wpAny_pure ?_));refine h _ _ _ _ _ _ _ q ?_ sub mem (λz=>absurd z hin) (λ_=>il) (.update ..);have mk2:({ t1 with plain:=b }:SetTable).mask=t.mask:=mk1;unfold Gd;rw [mk2,il];rcases g with g|g|g|g<;>omega
 refine wpAny_ite ?_;split
 ·refine wpAny_bind (qpE hk λb=>?_);cases b with
  |true=>
   simp only [if_true];exact main t1.plain
  |false=>
   simp only [Bool.false_eq_true,if_false];exact main false
 ·refine wpAny_bind (wpAny_pure ?_);simp only [if_true];exact main t1.plain
end
def cnt (key:Nat->List Int):Nat->Nat
 |0=>0
 |j+1=>if ∃ i,i<j/\key i=key j then cnt key j else cnt key j+1
def T5 (key:Nat->List Int):∀ j,cnt key j<=j
 |0=>Nat.le_refl _
 |j+1=>by
  have:=T5 key j;unfold cnt;split<;>omega
def qea (prog:Program) (w:World) (h:Heap) (S:Addr) (n:Nat):Prop:=∃ en o es ep t,PS prog w h S en o es ep t/\en.length=n
section
variable {prog:Program} {w:World} {A:Around} {R:Result->Shared->Prop} {I:Addr} {fp wr:List Addr} {n:Nat} {P:Nat->Value->Prop} {St:Nat->Heap->Prop}
def PS.keep {h h':Heap} {S:Addr} {en:List (List Int×Addr)} {o:Obj} {es:Array (Int×Value)} {ep:Nat} {t:SetTable} (p:PS prog w h S en o es ep t) (k:h'.get? S=some o) (ki:∀ q∈en,IsP prog w h' q.1 q.2):PS prog w h' S en o es ep t:=⟨k,p.hc,p.hd,p.he,ki,p.ok,p.nd⟩
def IsP.keep {h h':Heap} {k:List Int} {a:Addr} (p:IsP prog w h k a) (hk:∀ o,h.get? a=some o->h'.get? a=some o):IsP prog w h' k a:=by
 obtain ⟨o,items,m,ho,r⟩:=p;exact ⟨o,items,m,hk o ho,r⟩
def qnL (W:Walks prog w A.in1 I fp wr n P St) (key:Nat->List Int) (ad:Nat->Addr) (hval:∀ i v,P i v->v=.ref (ad i)) (S:Addr) (hSf:S∉fp) (hu:A.in1.units<cLine) (hn:n<=306) (had:∀ i,i<n->ad i∉wr) :
  ∀ (k j:Nat) (s:Shared) (en:List (List Int×Addr)) (o:Obj) (es:Array (Int×Value)) (ep:Nat) (t:SetTable),n-j=k->j<=n->St j s.heap->PS prog w s.heap S en o es ep t->Gd t en.length->(∀ q∈en,q.2∉wr) ->
  (∀ x,x∈en.map (·.1)↔∃ i,i<j/\key i=x)->en.length=cnt key j->(∀ i,i<n->IsP prog w s.heap (key i) (ad i)) ->
  (∀ h' tk,qea prog w h' S (cnt key n)->(∀ b o,b∉wr->b≠S->s.heap.get? b=some o->h'.get? b=some o)->R (.ok (.ret .none)) { s with heap:=h',toks:=tk }) ->
  codeAny (model prog w) A (.builtin "set.update.loop" ⟨[.ref S,.ref I],[]⟩) R s:=by
 have hSw:S∉wr:=λh=>hSf (W.sub _ h);intro k;induction k with
 |zero=>
  intro j s en o es ep t hk hj hst p g hw hm hc hP hR;obtain rfl:j=n:=by omega
  refine codeAny_builtin F.entry_set_update_loop ?_;rw [Around.under_plainId F.plain_set_update_loop _];show wpAny _ A.in1 (pyNext (.ref I) >>= _) _ _ s;refine wpAny_bind (W.done s _ _ hst λh' tk kp=>?_);show wpAny _ A.in1 (ret Value.none) _ _ _;exact wpAny_pure (hR h' tk ⟨en,o,es,ep,t,p.keep (kp S _ hSw p.ho) (λq hq=>(p.hP q hq).keep λo e=>kp _ o (hw q hq) e),hc⟩ λb o hb _ e=>kp b o hb e)
 |succ k ih=>
  intro j s en o es ep t hk hj hst p g hw hm hc hP hR;have lt:j<n:=by omega
  refine codeAny_builtin F.entry_set_update_loop ?_;rw [Around.under_plainId F.plain_set_update_loop _];show wpAny _ A.in1 (pyNext (.ref I) >>= _) _ _ s;refine wpAny_bind (W.item j s _ _ lt hst λv h' tk hv hst' kp=>?_);obtain rfl:=hval j v hv;have p':PS prog w h' S en o es ep t:=p.keep (kp S _ hSw p.ho) (λq hq=>(p.hP q hq).keep λo e=>kp _ o (hw q hq) e);have hP':∀ i,i<n->IsP prog w h' (key i) (ad i):=λi hi=>(hP i hi).keep λo e=>kp _ o (had i hi) e;show wpAny _ A.in1 (holding [Value.ref (ad j)] (setAdd S (.ref (ad j))) >>= _) _ _ _;refine wpAny_bind (wpAny_holding ?_);unfold setAdd;refine wpAny_holding ?_;refine wpAny_bind (wpAny_pyHash_tuple hu (hP' j lt) ?_);refine qpi (s:={ s with heap:=h',toks:=tk+((key j).length+1) }) hu p' g (by have:=T5 key j;omega) (hP' j lt) λb h'' en' o' es' ep' t' q g' sub mem l1 l2 sb=>?_;refine wpAny_pure ⟨plainId_quiet F.plain_set_update_loop _,ih (j+1) _ en' o' es' ep' t' (by omega) lt (W.frame _ _ _ hst' λb hb o e=>?_) q g' ?_ (λx=>?_) ?_ (λi hi=>?_) λh3 tk3 hS3 kp3=>?_⟩
  ·exact (sb.2 b (λz:b=S=>hSf (by rw [← z];exact hb))).trans e
  ·intro q' hq';rcases sub q' hq' with z|rfl
   ·exact hw q' z
   ·exact had j lt
  ·rw [mem,hm];constructor
   ·rintro (⟨i,h1,h2⟩|rfl)
    ·exact ⟨i,by omega,h2⟩
    ·exact ⟨j,by omega,rfl⟩
   ·rintro ⟨i,h1,h2⟩;rcases Nat.lt_or_ge i j with z|z
    ·exact .inl ⟨i,z,h2⟩
    ·obtain rfl:i=j:=by omega
     exact .inr h2.symm
  ·unfold cnt;split
   ·rename_i c;rw [l1 ((hm _).mpr c),hc]
   ·rename_i c;rw [l2 (λz=>c ((hm _).mp z)),hc]
  ·exact (hP' i hi).other (p'.ne (hP' i hi)) sb
  ·exact hR h3 tk3 hS3 λb o hb hbS e=>kp3 b o hb hbS ((sb.2 b hbS).trans (kp b o hb e))
end
section
variable {prog:Program} {w:World} {A:Around} {E:Value->Shared->Prop} {s:Shared}
structure Tt (prog:Program) (w:World) (h:Heap) (l:Addr) (vs:Array Value) (key:Nat->List Int) (ad:Nat->Addr):Prop where
 tu:h.IsTuple l vs
 at_:∀ (i:Nat) v,vs[i]?=some v->v=.ref (ad i)
 is:∀ i,i<vs.size->IsP prog w h (key i) (ad i)
def Tt.lt {h:Heap} {l:Addr} {vs:Array Value} {key:Nat->List Int} {ad:Nat->Addr} (T:Tt prog w h l vs key ad) {i:Nat} (hi:i<vs.size):ad i<h.objs.size:=by
 obtain ⟨o,_,_,e,_⟩:=T.is i hi;exact Heap.lt_size e
def qnn {l:Addr} {vs:Array Value} {key:Nat->List Int} {ad:Nat->Addr} {led:Bool} {Q:PySem.Fin->Shared->Prop} {E':Value->Shared->Prop} (hh:A.handled=none) (hu:A.in1.units<cLine) (T:Tt prog w s.heap l vs key ad) (hb:vs.size<=306)
  (h:∀ h' tk,qea prog w h' s.heap.objs.size (cnt key vs.size)->(∀ b o,b<s.heap.objs.size->s.heap.get? b=some o->h'.get? b=some o)->wpAny (model prog w) A (ret Value.none) Q E' { s with heap:=h',toks:=tk }) :
  wpAny (model prog w) A (Builtin.«set.__init__» ⟨[.ref s.heap.objs.size,.ref l],[]⟩) Q E' { s with heap:=s.heap.push (HT.oS led) }:=by
 obtain ⟨⟨oc,od,da,os⟩,hg,hc,nl,hd⟩:=id T.tu;simp only at hc hd;subst hc hd;have hS:(s.heap.push (HT.oS led)).get? s.heap.objs.size=some (HT.oS led):=Heap.get?_push_size _ rfl;have hg':(s.heap.push (HT.oS led)).get? l=some { cls:=.type "tuple",dict:=od,data:=.seq vs nl,slots:=os }:=Heap.get?_push_of_some _ hg;have h1:=F.sub_tuple_set;have h2:=F.sub_tuple_frozenset;have ne:(Value.type "tuple" == Value.type "dict")=false:=by decide
 have hl1:=T.tu.push (HT.oS led);unfold Builtin.«set.__init__» noKeywords Builtin.Frozenset.updateFrom;generalize hPI:pyIter=PI
 wp_walk
 subst hPI;refine wpAny_pyIter_tuple hl1 ?_;refine wpAny_bind (wpAny_runValue ?_);have ll:l<s.heap.objs.size:=Heap.lt_size hg;have sz:(s.heap.push (HT.oS led)).objs.size=s.heap.objs.size+1:=Heap.size_push ..;refine qnL (Walks.tuple (show A.in1.handled=none by simp [hh]) (s.heap.push (HT.oS led)).objs.size l (by rw [sz];exact Nat.ne_of_lt (Nat.lt_succ_of_lt ll)) vs) key ad T.at_ s.heap.objs.size
  (by rw [sz];simp only [mem_cons,not_mem_nil,or_false,not_or];exact ⟨Nat.ne_of_lt (Nat.lt_succ_self _),Nat.ne_of_gt ll⟩) hu hb (λi hi=>?_) vs.size 0 _ [] (HT.oS led) #[] 0 (.fresh 0 0 led) rfl (Nat.zero_le _) ⟨⟨_,Heap.get?_push_size _ rfl,rfl,rfl⟩,hl1.push _⟩ ?_ (.inl ⟨rfl,Nat.zero_le _⟩) (λq hq=>by cases hq) (λx=>?_) rfl (λi hi=>?_) ?_
 ·rw [sz];simp only [mem_cons,not_mem_nil,or_false];exact Nat.ne_of_lt (Nat.lt_succ_of_lt (T.lt hi))
 ·exact ⟨Heap.get?_push_of_some _ hS,⟨rfl,rfl,rfl⟩,rfl,rfl,λq hq=>(by cases hq),Ok8.fresh ..,by simp⟩
 ·simp
 ·exact (T.is i hi).keep λo e=>Heap.get?_push_of_some _ (Heap.get?_push_of_some _ e)
 ·intro h' tk hS' kp;show wpAny _ _ _ _ _ _;refine wpAny_pure (h h' tk hS' λb o hb e=>kp b o ?_ ?_ (Heap.get?_push_of_some _ (Heap.get?_push_of_some _ e)))
  ·rw [sz];simp only [mem_cons,not_mem_nil,or_false];exact Nat.ne_of_lt (Nat.lt_succ_of_lt hb)
  ·exact Nat.ne_of_lt hb
def ML {l:Addr} {vs:Array Value} {key:Nat->List Int} {ad:Nat->Addr} {Q:Value->Shared->Prop} (hh:A.handled=none) (hu:A.units+8<cLine) (T:Tt prog w s.heap l vs key ad) (hb:vs.size<=306)
  (h:∀ h' tk,qea prog w h' s.heap.objs.size (cnt key vs.size)->(∀ b o,b<s.heap.objs.size->s.heap.get? b=some o->h'.get? b=some o)->Q (.ref s.heap.objs.size) { s with heap:=h',toks:=tk }) :
  wpAny (model prog w) A (call (.type "set") [.ref l]) Q E s:=by
 have C:=F.called_set;obtain ⟨c,tl,m1⟩:=C.mro;have m2:=C.made;have m3:=C.sub;have m4:=C.notType;have m5:=C.canCreate;have m6:=F.typeCall_set_1 (.ref l);refine wpAny_call (codeAny_of_tree ?_);show wpAny _ _ (callAny (.type "set") _) _ _ _;refine wpAny_pure ⟨Code.quiet_builtin _ (by decide +kernel),codeAny_builtin F.entry_type_call ?_⟩;rw [Around.under_plain (weight_type_call_type "set" [.ref l] []) rfl]
 repeat (any_goals (first|assumption|wp_step))
 refine codeAny_mono (code_set_new_1 (.ref l) (E:=E) (Q₁:=λv s₁=>∃ led,v=.ref s.heap.objs.size/\s₁={ s with heap:=s.heap.push (HT.oS led) }) λled=>⟨led,rfl,rfl⟩) λr s₁ hr=>?_;rcases r with e|f
 ·exact hr
 cases f<;>try exact hr.elim
 obtain ⟨led,rfl,rfl⟩:=hr;have hT:Shared.TypeIs { s with heap:=s.heap.push (HT.oS led) } (.ref s.heap.objs.size) "set" := ⟨_,Heap.get?_push_size _ rfl,rfl⟩
 have n1:=C.init.lookup;have n2:=C.init.bind (.ref s.heap.objs.size)
 repeat (any_goals (first|assumption|wp_step))
 refine codeAny_mono (codeAny_call_builtin (R:=wants (λr s₂=>r=.none/\∃ h' tk,s₂={ s with heap:=h',toks:=tk }/\qea prog w h' s.heap.objs.size (cnt key vs.size)/\∀ b o,b<s.heap.objs.size->s.heap.get? b=some o->h'.get? b=some o) E) C.init.plain F.entry_set_init (check_set_init_1 hT (qnn (by simp [hh]) (by simp;omega) T hb λh' tk hS hk=>wpAny_pure ⟨rfl,h',tk,rfl,hS,hk⟩))) λr₂ s₂ hr₂=>?_;rcases r₂ with e|f
 ·exact hr₂
 cases f<;>try exact hr₂.elim
 obtain ⟨rfl,h',tk,rfl,hS,hk⟩:=hr₂
 repeat (any_goals (first|assumption|wp_step))
 exact h _ _ hS hk
def qaJ {S:Addr} {n:Nat} {Q:Value->Shared->Prop} (p:qea prog w s.heap S n) (hn:n<=1000) (h:Q (.int n (s.toks+1)) { s with toks:=s.toks+1+1 }):wpAny (model prog w) A (call (.builtin "len") [.ref S]) Q E s:=by
 obtain ⟨en,o,es,ep,t,q,e⟩:=p;refine call_len_set q.ho q.hc q.hd q.fits (by rw [q.sz];omega) ?_;rw [q.sz,e];exact h
end
end Tb8
namespace L3
open PySem PySem.Spec PyProof.Rows L2
section
variable {X:Cx}
inductive Tks (K:Frg) (H:Hp):List V->List (List Int)->Prop
 |nil:Tks K H [] []
 |cons {a:Addr} {k:List Int} {vs:List V} {ks:List (List Int)}:SqT K H a (k.map V.int)->Tks K H vs ks->Tks K H (.ref a::vs) (k::ks)
def kAt (ks:List (List Int)) (i:Nat):List Int:=ks.getD i []
def T3 {prog:Program} {w:World}:∀ {k:List Int} {its:List Value},zx (k.map V.int) its->ItemsAre (intKind prog w) k its
 |[],_,r=>by cases r;exact .nil
 |i::k,_,r=>by
  cases r with
  |cons a b=>
   obtain ⟨t,rfl⟩:=a;exact .cons (intKind_is ..) (T3 b)
def qin {pins:List (Addr×Obj)} {σ:L2.St} {H:Hp} {s:Shared} (I:Inv X pins σ H s) {a:Addr}:∀ {vs:List V} {ks:List (List Int)} {its:List Value},Tks X.K H vs ks->zx vs its->∃ ad:Nat->Addr,its.length=ks.length/\(∀ (i:Nat) v,its[i]?=some v->v=.ref (ad i))/\∀ i,i<ks.length->Tb8.IsP X.prog X.w s.heap (kAt ks i) (ad i)
 |_,_,_,.nil,r=>by cases r;exact ⟨λ_=>0,rfl,λi v h=>by simp at h,λi h=>absurd h (by simp)⟩
 |_,_,_,.cons (a:=b) (k:=k) h t,r=>by
  cases r with
  |cons rb r=>
   obtain ⟨ad,h1,h2,h3⟩:=qin I (a:=a) t r;cases rb;obtain ⟨its',rv,⟨o,e,c,n,d⟩,_⟩:=I.tuple h;refine ⟨λi=>match i with|0=>b|i+1=>ad i,by simp [h1],λi v hv=>?_,λi hi=>?_⟩
   ·cases i with
    |zero=>simp at hv;exact hv.symm
    |succ i=>exact h2 i v (by simpa using hv)
   ·cases i with
    |zero=>exact ⟨o,_,n,e,c,d,by simpa [kAt] using T3 rv⟩
    |succ i=>exact h3 i (by simpa using hi)
def L0 {e:Expr} {te:TE} {p p2 pos pos2:Pos} (hc:X.calm=true) (hu:X.A.units+64<cLine) (hg:Gl X "len") (hm:X.mg "len" = none) (hg2:Gl X "set") (hm2:X.mg "set" = none) (he:PE X e te)
  (h1:starEach [e] X.env=(false,eval e X.env)::starEach [] X.env:=by rfl) (h2:starEach [.Call (.Name "set" p2) [e] [] pos2] X.env=(false,eval (.Call (.Name "set" p2) [e] [] pos2) X.env)::starEach [] X.env:=by rfl)
  (h3:(backTo pos (starEach [] X.env)).any (·.1)=false:=by rfl) (h4:(backTo pos2 (starEach [] X.env)).any (·.1)=false:=by rfl) :
  PE X (.Call (.Name "len" p) [.Call (.Name "set" p2) [e] [] pos2] [] pos) (λσ H Q=>te σ H λx H1=>∃ a vs ks,x=.ref a/\SqT X.K H1 a vs/\Tks X.K H1 vs ks/\ks.length<=306/\Q (.int (Tb8.cnt (kAt ks) ks.length)) H1):=by
 intro pins s σ H Q I h;refine wpAny_Call_Name_kw (V1 I hg hm PySem.boot_len ?_);refine PyProof.Rows.callWith_builtin1 ?_ h2 h3;rw [h2];show wpAny _ _ (spliced ((false,eval (.Call (.Name "set" p2) [e] [] pos2) X.env)::backTo pos (starEach [] X.env))) _ _ s;refine Calls.spliced_cons ?_;refine wpAny_Call_Name_kw (V1 I hg2 hm2 (show bootBuiltins "set" = some (.type "set") by decide +kernel) ?_);refine PyProof.Rows.callWith_type1 ?_ h1 h4;rw [h1];show wpAny _ _ (spliced ((false,eval e X.env)::backTo pos2 (starEach [] X.env))) _ _ s;refine Calls.spliced_cons (thn (he pins s σ H _ I h) λu s1 ⟨x,H1,I1,r1,a,vs,ks,ex,hq,ht,hl,q⟩=>?_);subst ex;cases r1;refine Calls.spliced_nil ?_;obtain ⟨its,rv,tp,_⟩:=I1.tuple hq;obtain ⟨ad,l1,l2,l3⟩:=qin I1 (a:=a) ht rv;have sz:its.toArray.size=ks.length:=by rw [size_toArray];exact l1
 refine Tb8.ML (vs:=its.toArray) (key:=kAt ks) (ad:=ad) (I1.ok.hd hc) (by omega) ⟨tp,λi v hv=>l2 i v (by simpa using hv),λi hi=>l3 i (by omega)⟩ (by omega) λh' tk ps kp=>?_;refine Calls.spliced_nil ?_;rw [sz] at ps;refine Tb8.qaJ (s:={ s1 with heap:=h',toks:=tk }) ps (by have:=Tb8.T5 (kAt ks) ks.length;omega) ?_;exact ⟨.int _,H1,I1.kept (h':=h') (t':=tk+1+1) λb o e=>kp b o (Heap.lt_size e) e,⟨_,rfl⟩,q⟩
def qbR:List T->Option (List (List Int))
 |[]=>some []
 |.tup ys::r=>(match RZ ys,qbR r with|some k,some ks=>some (k::ks)|_,_=>none)
 |_=>none
def qao (te:TE3):TE3:=λτ G q=>te τ G λx G1=>match x with
 |.tup ys=>(match qbR ys with|some ks=>ks.length<=306/\q (.int (Tb8.cnt (kAt ks) ks.length)) G1|none=>False)
 |_=>False
def qdx {K:Frg} {H:Hp}:∀ {ys:List T} {ks:List (List Int)} {vs:List V},qbR ys=some ks->Rps K H ys vs->Tks K H vs ks
 |[],ks,_,h,r=>by
  simp only [qbR,Option.some.injEq] at h;subst h;cases r;exact .nil
 |y::ys,ks,_,h,r=>by
  cases r with
  |cons ra rb=>
   cases y<;>try (simp only [qbR] at h;cases h;done)
   case tup xs=>
    simp only [qbR] at h;split at h
    ·rename_i k ks' e1 e2;cases h;have:=T4 e1;subst this;cases ra with
     |tup hs r2=>
      have:=KI r2;subst this;exact .cons hs (qdx e2 rb)
    ·cases h
def KU {e:Expr} {te:TE3} {p p2 pos pos2:Pos} (hc:X.calm=true) (hu:X.A.units+64<cLine) (hg:Gl X "len") (hm:X.mg "len" = none) (hg2:Gl X "set") (hm2:X.mg "set" = none) (he:jE3 X e te)
  (h1:starEach [e] X.env=(false,eval e X.env)::starEach [] X.env:=by rfl) (h2:starEach [.Call (.Name "set" p2) [e] [] pos2] X.env=(false,eval (.Call (.Name "set" p2) [e] [] pos2) X.env)::starEach [] X.env:=by rfl)
  (h3:(backTo pos (starEach [] X.env)).any (·.1)=false:=by rfl) (h4:(backTo pos2 (starEach [] X.env)).any (·.1)=false:=by rfl):jE3 X (.Call (.Name "len" p) [.Call (.Name "set" p2) [e] [] pos2] [] pos) (qao te):=
 ⟨VM (L0 hc hu hg hm hg2 hm2 he.h h1 h2 h3 h4) λ_ _ _ ⟨τ,G,q,rl,h,af⟩=>qQ rl h λx G1 h1 v H1 rx hr1 k1 rl1=>by
  split at h1
  ·rename_i ys;split at h1
   ·rename_i ks e1;cases rx with
    |tup hs r2=>exact ⟨_,_,ks,rfl,hs,qdx e1 r2,h1.1,af _ _ h1.2 _ _ (.int _) hr1 k1⟩
   ·exact h1.elim
  ·exact h1.elim⟩
end
end L3
namespace Tb8
open PySem PyProof.Rows PySem.SetTable
section
variable {prog:Program} {w:World} {A:Around} {E:Value->Shared->Prop} {s:Shared}
end
end Tb8
namespace L3
open PySem PySem.Spec PyProof.Rows L2
section
variable {X:Cx}
end
section
variable {X:Cx} {K:Frg} {w:World} {mg:Str->Option Value}
inductive Ents (K:Frg) (w:World):List DictEntry->List (Str×T)->Prop
 |nil:Ents K w [] []
 |cons {x:Str} {tk:Tok} {u:Value} {v:V} {t:T} {es:List DictEntry} {tab:List (Str×T)}:jt v u->(∀ H,Rp K H t v)->Ents K w es tab->Ents K w (⟨PyData.keyHash w.params x,.str x tk,u⟩::es) ((x,t)::tab)
def zS:List (Str×T)->Str->Option T
 |[],_=>none
 | (y,t)::r,x=>if y=x then some t else zS r x
structure Tb (K:Frg) (mg:Str->Option Value) (w:World) (x:Str) (tab:List (Str×T)):Prop where
 at_:∃ (d:Addr) (es:Array DictEntry) (ep:Nat),mg x=some (.ref d)/\K.lookup d=some ⟨.type "dict",none,.dict es ep,#[]⟩/\(d==sysModules)=false/\Ents K w es.toList tab
def Ents.keys {P:Program}:∀ {es:List DictEntry} {tab:List (Str×T)},Ents K w es tab->∀ e∈es,∃ k,(PySem.strKind P w).is k e.key=true/\e.hash=(PySem.strKind P w).hash k
 |_,_,.nil,e,h=>by cases h
 |_,_,.cons (x:=x) a b t,e,h=>by
  rcases mem_cons.mp h with rfl|h
  ·exact ⟨x,by show (x==x)=true;simp,rfl⟩
  ·exact Ents.keys t e h
def Ents.find:∀ {es:List DictEntry} {tab:List (Str×T)} (x:Str),Ents K w es tab ->
    (match zS tab x with
     |some t=>∃ (u:Value) (v:V),(es.find? λe=>Value.isStrOf x e.key).map (·.val)=some u/\jt v u/\∀ H,Rp K H t v
     |none=>(es.find? λe=>Value.isStrOf x e.key).map (·.val)=none)
  |_,_,x,.nil=>by simp [zS]
  |_,_,x,.cons (x:=y) (tk:=tk) (u:=u) (v:=v) (t:=t) (es:=es) (tab:=tab) a b r=>by
    by_cases e:y=x
    · have:Value.isStrOf x (Value.str y tk)=true:=by show (y==x)=true;simp [e]
      simp only [zS,e,if_true,List.find?_cons,this];subst e;simp only [this];exact ⟨u,v,rfl,a,b⟩
    · have:Value.isStrOf x (Value.str y tk)=false:=by show (y==x)=false;simp [e]
      have ih:=Ents.find x r;simp only [zS,e,if_false,List.find?_cons,this];exact ih
def Ents.map {P:Program} {h:Heap} {d:Addr} {es:Array DictEntry} {ep:Nat} {tab:List (Str×T)} (hd:h.get? d=some ⟨.type "dict",none,.dict es ep,#[]⟩) (en:Ents K w es.toList tab) :
  Heap.MapOf (PySem.strKind P w) h d (λx=>findBy Value.isStrOf es x):=
 ⟨_,es,ep,hd,⟨rfl,rfl,rfl⟩,rfl,λe he=>en.keys e (by simpa using he),λ_=>rfl⟩
def qpd (K:Frg) (d:Addr) (tab:List (Str×T)):R2:=λx y H Q=>x=.ref d/\∃ s t,y=.str s/\zS tab s=some t/\∀ v,Rp K H t v->Q v H
def qg2 {d:Addr} {es:Array DictEntry} {ep:Nat} {tab:List (Str×T)} (hk:X.K.lookup d=some ⟨.type "dict",none,.dict es ep,#[]⟩) (en:Ents X.K X.w es.toList tab):IxR X (qpd X.K d tab):=by
 intro value slice pins s σ H x y v u Q I rx ry h hs;obtain ⟨rfl,z,t,rfl,ht,q⟩:=h;cases rx;obtain ⟨tk,rfl⟩:=ry;have hd:=I.kIn _ _ hk;have f:=en.find z;rw [ht] at f;obtain ⟨u,v,hf,rv,rp⟩:=f;have hf':findBy Value.isStrOf es z=some u:=by
  unfold findBy;rw [← Array.find?_toList];exact hf
 refine subscriptTail_builtinR (x:=u) ⟨_,hd,rfl⟩ PySem.F.slot_dict_getitem.lookup (wpAny_getItem_of (knd:=PySem.strKind X.prog X.w) (Q:=λr s'=>r=u/\EP X pins σ Q r s') (k:=z) (by show (z==z)=true;simp) (en.map hd) hf' ⟨rfl,v,H,I.tok _,rv,q v (rp H)⟩) hs
def qb7 (tab:List (Str×T)) (te:TE3):TE3:=λτ G q=>te τ G λx G1=>match x with|.str s=>(match zS tab s with|some t=>q t G1|none=>False)|_=>False
def qfF {x:Str} {e:Expr} {te:TE3} {tab:List (Str×T)} {p1 pos:Pos} (tb:Tb X.K X.mg X.w x tab) (hg:Gl X x) (he:jE3 X e te) (hs:WZ e) (hd:(x==("__debug__" : Str))=false:=by decide):jE3 X (.Subscript (.Name x p1) e pos) (qb7 tab te):=by
 obtain ⟨d,es,ep,hm,hk,hn,en⟩:=tb.at_;exact ⟨VM (qix (qg2 hk en) (WV hg hm (v:=.ref d) rfl hd) he.h hs) λ_ _ _ ⟨τ,G,q,rl,h,af⟩=>qQ rl h λy G1 h1 v H1 rx hr1 k1 rl1=>by
  cases y<;>try exact h1.elim
  case str z=>
   cases rx;unfold qb7 at h;simp only at h1;split at h1
   ·rename_i t ht;exact ⟨rfl,z,t,rfl,ht,λv rv=>af.back k1 _ _ h1 _ _ rv hr1 Kp.refl⟩
   ·exact h1.elim⟩
def qcs {d:Addr} {es:Array DictEntry} {ep:Nat} {tab:List (Str×T)} (hk:X.K.lookup d=some ⟨.type "dict",none,.dict es ep,#[]⟩) (hn:(d==sysModules)=false) (en:Ents X.K X.w es.toList tab):OpR X (compareOp .In) (λx y H Q=>y=.ref d/\∃ s,x=.str s/\Q (.bl (zS tab s).isSome) H):=by
 intro pins s σ H x y v u Q I rx ry h;obtain ⟨rfl,z,rfl,q⟩:=h;cases ry;obtain ⟨tk,rfl⟩:=rx;have hd:=I.kIn _ _ hk;refine wpAny_in_of (knd:=PySem.strKind X.prog X.w) (k:=z) (by show (z==z)=true;simp) hn (en.map hd) ?_;have f:=en.find z;have e:(findBy Value.isStrOf es z).isSome=(zS tab z).isSome:=by
  unfold findBy;rw [← Array.find?_toList];split at f
  ·rename_i t ht;obtain ⟨u,v,hf,_⟩:=f;rw [hf,ht];rfl
  ·rename_i ht;rw [f,ht];rfl
 rw [e];exact ⟨.bl _,H,I.tok _,rfl,q⟩
def qlY (tab:List (Str×T)) (te:TE3):TE3:=λτ G q=>te τ G λx G1=>match x with|.str s=>q (.bl (zS tab s).isSome) G1|_=>False
def qcN {x:Str} {e:Expr} {te:TE3} {tab:List (Str×T)} {p1 pos:Pos} (tb:Tb X.K X.mg X.w x tab) (hg:Gl X x) (he:jE3 X e te) (hm2:behindInMarks .In (.Name x p1)=false:=by with_unfolding_all rfl) (hd:(x==("__debug__" : Str))=false:=by decide):jC3 X (.Compare e [.In] [.Name x p1] pos) (tb3 (qlY tab te)):=by
 obtain ⟨d,es,ep,hm,hk,hn,en⟩:=tb.at_;refine ⟨qkv (qa4 (qcs hk hn en) he.h (WV hg hm (v:=.ref d) rfl hd) hm2) λ_ _ _ h=>qbL (t:=qlY tab te) (λ_ _ _ h'=>?_) h⟩;obtain ⟨τ,G,q,rl,h,af⟩:=h';refine qQ rl h λy G1 h1 v H1 rx hr1 k1 rl1=>?_;cases y<;>try exact h1.elim
 case str z=>
  cases rx;exact ⟨rfl,z,rfl,af.back k1 _ _ h1 _ _ (.bl _) hr1 Kp.refl⟩
end
section
variable {X:Cx}
end
def S8 {K:Frg} {p:Addr} {n:Nat} {sl:Array (Option Value)} {i j:Int} {ti tj:Tok} (h:K.lookup p=some ⟨.type "tuple",none,.seq #[.int i ti,.int j tj] n,sl⟩):∀ H,Rp K H (.tup [.int i,.int j]) (.ref p):=λH=>
 .tup (vs:=[.int i,.int j]) (.inr ⟨_,_,_,h,rfl,rfl,by show 2<=sizeLine;decide,.cons ⟨_,rfl⟩ (.cons ⟨_,rfl⟩ .nil),rfl⟩) (.cons (.int _) (.cons (.int _) .nil))
def zE:List (Str×T):=[("row",.tup [.int 0,.int 1]),("column",.tup [.int 1,.int 0]),("slant",.tup [.int 1,.int 1]),("back",.tup [.int 1,.int (-1)])]
open PySem.SeqAt
def qbs (dx:PyData):List PyData->Option Bool
 |[]=>some false
 |d::ds=>(match zN d dx,qbs dx ds with|some b,some c=>some (b||c)|_,_=>none)
def T0 {dx:PyData}:∀ {ds:List PyData} {b:Bool},qbs dx ds=some b->∃ bs:List Bool,bs.length=ds.length/\(∀ (j:Nat) d,ds[j]?=some d->∃ c,bs[j]?=some c/\zN d dx=some c)/\b=bs.any id
 |[],b,h=>by simp [qbs] at h;subst h;exact ⟨[],rfl,λj d hd=>by simp at hd,rfl⟩
 |d::ds,b,h=>by
  unfold qbs at h;split at h
  ·rename_i b1 c1 e1 e2;cases h;obtain ⟨bs,hl,ha,hb⟩:=T0 e2;refine ⟨b1::bs,by simp [hl],λj d' hd=>?_,by simp [hb]⟩;cases j with
   |zero=>simp at hd;subst hd;exact ⟨b1,rfl,e1⟩
   |succ j=>simpa using ha j d' (by simpa using hd)
  ·cases h
section
variable {X:Cx} {pins:List (Addr×Obj)} {σ:L2.St} {H:Hp} {s:Shared}
def qbl (I:Inv X pins σ H s) {x:V} {dx:PyData} {v:Value} {xs:List V} {ds:List PyData} {its:List Value} {b:Bool} (hu:X.A.units+64<cLine) (hx:DV X.K H x dx) (rx:jt x v) (hs:DVs X.K H xs ds) (rs:zx xs its) (hb:qbs dx ds=some b) (hd:∀ d∈ds,dpt d<=40) :
  ∃ e:Value->Bool,(∀ y∈its,EqAt X.A.in1 s y v (e y))/\its.any e=b:=by
 obtain ⟨bs,hl,ha,rfl⟩:=T0 hb;have un:X.A.in1.units+40<cLine:=by
  have:X.A.in1.units<=X.A.units+8:=by first|(show X.A.units+1<=_;omega)|(show X.A.units<=_;omega)|(simp [Around.in1];omega)
  omega
 have at_:∀ (j:Nat) y,its[j]?=some y->∃ c,bs[j]?=some c/\EqAt X.A.in1 s y v c:=λj y hj=>by
  obtain ⟨hj1,_⟩:=List.getElem?_eq_some_iff.mp hj;have hxl:j<xs.length:=by rw [rs.length];exact hj1
  obtain ⟨u,hu',ru⟩:=rs.get (getElem?_eq_getElem hxl);rw [hj] at hu';cases hu';obtain ⟨d,hd1,hd2⟩:=hs.get (getElem?_eq_getElem hxl);obtain ⟨c,hc1,hc2⟩:=ha j d hd1;exact ⟨c,hc1,(XC I 40 hd2 hx hc2 (hd d (mem_of_getElem? hd1)) un ru rx).2⟩
 classical
 refine ⟨λy=>decide (∃ j:Nat,its[j]?=some y/\bs[j]?=some true),λy hy=>?_,?_⟩
 ·by_cases he:∃ j:Nat,its[j]?=some y/\bs[j]?=some true
  ·obtain ⟨j,h1,h2⟩:=id he;obtain ⟨c,hc,eq⟩:=at_ j y h1;rw [h2] at hc;cases hc;simpa [he] using eq
  ·obtain ⟨j,hj,e⟩:=List.mem_iff_getElem.mp hy;have hj':its[j]?=some y:=by rw [getElem?_eq_getElem hj,e]
   obtain ⟨c,hc,eq⟩:=at_ j y hj';cases c with
   |true=>exact absurd ⟨j,hj',hc⟩ he
   |false=>simpa [he] using eq
 ·rw [Bool.eq_iff_iff,List.any_eq_true,List.any_eq_true];constructor
  ·rintro ⟨y,_,hy⟩;obtain ⟨j,_,h2⟩:=of_decide_eq_true hy;exact ⟨true,mem_of_getElem? h2,rfl⟩
  ·rintro ⟨c,hc,e⟩;have:c=true:=e;subst this;obtain ⟨j,hj,ej⟩:=List.mem_iff_getElem.mp hc;have hl2:its.length=bs.length:=by rw [← rs.length,hs.length,hl]
   have hj2:j<its.length:=by omega
   exact ⟨its[j],List.getElem_mem hj2,decide_eq_true ⟨j,getElem?_eq_getElem hj2,by rw [getElem?_eq_getElem hj,ej]⟩⟩
def qot (K:Frg) (neg:Bool):R2:=λx y H Q=>∃ p xs dx ds b,y=.ref p/\(SqL K H p xs\/SqT K H p xs)/\DV K H x dx/\DVs K H xs ds/\qbs dx ds=some b/\(∀ d∈ds,dpt d<=40)/\Q (.bl (if neg then !b else b)) H
def qaL (hu:X.A.units+64<cLine):OpR X (compareOp .NotIn) (qot X.K true):=by
 intro pins s σ H x y v u Q I rx ry h;obtain ⟨p,xs,dx,ds,b,rfl,hq,hx,hs,hb,hd,q⟩:=h;cases ry;rcases hq with hq|hq
 ·obtain ⟨its,r,pl,hz⟩:=I.list hq;obtain ⟨e,he,ha⟩:=qbl I hu hx rx hs r hb hd;refine SeqAt.notIn_listAt e pl.isList (λw hw=>he w (by simpa using hw)) ⟨.bl _,H,I,rfl,?_⟩;rw [show its.toArray.any e=its.any e by simp,ha];exact q
 ·obtain ⟨its,r,pl,hz⟩:=I.tuple hq;obtain ⟨e,he,ha⟩:=qbl I hu hx rx hs r hb hd;refine SeqAt.notIn_tupleAt e pl (λw hw=>he w (by simpa using hw)) ⟨.bl _,H,I,rfl,?_⟩;rw [show its.toArray.any e=its.any e by simp,ha];exact q
end
def qoL (neg:Bool):R3:=λx y G q=>∃ ys dx ds b,zT G y=some ys/\Dp G x dx/\Dps G ys ds/\qbs dx ds=some b/\(∀ d∈ds,dpt d<=40)/\q (.bl (if neg then !b else b)) G
def qeZ {K:Frg} {neg:Bool}:UH K (qoL neg) (qot K neg):=λx y v u G H q Q hr rx ry h af=>by
 obtain ⟨ys,dx,ds,b,h1,h2,h3,h4,h5,h6⟩:=h;cases y with
 |tup zs=>
  simp [zT] at h1;subst h1;cases ry with
  |tup hs rs=>exact ⟨_,_,dx,ds,b,rfl,.inr hs,h2.dv hr rx,h3.dv hr rs,h4,h5,af _ G h6 _ H (.bl _) hr Kp.refl⟩
 |ref p=>
  simp [zT] at h1;cases ry;obtain ⟨us,hs,rs⟩:=zz hr h1;exact ⟨_,_,dx,ds,b,rfl,.inl hs,h2.dv hr rx,h3.dv hr rs,h4,h5,af _ G h6 _ H (.bl _) hr Kp.refl⟩
 |_=>simp [zT] at h1
end L3
namespace HT
open PySem PySem.Spec PyProof.Rows L2
section
open PySem.SeqAt
open PySem.MeetsSeq PySem.MeetsSeq2 PySem.MeetsSeq3
end
section
variable {prog:Program} {w:World} {A:Around} {E:Value->Shared->Prop} {s:Shared}
end
end HT
namespace L3
open PySem PySem.Spec PyProof.Rows L2
section
variable {X:Cx}
end
end L3
namespace HT
open PySem PyProof.Rows
section
variable {prog:Program} {w:World} {A:Around} {R:Result->Shared->Prop} {I:Addr} {fp wr:List Addr} {n:Nat} {P:Nat->Value->Prop} {St:Nat->Heap->Prop}
end
section
variable {prog:Program} {w:World} {A:Around} {E:Value->Shared->Prop} {s:Shared}
end
end HT
namespace L3
open PySem PySem.Spec PyProof.Rows L2
section
variable {X:Cx}
end
section
variable {X:Cx}
end
section
variable {X:Cx}
def qcl {elt tg iter t2 i2:Expr} {ifs f2:List Expr} {scope:Scope} {pos cpos:Pos} {N':List Str} {m:List (Option Nat)} {wi:TI} {g:TG} {tif:TT} {wi2:TI} {g2:TG} {tif2:TT} {te:TE} {use:Option (Value->Sem Unit)} {Qc:Value->Shared->Prop} {QD:Addr->Hp->Prop} (hc:X.calm=true) (hi:PI X tg iter wi)
  (hg:∀ s H fp,PG (qf X N' scope s H fp) tg g) (hf:∀ s H fp,PF (qf X N' scope s H fp) ifs tif) (hi2:∀ s H fp,PI (qf X N' scope s H fp) t2 i2 wi2) (hg2:∀ s H fp,PG (qf X N' scope s H fp) t2 g2) (hf2:∀ s H fp,PF (qf X N' scope s H fp) f2 tif2) (he:∀ s H fp,PE (qf X N' scope s H fp) elt te)
  (hsc:MB X.env.scope scope=true) (hcap:JV X.N N' scope m=true) (hs:∀ x,foldedSetIterable iter X.env x=pure x) (hs2:∀ s H fp x,foldedSetIterable i2 (qf X N' scope s H fp).env x=pure x) {pins:List (Addr×Obj)} {s:Shared} {σ:L2.St} {H:Hp} (I:Inv X pins σ H s)
  (h:wi σ H λJ H1=>∀ D,H1 D=none ->
   ∃ W:Nat->Nat->L2.St->Hp->Prop,(∃ n,W 0 n (cap m σ) (upd H1 D (.lst [])))/\∀ i n σ H,W i n σ H ->
    (J.stop i H/\QD D H)\/(J.go i H/\∀ x H',J.yld i H x H'->g x σ H' λσ2 H2=>tif σ2 H2 λk H3=>
     if k=true then tIn wi2 g2 tif2 te D (λσ4 H4=>∃ n',n'<n/\W (i+1) n' σ4 H4) σ2 H3
     else ∃ n',n'<n/\W (i+1) n' σ2 H3))
  (fin:∀ (D:Addr) (s3:Shared) (H3:Hp) (fp:List Addr) (s6:Shared) (H6:Hp) (σ6:L2.St) (r:Flow),Inv X pins σ H3 s3->(∀ b∈fp,C5 X pins H3 b)->Inv (qf X N' scope s3 H3 fp) [] σ6 H6 s6->QD D H6->compPost (model X.prog X.w) X.A X.xe use Qc (.ref D) s3.heap.objs.size (.ok r) s6) :
  wpAny (model X.prog X.w) X.A (comprehension (.ListComp elt [⟨tg,iter,ifs,0⟩,⟨t2,i2,f2,0⟩] scope pos) scope X.env cpos (newList []) false (eval iter X.env) use) Qc X.xe s:=by
 have sc:=VO hsc;have hcl:∀ y∈scope.names,y.2=.free->∃ c,X.env.cells.lookup y.1=some c:=λy hy e=>by
  rcases (sc.free y hy e).2 with z|z
  ·exact I.ok.has y.1 (.inl z)
  ·exact I.ok.has y.1 (.inr z)
 refine wpAny_comprehension_free (g:=⟨tg,iter,ifs,0⟩) (gs:=[⟨t2,i2,f2,0⟩]) rfl hs (QZ hcl) sc.kind sc.loc ?_;show wpAny _ _ (eval iter X.env) _ _ s;refine thn (hi pins s σ H _ I h) λv s1 h1=>thn h1 λitv s2 h2=>?_;obtain ⟨it,fp,tn,J,H2,rfl,I2,T,st2,fF2,hW⟩:=h2;refine wpAny_newObj_type ?_;have hD:H2 s2.heap.objs.size=none:=I2.fresh;obtain ⟨W,⟨n0,w0⟩,turn⟩:=hW _ hD;generalize hDe:s2.heap.objs.size=D at *;have I3:Inv X pins σ (upd H2 D (.lst [])) { s2 with heap:=s2.heap.push { cls:=.type "list",dict:=none,data:=.seq ([]:List Value).toArray } }:=by
  subst hDe;exact I2.laid (t':=s2.toks) (λb u e=>Heap.get?_push_of_some _ e) (Nat.le_refl _) ⟨Nat.zero_le _,[],0,.nil,Heap.get?_push_size _ rfl⟩
 have ob2:=T.obj 0 _ st2;have ob3:∀ b∈fp,∃ o,(s2.heap.push { cls:=.type "list",dict:=none,data:=.seq ([]:List Value).toArray }).get? b=some o:=λb hb=>let ⟨o,e,_⟩:=ob2 b hb;⟨o,Heap.get?_push_of_some _ e⟩
 have f3:∀ b∈fp,C5 X pins (upd H2 D (.lst [])) b:=λb hb=>by
  obtain ⟨o,e,_⟩:=ob2 b hb;have:b≠D:=by rw [← hDe];exact Nat.ne_of_lt (Heap.lt_size e)
  exact ⟨by rw [qv this];exact (fF2 b hb).1,(fF2 b hb).2⟩
 have k23:∀ b o,s2.heap.get? b=some o->(s2.heap.push { cls:=.type "list",dict:=none,data:=.seq ([]:List Value).toArray }).get? b=some o:=λb o e=>Heap.get?_push_of_some _ e;generalize hH3:upd H2 D (.lst [])=H3 at *;generalize hs3:({ s2 with heap:=s2.heap.push { cls:=.type "list",dict:=none,data:=.seq ([]:List Value).toArray } }:Shared)=s3 at *;have ob3:∀ b∈fp,∃ o,s3.heap.get? b=some o:=by rw [← hs3];exact ob3
 have k23:∀ b o,s2.heap.get? b=some o->s3.heap.get? b=some o:=by rw [← hs3];exact k23
 refine jA λh₁ hns hk hown=>?_;have I4:Inv (qf X N' scope s3 H3 fp) [] (cap m σ) H3 { s3 with heap:=h₁ }:=WP hc I3 sc hcap f3 ob3 hns hk hown;have tn4:tn 0 h₁:=T.keep _ _ _ st2 λb hb o e=>hk b o (k23 b o e);have fr4:∀ b∈fp,H3 b=none:=λb hb=>(f3 b hb).1;have stat:∀ {H':Hp},(∀ b∈fp,H' b=none)->∀ b∈fp,C5 (qf X N' scope s3 H3 fp) [] H' b:=λhn b hb=>by
  refine ⟨hn b hb,I4.ok.exf b hb |>.1,I4.ok.exfs b hb,.inl hb,λx c e=>(I4.ok.exf b hb).2 x c e,λp hp=>absurd (show p∈([]:List (Addr×Obj)) from hp) (by simp)⟩
 show codeAny (model X.prog X.w) X.A (.compStart (.ListComp elt [⟨tg,iter,ifs,0⟩,⟨t2,i2,f2,0⟩] scope pos) 0 (.ref it) (.ref D) (qf X N' scope s3 H3 fp).env) (compPost (model X.prog X.w) X.A X.xe use Qc (.ref D) s3.heap.objs.size) { s3 with heap:=h₁ };have loop:codeAny (model X.prog X.w) X.A (.compLoop (.ListComp elt [⟨tg,iter,ifs,0⟩,⟨t2,i2,f2,0⟩] scope pos) 0 (.ref it) (.ref D) (qf X N' scope s3 H3 fp).env) (compPost (model X.prog X.w) X.A X.xe use Qc (.ref D) s3.heap.objs.size) { s3 with heap:=h₁ }:=by
  refine codeAny_loop rfl (λn s'=>∃ i σ' H',Inv (qf X N' scope s3 H3 fp) [] σ' H' s'/\tn i s'.heap/\(∀ b∈fp,H' b=none)/\W i n σ' H') (λn s' hI=>?_) n0 ⟨0,cap m σ,H3,I4,tn4,fr4,w0⟩;show wpAny _ X.A ((compTurn (.ListComp elt [⟨tg,iter,ifs,0⟩,⟨t2,i2,f2,0⟩] scope pos) 0 (.ref it) (.ref D) (qf X N' scope s3 H3 fp).env).onRaise (λx=>do noteFrame x (qf X N' scope s3 H3 fp).env;theTreesLotGoes x)) _ _ s';refine wpAny_noted ?_;rw [J5];refine wpAny_bind (wpAny_standAt (wpAny_bind ?_));obtain ⟨i,σ5,H5,I5,st5,fr5,w5⟩:=hI;rcases turn i n σ5 H5 w5 with ⟨stop,q⟩|⟨go,step⟩
  ·refine thn (T.done (qf X N' scope s3 H3 fp) rfl rfl rfl rfl i [] s' σ5 H5 _ I5 (stat fr5) st5 stop) λr s6 ⟨hr,I6⟩=>?_;subst hr;refine wpAny_pure ?_;exact fin D s3 H3 fp s6 H5 σ5 _ I3 f3 I6 q
  ·refine thn (T.item (qf X N' scope s3 H3 fp) rfl rfl rfl rfl i [] s' σ5 H5 _ I5 (stat fr5) st5 go) λr s6 ⟨u,hr,h6⟩=>?_;subst hr;refine wpAny_bind (thn h6 λ_ s7 ⟨x,H7,I7,r7,y7,st7,fr7⟩=>?_);have I7':=I7.pinned (stat fr7) (T.obj _ _ st7);have again:∀ {σ8:L2.St} {H8:Hp} {s8:Shared},Inv (qf X N' scope s3 H3 fp) ([]++VZ fp s7.heap) σ8 H8 s8->(∃ n',n'<n/\W (i+1) n' σ8 H8) ->
     ∃ m',m'<n/\∃ i σ' H',Inv (qf X N' scope s3 H3 fp) [] σ' H' s8/\tn i s8.heap/\(∀ b∈fp,H' b=none)/\W i m' σ' H':=λ{σ8 H8 s8} I8 ⟨n',hn,w8⟩=>by
    refine ⟨n',hn,i+1,σ8,H8,I8.unpinned,T.keep _ _ _ st7 λb hb o e=>(I8.pin (b,o) (mem_append_right _ (mem_append_right _ (zl hb e)))).1,λb hb=>?_,w8⟩;obtain ⟨o,e,d⟩:=T.obj _ _ st7 b hb;exact (I8.pin (b,o) (mem_append_right _ (mem_append_right _ (zl hb e)))).2.1
   refine wpAny_bind (wpAny_mono (hg s3 H3 fp _ s7 σ5 H7 x u _ I7' r7 (step x H7 y7)) (λ_ s8 ⟨σ8,H8,I8,q8⟩=>?_) λ_ _ z=>z.elim);refine wpAny_bind (wpAny_mono (hf s3 H3 fp _ s8 σ8 H8 _ I8 q8) (λk s9 ⟨H9,I9,q9⟩=>?_) λ_ _ z=>z.elim);cases k with
   |false=>
    rw [if_neg Bool.false_ne_true] at q9;exact wpAny_pure ⟨rfl,again I9 q9⟩
   |true=>
    rw [if_pos rfl] at q9;refine qdQ (X:=qf X N' scope s3 H3 fp) rfl (λ_ _ z=>z) (hi2 s3 H3 fp) (hg2 s3 H3 fp) (hf2 s3 H3 fp) (he s3 H3 fp) (hs2 s3 H3 fp) I9 q9 λs10 σ10 H10 I10 q10=>?_;exact wpAny_pure ⟨rfl,again I10 q10⟩
 exact codeAny_compStart_list loop (T.self X.A 0 _ _ _ tn4 loop)
def MZ {i:Nat} {y:Str} {py spos:Pos} {elt tg iter t2 i2:Expr} {ifs f2:List Expr} {scope:Scope} {pos:Pos} {N':List Str} {m:List (Option Nat)} {wi:TI} {g:TG} {tif:TT} {wi2:TI} {g2:TG} {tif2:TT} {te:TE} (hc:X.calm=true) (hN:X.N.Nodup) (hi:PI X tg iter wi)
  (hg:∀ s H fp,PG (qf X N' scope s H fp) tg g) (hf:∀ s H fp,PF (qf X N' scope s H fp) ifs tif) (hi2:∀ s H fp,PI (qf X N' scope s H fp) t2 i2 wi2) (hg2:∀ s H fp,PG (qf X N' scope s H fp) t2 g2) (hf2:∀ s H fp,PF (qf X N' scope s H fp) f2 tif2) (he:∀ s H fp,PE (qf X N' scope s H fp) elt te)
  (hsc:MB X.env.scope scope=true) (hcap:JV X.N N' scope m=true) (hs:∀ x,foldedSetIterable iter X.env x=pure x) (hs2:∀ s H fp x,foldedSetIterable i2 (qf X N' scope s H fp).env x=pure x) (hiy:X.N[i]?=some y) (hl:X.env.scope.names.lookup y=some .local)
  (hsw:swapsWith (.ListComp elt [⟨tg,iter,ifs,0⟩,⟨t2,i2,f2,0⟩] scope pos) (some (.Name y py)) spos.line X.env=pure true) :
  PS X (.Assign [.Name y py] (.ListComp elt [⟨tg,iter,ifs,0⟩,⟨t2,i2,f2,0⟩] scope pos) spos) (qmO (qnH wi g tif wi2 g2 tif2 te m) (qgf i)):=by
 intro pins s σ H D I h;rw [exec_Assign_Name_used _ _ _ _ hsw];refine wpAny_bind (wpAny_standAt (wpAny_bind ?_));show wpAny _ X.A (do let _←comprehension (.ListComp elt [⟨tg,iter,ifs,0⟩,⟨t2,i2,f2,0⟩] scope pos) scope X.env _ (newList []) false (eval iter X.env) (some (assign (.Name y py) X.env))) _ _ s;refine wpAny_bind (wpAny_mono (qcl (use:=some (assign (.Name y py) X.env)) (QD:=λD' H'=>D.nx (σ.set i (some (.ref D'))) H') (Qc:=λ_ s'=>∃ σ' H',Inv X pins σ' H' s'/\D.nx σ' H') hc hi hg hf hi2 hg2 hf2 he hsc hcap hs hs2 I h λD' s3 H3 fp s6 H6 σ6 r I3 f3 I6 q=>?_) (λ_ s' hq=>wpAny_pure (wpAny_pure hq)) λ_ _ e=>e);have I7:Inv X pins σ H6 s6:=VF (h2:=s6.heap) I3 f3 I6 ⟨rfl,λ_ _=>rfl⟩;obtain ⟨mm,hn6,_⟩:=I6.loc;have hfC:C5 X pins H6 s3.heap.objs.size:=I3.fpOk (Nat.le_refl _) I6.free;obtain ⟨f0,f1,f2,f3',f4,f5⟩:=hfC;show wpAny _ X.A (assign (.Name y py) X.env (.ref D')) _ _ _;refine wpAny_assign_Name (RF I7 hN hiy (.inl hl) (v:=.ref D') rfl (λs8 I8 hch=>?_) (.inr hl));obtain ⟨a,sb,ha⟩:=hch;have hne:s3.heap.objs.size≠a:=by
  rcases ha with rfl|ha
  ·exact f1
  ·exact Ne.symm (f4 _ _ ha)
 refine ⟨mm,hn6.sameBut sb hne,λh' sb'=>⟨_,_,I8.turned (t':=s8.toks) (λb o hb e=>(sb'.2 b hb).trans e) f0 f1 f3' f4 f5,q⟩⟩
end
def qiH {K:Frg} {m:List (Option Nat)} {wi:TI3} {g:TG3} {tif:TT3} {wi2:TI3} {g2:TG3} {tif2:TT3} {te:TE3} {σ:L2.St} {H:Hp} {Q:VK} (hh:lE K (qdc wi g tif wi2 g2 tif2 te m) σ H Q):qnH (lI K wi) (lG K g) (lT K tif) (lI K wi2) (lG K g2) (lT K tif2) (lE K te) m σ H Q:=by
  obtain ⟨τ,G,q,rl,h,af⟩:=hh;refine ⟨τ,G,_,rl,h,λitems stay G1 h1 J H1 hr1 k1 ok D hD=>?_⟩;have gD:G1 D=none:=hr1.free hD;have h1:=h1 D gD;have hr1':HR K (gu G1 D (.lst [])) (upd H1 D (.lst [])):=HR.newL hr1 hD .nil;have k1':Kp G1 H1 (gu G1 D (.lst [])) (upd H1 D (.lst [])):=Kp.newL hD;refine ⟨λi n σ' H'=>n=items.length-i/\i<=items.length/\∃ τ' G',Rel K τ' G' σ' H'/\Kp G1 H1 G' H'/\KR D stay g tif wi2 g2 tif2 te q (items.drop i) τ' G',
   ⟨_,rfl,Nat.zero_le _,cap m τ,_,((rl.next hr1 k1).cap m).next hr1' k1',k1',by simpa using h1⟩,?_⟩
  rintro i n σ' H' ⟨rfl,hi,τ',G',rl',k',h'⟩;by_cases hlt:i<items.length
  ·rw [List.drop_eq_getElem_cons hlt] at h';obtain ⟨hst,h'⟩:=h';obtain ⟨go,yld,_⟩:=ok G' H' rl'.hp k' hst;have hx:items[i]?=some items[i]:=getElem?_eq_getElem hlt;refine .inr ⟨go i _ hx,λv H2 y=>?_⟩;obtain ⟨rv,hr2,k2⟩:=yld i _ v H2 hx y;refine ⟨_,τ',G',_,rv,rl'.next hr2 k2,h',λτ3 G3 h3 σ3 H3 rl3 k3=>⟨τ3,G3,_,rl3,h3,λk G4 h4 H4 hr4 k4=>?_⟩⟩;have kk:=(k2.trans k3).trans k4;cases k with
   |false=>
    rw [if_neg Bool.false_ne_true] at h4;refine qlE ?_;exact ⟨_,by omega,rfl,hlt,τ3,G4,rl3.next hr4 k4,k'.trans kk,h4⟩
   |true=>
    rw [if_pos rfl] at h4;refine qlR ?_;exact qaD (rl3.next hr4 k4) (k'.trans kk) h4 λτ5 G5 σ5 H5 rl5 k5 h5=>⟨_,by omega,rfl,hlt,τ5,G5,rl5,k5,h5⟩
  ·have e:i=items.length:=by omega
   subst e;rw [List.drop_length] at h';obtain ⟨_,_,stop⟩:=ok G' H' rl'.hp k' h'.1;exact .inl ⟨stop,af _ _ h'.2 _ H' (.ref D) rl'.hp (k1.trans k')⟩
def qbK {X:Cx} {py spos:Pos} {elt tg iter t2 i2:Expr} {ifs f2:List Expr} {scope:Scope} {pos:Pos} {y:Str} (i:Nat) (N':List Str) (m:List (Option Nat)) {wi:TI3} {g:TG3} {tif:TT3} {wi2:TI3} {g2:TG3} {tif2:TT3} {te:TE3} (hc:X.calm=true) (hN:X.N.Nodup) (hi:I3 X tg iter wi)
  (hg:∀ s H fp,G3 (qf X N' scope s H fp) tg g) (hf:∀ s H fp,F3 (qf X N' scope s H fp) ifs tif) (hi2:∀ s H fp,I3 (qf X N' scope s H fp) t2 i2 wi2) (hg2:∀ s H fp,G3 (qf X N' scope s H fp) t2 g2) (hf2:∀ s H fp,F3 (qf X N' scope s H fp) f2 tif2) (he:∀ s H fp,E3 (qf X N' scope s H fp) elt te)
  (hsc:MB X.env.scope scope=true) (hcap:JV X.N N' scope m=true) (hl:X.env.scope.names.lookup y=some .local) (hsw:swapsWith (.ListComp elt [⟨tg,iter,ifs,0⟩,⟨t2,i2,f2,0⟩] scope pos) (some (.Name y py)) spos.line X.env=pure true) (hiy:X.N[i]?=some y) (hs:∀ x,foldedSetIterable iter X.env x=pure x) (hs2:∀ s H fp x,foldedSetIterable i2 (qf X N' scope s H fp).env x=pure x) :
  S3 X (.Assign [.Name y py] (.ListComp elt [⟨tg,iter,ifs,0⟩,⟨t2,i2,f2,0⟩] scope pos) spos) (jc (qdc wi g tif wi2 g2 tif2 te m) (gn3 i)):=
 qeN (MZ (g:=lG X.K g) (tif:=lT X.K tif) (wi2:=lI X.K wi2) (g2:=lG X.K g2) (tif2:=lT X.K tif2) (te:=lE X.K te) hc hN hi hg hf hi2 hg2 hf2 he hsc hcap hs hs2 hiy hl hsw) λ_ σ H ⟨τ,G,d,rl,h,af⟩=>
  qiH ⟨τ,G,_,rl,h,λx G1 h1 v H1 rx hr1 k1=>af.nx _ G1 h1 _ H1 ((rl.next hr1 k1).set i rx) k1⟩
def NG {X:Cx} {py spos:Pos} {elt tg iter t2 i2:Expr} {ifs f2:List Expr} {scope:Scope} {pos:Pos} {y:Str} (i:Nat) (N':List Str) (m:List (Option Nat)) {wi:TI3} {g:TG3} {tif:TT3} {wi2:TI3} {g2:TG3} {tif2:TT3} {te:TE3} (hc:X.calm=true) (hN:X.N.Nodup) (hi:jI3 X tg iter wi)
  (hg:∀ s H fp,jG3 (qf X N' scope s H fp) tg g) (hf:∀ s H fp,jF3 (qf X N' scope s H fp) ifs tif) (hi2:∀ s H fp,jI3 (qf X N' scope s H fp) t2 i2 wi2) (hg2:∀ s H fp,jG3 (qf X N' scope s H fp) t2 g2) (hf2:∀ s H fp,jF3 (qf X N' scope s H fp) f2 tif2) (he:∀ s H fp,jE3 (qf X N' scope s H fp) elt te)
  (hsc:MB X.env.scope scope=true) (hcap:JV X.N N' scope m=true) (hl:X.env.scope.names.lookup y=some .local) (hsw:swapsWith (.ListComp elt [⟨tg,iter,ifs,0⟩,⟨t2,i2,f2,0⟩] scope pos) (some (.Name y py)) spos.line X.env=pure true) (hiy:X.N[i]?=some y:=by rfl) (hs:∀ x,foldedSetIterable iter X.env x=pure x:=by intro _;rfl) (hs2:∀ s H fp x,foldedSetIterable i2 (qf X N' scope s H fp).env x=pure x:=by intro _ _ _ _;rfl) :
  jS3 X (.Assign [.Name y py] (.ListComp elt [⟨tg,iter,ifs,0⟩,⟨t2,i2,f2,0⟩] scope pos) spos) (jc (qdc wi g tif wi2 g2 tif2 te m) (gn3 i)):=
 ⟨qbK i N' m hc hN hi.h (λs H fp=>(hg s H fp).h) (λs H fp=>(hf s H fp).h) (λs H fp=>(hi2 s H fp).h) (λs H fp=>(hg2 s H fp).h) (λs H fp=>(hf2 s H fp).h) (λs H fp=>(he s H fp).h) hsc hcap hl hsw hiy hs hs2⟩
section
variable {X:Cx} {a b:Expr} {ta tb:TE3} {pos:Pos}
end
end L3
namespace L3
open PySem PySem.Spec PyProof.Rows L2 PySem.SeqAt
section
variable {X:Cx} {a b:Expr} {ta tb:TE3} {pos:Pos}
end
end L3
namespace L3
open PySem PySem.Spec PyProof.Rows L2
section
variable {X:Cx} {a b e:Expr} {ta tb te:TE3} {pos:Pos}
def NO {v:Value} {o:Option Int} (p:IsPart v o):∃ q:Option (Int×Tok),v=partValue q/\q.map (λx=>x.fst)=o:=by
 cases p with
 |none=>exact ⟨none,rfl,rfl⟩
 |int i t=>exact ⟨some (i,t),rfl,rfl⟩
def qo0:V->Option Int->Option Int->Hp->VK->Prop:=λx lo hi H Q=>∃ z,x=.str z/\(Txt.slice z lo hi).length<=sizeLine/\Q (.str (Txt.slice z lo hi)) H
def T7:SlR X qo0:=by
 intro pins s σ H x v vl vu lo hi sl Q I rx hs pl pu h;obtain ⟨z,rfl,hz,q⟩:=h;obtain ⟨t,rfl⟩:=rx;obtain ⟨ql,rfl,rfl⟩:=NO pl;obtain ⟨qu,rfl,rfl⟩:=NO pu;refine ⟨"str",_,slot_str_getitem.lookup,typeIs_str s z t,?_⟩;refine wpAny_getItem_str_slice (l:=ql) (u:=qu) (st:=none) hs rfl ?_;have e:Txt.slice z (ql.map (λx=>x.fst)) (qu.map (λx=>x.fst))=if ((Option.map (λx=>x.fst) (none:Option (Int×Tok))).getD 1==1&&(slicePicked z ql qu none).length==z.length)=true then z else { cps:=(List.filterMap (λx_1=>z.cps[x_1]?) (slicePicked z ql qu none)).toArray }:=rfl
 unfold sliceMade;rw [e] at q hz;split
 ·rename_i c;rw [if_pos c] at q;exact ⟨.str z,H,I,⟨_,rfl⟩,q⟩
 ·rename_i c;rw [if_neg c] at q hz;exact ⟨hz,.str _,H,I.tok _,⟨_,rfl⟩,q⟩
def qpA:T->Option Int->Option Int->Gp->Q3->Prop:=λx lo hi G q=>match x with
 |.str z=>(Txt.slice z lo hi).length<=sizeLine/\q (.str (Txt.slice z lo hi)) G
 |_=>False
def qfq (te:TE3) (tl th:TO3):TE3:=λτ G q=>te τ G λx G1=>tl τ G1 λl G2=>th τ G2 λu G3=>qpA x l u G3 q
def M3 {lo hi:Option Expr} {tl th:TO3} {p2:Pos} (he:jE3 X e te) (hl:jP3 X lo tl) (hu:jP3 X hi th):jE3 X (.Subscript e (.Slice lo hi none p2) pos) (qfq te tl th):=
 ⟨VM (W2 T7 he.h hl.h hu.h) λ_ _ _ ⟨τ,G,q,rl,h,af⟩=>qQ rl h λx G1 h1 v H1 rx hr1 k1 rl1=>
  ⟨τ,G1,_,rl1,h1,λl G2 h2 H2 hr2 k2=>⟨τ,G2,_,rl1.next hr2 k2,h2,λu G3 h3 H3 hr3 k3=>by
   have kk:=(k1.trans k2).trans k3;have rx3:=(rx.keep hr1 k2).keep hr2 k3;cases x<;>try exact h3.elim
   cases rx3;exact ⟨_,rfl,h3.1,af _ G3 h3.2 _ _ (.str _) hr3 kk⟩⟩⟩⟩
end
section
variable {X:Cx} {a b:Expr} {ta tb:TE3} {pos:Pos}
end
section
variable {X:Cx}
end
def ev {α:Type}:List α->List α
 |[]=>[]
 |[x]=>[x]
 |x::_::r=>x::ev r
section
variable {X:Cx} {e el ek:Expr} {p2 pos:Pos}
end
section
variable {X:Cx} {pos:Pos} {e:Expr} {te:TE3}
end
section
variable {X:Cx} {pos:Pos} {o i e:Expr} {to ti te:TE3}
end
section
variable {K:Frg} {G G':Gp} {H H':Hp}
def qnp (kvs:List (Int×T)):List Key:=kvs.map λp=>(Sum.inl p.1:Key)
def qmo (kvs:List (Int×T)):List T:=kvs.map λp=>p.2
def HR.dct (hr:HR K G H) {p:Addr} {kvs:List (Int×T)} (g:G p=some (.dct kvs)):∃ vs,H p=some (.dK ((qnp kvs).zip vs))/\Rps K H (qmo kvs) vs:=hr p _ g
end
section
variable {X:Cx} {pos:Pos} {o i e:Expr} {to ti te:TE3}
variable {es:List Expr} {t:TA3}
end
end L3
namespace L3
open PySem PySem.Spec PyProof.Rows L2 PySem.SeqAt
section
variable {prog:Program} {w:World} {A:Around} {E:Value->Shared->Prop} {s:Shared}
end
section
variable {X:Cx}
end
end L3
namespace L2
open PySem PySem.Spec PyProof.Rows
section
variable {X:Cx} {pins:List (Addr×Obj)} {σ:St} {H:Hp} {s:Shared}
end
def ZN.there {P:Program} {w:World} {H:Hp} {h:Heap} {a:Addr} {o:HO} (x:ZN P w H h a o):∃ u,h.get? a=some u:=by
 cases o with
 |lst xs=>obtain ⟨_,_,_,_,e⟩:=x;exact ⟨_,e⟩
 |tup xs=>obtain ⟨_,_,_,ob,e,_⟩:=x;exact ⟨_,e⟩
 |dK kvs=>obtain ⟨_,_,_,_,o,_,_,e,_⟩:=x;exact ⟨_,e⟩
 |dT kvs=>obtain ⟨_,_,_,_,o,_,_,e,_⟩:=x;exact ⟨_,e⟩
 |set S n=>obtain ⟨o,_,_,_,e,_⟩:=x;exact ⟨_,e⟩
 |ins C dx fs=>obtain ⟨_,_,_,e,_⟩:=x;exact ⟨_,e⟩
 |own y=>obtain ⟨_,e⟩:=x;exact ⟨_,e⟩
 |xd fs=>obtain ⟨_,⟨_,_,_,e,_⟩,_⟩:=x;exact ⟨_,e⟩
 |rng lo hi=>obtain ⟨_,_,_,e⟩:=x;exact ⟨_,e⟩
 |frz ob u=>obtain ⟨e,_⟩:=x;exact ⟨_,e⟩
 |tbl ps=>exact ⟨_,(show h.get? a=some _ from x)⟩
 |met f y=>exact ⟨_,(show h.get? a=some _ from x)⟩
 |ext φ=>obtain ⟨_,⟨_,e⟩,_⟩:=x;exact ⟨_,e⟩
def HOk.nil {P:Program} {w:World} {H:Hp} {h:Heap} {a:Addr} (x:HOk P w H h) (e:h.get? a=none):H a=none:=by
 cases q:H a with
 |none=>rfl
 |some u=>
  obtain ⟨z,y⟩:=(x a u q).there;rw [e] at y;cases y
section
variable {P:Program} {w:World} {K:Frg} {mg:Str->Option Value} {base:Heap} {N:List Str} {qual:Str} {scope:Scope} {f:Addr} {cd:Value} {A:Around} {outer:List Env} {s0:Shared} {H0:Hp} {E:XK} {CX:CXT}
 {pins:List (Addr×Obj)} {σ:St} {H:Hp} {s:Shared}
end
section
variable {X:Cx} {x:Str} {C:Addr} {B Bn newId nid initId inN:String} {bm bmN:List Value} {np cpos pos:Pos} {e:Expr} {es:List Expr} {t:TA} {EE:Hp->Prop}
end
end L2
namespace L3
open PySem PySem.Spec PyProof.Rows L2
abbrev X3:=Addr->Gp->Prop
abbrev Spx:=List T->Gp->X3->Prop
section
variable {X:Cx} {x:Str} {C:Addr} {B Bn newId nid initId inN:String} {bm bmN:List Value} {np cpos pos:Pos} {e:Expr} {es:List Expr} {t:TA3} {dx:X3}
end
section
variable {K:Frg} {G G':Gp} {H H':Hp}
mutual
def Rp.sub (z:∀ a vs,SqT K H a vs->SqT K H' a vs):∀ {x:T} {v:V},Rp K H x v->Rp K H' x v
 |_,_,.non=>.non
 |_,_,.bl b=>.bl b
 |_,_,.int i=>.int i
 |_,_,.str x=>.str x
 |_,_,.ref a=>.ref a
 |_,_,.tup h hs=>.tup (z _ _ h) (Rps.sub z hs)
def Rps.sub (z:∀ a vs,SqT K H a vs->SqT K H' a vs):∀ {x:List T} {v:List V},Rps K H x v->Rps K H' x v
 |_,_,.nil=>.nil
 |_,_,.cons a b=>.cons (Rp.sub z a) (Rps.sub z b)
end
def HR.sub (hr:HR K G H) (z:∀ a vs,SqT K H a vs->SqT K H' a vs) (k:∀ a u,G a≠none->H a=some u->H' a=some u):HR K G H':=λa o e=>by
 have q:=hr a o e;have n:G a≠none:=by rw [e];simp
 cases o with
 |lst xs=>obtain ⟨vs,h1,h2⟩:=q;exact ⟨vs,k _ _ n h1,h2.sub z⟩
 |frz xs=>obtain ⟨vs,⟨o,h1⟩,h2⟩:=q;exact ⟨vs,⟨o,k _ _ n h1⟩,h2.sub z⟩
 |dct kvs=>obtain ⟨vs,h1,h2⟩:=q;exact ⟨vs,k _ _ n h1,h2.sub z⟩
 |tab ks xs=>obtain ⟨vs,h1,h2⟩:=q;exact ⟨vs,k _ _ n h1,h2.sub z⟩
 |exn C=>exact k _ _ n q
def HR.kind (hr:HR K G H) {a:Addr} (n:G a≠none):(∃ vs,H a=some (.lst vs))\/(∃ o vs,H a=some (.frz o (.lst vs)))\/(∃ kvs,H a=some (.dK kvs))\/∃ φ,H a=some (.ext φ):=by
 cases e:G a with
 |none=>exact absurd e n
 |some o=>
  have q:=hr a o e;cases o with
  |lst xs=>obtain ⟨vs,h1,_⟩:=q;exact .inl ⟨vs,h1⟩
  |frz xs=>obtain ⟨vs,⟨o,h1⟩,_⟩:=q;exact .inr (.inl ⟨o,vs,h1⟩)
  |dct kvs=>obtain ⟨vs,h1,_⟩:=q;exact .inr (.inr (.inl ⟨_,h1⟩))
  |tab ks xs=>obtain ⟨vs,h1,_⟩:=q;exact .inr (.inr (.inl ⟨_,h1⟩))
  |exn C=>exact .inr (.inr (.inr ⟨_,q⟩))
end
end L3
namespace L2
open PySem PySem.Spec PyProof.Rows
section
variable {X:Cx} {pins:List (Addr×Obj)} {σ:St} {H H':Hp} {s s':Shared}
end
section
variable {M:Model} {A:Around} {E:Value->Shared->Prop}
variable {nm q nm' q':Str} {C N B N':Addr} {bs bm bs' bm':List Value} {hdct hdct':Bool} {sn sn':List Str} {sub sub':List Value} {ab ab':Bool} {col col':Option Bool} {dd dd':Option Addr} {k0 k1 k2 k3 k5 l0 l1 l2 l3 l5:Option Value} {newId newId':String}
end
open L3 (IsX)
section
variable {X:Cx} {pins:List (Addr×Obj)} {σ:St} {H:Hp} {s:Shared} {ea:Addr} {o:HO}
end
section
variable {X:Cx} {pins:List (Addr×Obj)} {σ σ0:St} {H:Hp} {s:Shared} {E:XK} {e:Value}
end
section
variable {X:Cx} {pins:List (Addr×Obj)} {σ:St} {H:Hp} {s s':Shared} {E:XK} {ev:Value}
end
end L2
namespace L2
open PySem PySem.Spec PyProof.Rows PySem.W PySem.Calls Builtin Builtin.ObjectAttr Builtin.Getset_descriptor
open L3 (IsX)
section
variable {prog:Program} {w:World} {A:Around} {E:Value->Shared->Prop} {K:Frag} {e C:Addr}
end
end L2
namespace L3
open PySem PySem.Spec PyProof.Rows L2
abbrev TX3:=X3->St3->Gp->Prop
section
variable {X:Cx} {k:Nat} {x:Str} {sx:Spx} {p pos:Pos} {e:Expr} {es:List Expr} {ta:TA3} {tx ty:TX3}
end
section
variable {X:Cx} {e ce:Expr} {te:TE3} {p pos:Pos} {D:List (Option Addr×Bool)}
end
section
variable {X:Cx}
def qpp (ks:List Str):List Key:=ks.map λk=>(Sum.inr k:Key)
def HR.tab {K:Frg} {G:Gp} {H:Hp} (hr:HR K G H) {p:Addr} {ks:List Str} {xs:List T} (g:G p=some (.tab ks xs)):∃ vs,H p=some (.dK ((qpp ks).zip vs))/\Rps K H xs vs:=hr p _ g
end
end L3
namespace L3
open PySem PySem.Spec PyProof.Rows L2 PySem.SeqAt
section
end
section
variable {X:Cx}
end
end L3
namespace L3
open PySem PySem.Spec PyProof.Rows L2
section
variable {X:Cx} {tg a b c:Expr} {pos:Pos}
end
section
variable {X:Cx}
end
section
variable {prog:Program} {w:World} {A:Around} {E:Value->Shared->Prop} {s:Shared}
end
section
variable {X:Cx}
end
section
variable {prog:Program} {w:World} {A:Around} {E:Value->Shared->Prop} {s:Shared}
end
section
variable {prog:Program} {w:World} {A:Around} {E:Value->Shared->Prop} {s:Shared}
end
section
variable {X:Cx}
end
def D0:∀ {its:List Value} {ys:List Str},zx (ys.map V.str) its->StrsAre its ys
 |_,[],h=>by cases h;exact .nil
 |_,y::ys,h=>by
  cases h with
  |cons r t=>
   obtain ⟨k,rfl⟩:=r;exact .cons y k (D0 t)
def SS:List T->Option (List Str)
 |[]=>some []
 |.str x::r=>(match SS r with|some ns=>some (x::ns)|none=>none)
 |_=>none
def NF (ns:List Str):SS (ns.map T.str)=some ns:=by
 induction ns with
 |nil=>rfl
 |cons n r ih=>simp [SS,ih]
def S9:∀ {xs:List T} {ns:List Str},SS xs=some ns->xs=ns.map T.str
 |[],_,h=>by simp [SS] at h;subst h;rfl
 |x::r,ns,h=>by
  unfold SS at h;split at h
  ·cases h;assumption
  ·rename_i a b c;split at h
   ·rename_i ms e;cases h;cases c;rw [map_cons,← S9 e]
   ·cases h
  ·cases h
def S0 {K:Frg} {H:Hp}:∀ {ys:List Str} {vs:List V},Rps K H (ys.map T.str) vs->vs=ys.map V.str
 |[],_,h=>by cases h;rfl
 |y::ys,_,h=>by
  cases h with
  |cons a b=>cases a;rw [S0 b];rfl
section
variable {X:Cx}
def SN (sep:Str) (ys:List Str):Prop:=(ys.map (·.length)).sum+ys.length*sep.length<=16777216
def qgd:MtM X "str.join" (λx vs H Q=>∃ sep p ys,x=.str sep/\vs=[.ref p]/\SqL X.K H p (ys.map V.str)/\SN sep ys/\Q (.str (Txt.join sep ys)) H):=by
 intro pins s σ H x vs v us Q I rx rv h;obtain ⟨sep,p,ys,rfl,rfl,hq,hb,q⟩:=h;obtain ⟨t,rfl⟩:=rx;obtain ⟨u,rfl,ru⟩:=rv.one;cases (show u=Value.ref p from ru);obtain ⟨its,r,pl,hz⟩:=I.list hq;refine join_list pl.isList (ys:=ys) (by simpa using D0 r) hb λt' k=>?_;exact ⟨.str _,H,I.kept (t':=k) λb o e=>e,⟨t',rfl⟩,q⟩
def XS:T->List T->Gp->Q3->Prop:=λx xs G q=>match x,xs with
 |.str sep,[.ref p]=>(match getL G p with|some ts=>(match SS ts with|some ys=>SN sep ys/\q (.str (Txt.join sep ys)) G|none=>False)|none=>False)
 |_,_=>False
def qbA {K:Frg}:qgR K XS (λx vs H Q=>∃ sep p ys,x=.str sep/\vs=[.ref p]/\SqL K H p (ys.map V.str)/\SN sep ys/\Q (.str (Txt.join sep ys)) H):=λx xs v vs G H q Q hr rx rs h af=>by
 unfold XS at h;split at h
 ·rename_i sep p;split at h
  ·rename_i ts e;split at h
   ·rename_i ys e2;have:=S9 e2;subst this;cases rx;obtain ⟨u,rfl,r⟩:=XV rs;cases r;obtain ⟨us,hs,r2⟩:=zz hr e;have:=S0 r2;subst this;exact ⟨sep,p,ys,rfl,rfl,hs,h.1,af _ G h.2 _ H (.str _) hr Kp.refl⟩
   ·exact h.elim
  ·exact h.elim
 ·exact h.elim
def LN (r:T->List T->Gp->Q3->Prop) (to:TE3) (t:TA3):TE3:=λτ G q=>to τ G λx G1=>(match x with|.str _=>True|_=>False)/\t τ G1 λxs G2=>r x xs G2 q
def qge {e:Expr} {es:List Expr} {t:TA3} {o:Expr} {to:TE3} {name:Str} {apos cpos:Pos} {id:String} {r3:T->List T->Gp->Q3->Prop} {r:V->List V->Hp->VK->Prop} (slot:Slot "str" name id) (hty:typeOf (.builtin id)=pure (.type "method_descriptor")) (hm:MtM X id r) (hr:qgR X.K r3 r) (ho:E3 X o to) (ha:A3 X (e::es) t)
  (hbase:attributeBase o name X.env (eval o X.env)=eval o X.env:=by rfl)
  (hfew:((backTo cpos (starEach (e::es) X.env)).all (λx=>!x.1)&&(backToKw cpos (keywordEach [] X.env)).all (λx=>x.1.isSome)
   && decide ((e::es).length+([]:List Keyword).length+(if ([]:List Keyword).isEmpty then 0 else 1)<30))=true:=by rfl)
  (hline:(apos.endLine==cpos.line)=true:=by rfl) (hs:starEach (e::es) X.env=(false,eval e X.env)::starEach es X.env:=by rfl) (hplain:(backTo cpos (starEach es X.env)).any (·.1)=false:=by rfl) :
  E3 X (.Call (.Attribute o name apos) (e::es) [] cpos) (LN r3 to t):=
 VM (qjy PySem.F.plainAttrs_str slot hty hm ho ha hbase hfew hline hs hplain) λ_ _ _ ⟨τ,G,q,rl,h,af⟩=>qQ rl h λx G1 h1 v H1 rx hr1 k1 rl1=>by
  obtain ⟨hp,h1⟩:=h1;cases x<;>try exact hp.elim
  case str c=>
   cases rx;exact ⟨rfl,ZZ rl1 h1 λxs G2 h2 vs H2 rs hr2 k2 rl2=>hr _ xs _ vs G2 H2 q _ hr2 (.str c) rs h2 (af.back (k1.trans k2))⟩
def SK {t:TA3} {e:Expr} {o:Expr} {to:TE3} {apos cpos:Pos} (ho:jE3 X o to) (ha:jA3 X [e] t)
  (hbase:attributeBase o "join" X.env (eval o X.env)=eval o X.env:=by rfl)
  (hfew:((backTo cpos (starEach [e] X.env)).all (λx=>!x.1)&&(backToKw cpos (keywordEach [] X.env)).all (λx=>x.1.isSome)
   && decide (([e]:List Expr).length+([]:List Keyword).length+(if ([]:List Keyword).isEmpty then 0 else 1)<30))=true:=by rfl)
  (hline:(apos.endLine==cpos.line)=true:=by rfl) (hs:starEach [e] X.env=(false,eval e X.env)::starEach [] X.env:=by rfl) (hplain:(backTo cpos (starEach [] X.env)).any (·.1)=false:=by rfl) :
  jE3 X (.Call (.Attribute o "join" apos) [e] [] cpos) (LN XS to t):=⟨qge PySem.F.slot_str_join PySem.F.type_str_join qgd qbA ho.h ha.h hbase hfew hline hs hplain⟩
def tFs:List (Str ⊕ TE)->Str->TE
 |[],acc=>λ_ H Q=>acc.length<=sizeLine/\Q (.str acc) H
 |.inl x::r,acc=>λσ H Q=>(acc++x).length<=sizeLine/\tFs r (acc++x) σ H Q
 |.inr te::r,acc=>λσ H Q=>te σ H λv H1=>(∃ y,v=.str y/\y.length<=sizeLine/\(acc++y).length<=sizeLine/\tFs r (acc++y) σ H1 Q)\/(∃ i:Int,v=.int i/\i.natAbs.log2<1920/\(acc++Str.ofString (toString i)).length<=sizeLine/\tFs r (acc++Str.ofString (toString i)) σ H1 Q)
inductive FsOk (X:Cx):List Expr->List (Str ⊕ TE)->Prop
 |nil:FsOk X [] []
 |lit {x j pos es r}:FsOk X es r->FsOk X (.Constant (.str x) j pos::es) (.inl x::r)
 |val {e te pos es r}:PE X e te->FsOk X es r->FsOk X (.FormattedValue e (-1) none pos::es) (.inr te::r)
def UO:∀ {es:List Expr} {ps:List (Str ⊕ TE)},FsOk X es ps->∀ {acc:Str} {σ:L2.St} {H:Hp} {Q:VK} {pins:List (Addr×Obj)} {s:Shared},Inv X pins σ H s->tFs ps acc σ H Q ->
  Joins (model X.prog X.w) X.A X.xe (evalEach es X.env) acc (λout s₁=>out.length<=sizeLine/\EP X pins σ Q (.str out s₁.toks) { s₁ with toks:=s₁.toks+1 }) s
 |_,_,.nil,acc,σ,H,Q,pins,s,I,h=>⟨h.1,.str acc,H,I.tok _,⟨_,rfl⟩,h.2⟩
 |_,_,.lit f,acc,σ,H,Q,pins,s,I,h=>Calls.Constant_str ⟨_,_,rfl,h.1,UO f (I.tok _) h.2⟩
 |_,_,.val he f,acc,σ,H,Q,pins,s,I,h=>by
  refine PyProof.Rows.FormattedValue_plain (thn (he pins s σ H _ I h) λv s1 ⟨x,H1,I1,r1,q⟩=>?_);rcases q with ⟨y,rfl,hy,hl,q⟩|⟨i,rfl,hi,hl,q⟩
  ·obtain ⟨t,rfl⟩:=r1;exact PyProof.Rows.formatField_str (λt' tk=>⟨y,t',rfl,hl,UO f (I1.kept (t':=tk) λb o e=>e) q⟩) hy
  ·obtain ⟨t,rfl⟩:=r1;exact wpAny_formatField_int hi ⟨_,_,rfl,hl,UO f (I1.kept (t':=s1.toks+1+1) λb o e=>e) q⟩
def qmc {a b:Expr} {es:List Expr} {ps:List (Str ⊕ TE)} {pos:Pos} (h:FsOk X (a::b::es) ps):PE X (.JoinedStr (a::b::es) pos) (tFs ps Str.empty):=λpins s σ H Q I ht=>wpAny_JoinedStr (UO h I ht)
def fs3:List (Str ⊕ TE3)->Str->TE3
 |[],acc=>λ_ G q=>acc.length<=sizeLine/\q (.str acc) G
 |.inl x::r,acc=>λτ G q=>(acc++x).length<=sizeLine/\fs3 r (acc++x) τ G q
 |.inr te::r,acc=>λτ G q=>te τ G λv G1=>match v with
  |.str y=>y.length<=sizeLine/\(acc++y).length<=sizeLine/\fs3 r (acc++y) τ G1 q
  |.int i=>i.natAbs.log2<1920/\(acc++Str.ofString (toString i)).length<=sizeLine/\fs3 r (acc++Str.ofString (toString i)) τ G1 q
  |_=>False
inductive Fs3 (X:Cx):List Expr->List (Str ⊕ TE3)->Prop
 |nil:Fs3 X [] []
 |lit {x j pos es r}:Fs3 X es r->Fs3 X (.Constant (.str x) j pos::es) (.inl x::r)
 |val {e te pos es r}:jE3 X e te->Fs3 X es r->Fs3 X (.FormattedValue e (-1) none pos::es) (.inr te::r)
def lP (K:Frg):Str ⊕ TE3->Str ⊕ TE
 |.inl x=>.inl x
 |.inr te=>.inr (lE K te)
def Fs3.ok:∀ {es:List Expr} {ps:List (Str ⊕ TE3)},Fs3 X es ps->FsOk X es (ps.map (lP X.K))
 |_,_,.nil=>.nil
 |_,_,.lit f=>.lit f.ok
 |_,_,.val h f=>.val h.h f.ok
def qci {K:Frg}:∀ {ps:List (Str ⊕ TE3)} {acc:Str} {σ:L2.St} {H:Hp} {Q:VK},lE K (fs3 ps acc) σ H Q->tFs (ps.map (lP K)) acc σ H Q
 |[],acc,σ,H,Q,⟨τ,G,q,rl,h,af⟩=>⟨h.1,af _ G h.2 _ H (.str _) rl.hp Kp.refl⟩
 |.inl x::r,acc,σ,H,Q,⟨τ,G,q,rl,h,af⟩=>⟨h.1,qci ⟨τ,G,q,rl,h.2,af⟩⟩
 |.inr te::r,acc,σ,H,Q,⟨τ,G,q,rl,h,af⟩=>by
  refine qQ rl h λx G1 h1 v H1 rx hr1 k1 rl1=>?_;cases x<;>try exact h1.elim
  case str y=>cases rx;exact .inl ⟨y,rfl,h1.1,h1.2.1,qci ⟨τ,G1,q,rl1,h1.2.2,af.back k1⟩⟩
  case int i=>cases rx;exact .inr ⟨i,rfl,h1.1,h1.2.1,qci ⟨τ,G1,q,rl1,h1.2.2,af.back k1⟩⟩
def qmd {a b:Expr} {es:List Expr} {ps:List (Str ⊕ TE3)} {pos:Pos} (h:Fs3 X (a::b::es) ps):jE3 X (.JoinedStr (a::b::es) pos) (fs3 ps Str.empty):=⟨VM (qmc h.ok) λ_ _ _ h=>qci h⟩
end
section
variable {prog:Program} {w:World} {A:Around} {E:Value->Shared->Prop} {s:Shared}
end
section
variable {X:Cx} {pos:Pos}
end
open PySem.SeqAt
section
variable {X:Cx} {pins:List (Addr×Obj)} {σ:L2.St} {H:Hp} {s:Shared}
end
end L3
namespace L3
open PySem PySem.Spec PyProof.Rows L2
open Builtin Builtin.Str
section
variable {prog:Program} {w:World} {A:Around} {E:Value->Shared->Prop} {s:Shared}
def MN {x y:Str} {t u:Tok} {Q:Value->Shared->Prop} (hy:(y.length==0)=false) (hsz:x.length+2<=sizeLine)
  (h:∀ l k,l.map (·.1)=Txt.split x y->Q (.ref s.heap.objs.size) { s with heap:=s.heap.push { cls:=.type "list",data:=.seq (strValues l).toArray },toks:=k }) :
  wpAny (model prog w) A (call (.builtin "str.split") [.str x t,.str y u]) Q E s:=by
 have hn:(partsBetween x (occurrences x y 0 x.length (x.length+1)) y.length).length<=sizeLine:=by
  have e1:=StrLaws.occ_length_le x y 0 x.length (x.length+1);rw [length_partsBetween];omega
 cases h1:(decide (x.length<y.length)||decide (strKind x<strKind y))
 ·cases hf:(occurrences x y 0 x.length (x.length+1)).isEmpty
  ·refine call_meets F.slot_str_split (typeIs_str _ _ _) F.entry_str_split (F.args_str_split_2 _ _) (meets_str_split_sep x y t u h1 hy hf (by omega) hn) ?_;show wants Q E _ { s with toks:=_,heap:=s.heap.push { cls:=.type "list",data:=.seq (strsFrom s.toks (partsBetween x (occurrences x y 0 x.length (x.length+1)) y.length)).toArray } };rw [strsFrom_eq];exact h (numbered s.toks _) _ ((numbered_texts _ _).trans ((if_neg (ne_true_of_eq_false h1)).trans (if_neg (ne_true_of_eq_false hf))).symm)
  ·exact call_meets F.slot_str_split (typeIs_str _ _ _) F.entry_str_split (F.args_str_split_2 _ _) (meets_str_split_not_found x y t u h1 hy hf)
    (h [(x,t)] s.toks ((if_neg (ne_true_of_eq_false h1)).trans (if_pos hf)).symm)
 ·exact call_meets F.slot_str_split (typeIs_str _ _ _) F.entry_str_split (F.args_str_split_2 _ _) (meets_str_split_cannot_occur x y t u h1)
   (h [(x,t)] s.toks (if_pos h1).symm)
end
def CI:∀ (l:List (Str×Tok)),zx ((l.map (·.1)).map V.str) (strValues l)
 |[]=>.nil
 |p::l=>.cons ⟨_,rfl⟩ (CI l)
def NI (x y:Str):(Txt.split x y).length<=x.length+2:=by
 unfold Txt.split;split
 ·simp
 ·split
  ·simp
  ·have e1:=StrLaws.occ_length_le x y 0 x.length (x.length+1);rw [length_partsBetween];omega
section
variable {X:Cx}
def qae:MtM X "str.startswith" (λx vs H Q=>∃ a b,x=.str a/\vs=[.str b]/\Q (.bl (Txt.startswith a b)) H):=by
 intro pins s σ H x vs v us Q I rx rv h;obtain ⟨a,b,rfl,rfl,q⟩:=h;obtain ⟨t,rfl⟩:=rx;obtain ⟨u,rfl,ru⟩:=rv.one;obtain ⟨k,rfl⟩:=ru;exact SC.startswith ⟨.bl _,H,I,rfl,q⟩
def UV:T->List T->Gp->Q3->Prop:=λx xs G q=>match x,xs with
 |.str a,[.str b]=>q (.bl (Txt.startswith a b)) G
 |_,_=>False
def LB {K:Frg}:qgR K UV (λx vs H Q=>∃ a b,x=.str a/\vs=[.str b]/\Q (.bl (Txt.startswith a b)) H):=λx xs v vs G H q Q hr rx rs h af=>by
 unfold UV at h;split at h
 ·cases rx;obtain ⟨u,rfl,r⟩:=XV rs;cases r;exact ⟨_,_,rfl,rfl,af _ G h _ H (.bl _) hr Kp.refl⟩
 ·exact h.elim
def qcr:MtM X "str.split" (λx vs H Q=>∃ a b,x=.str a/\vs=[.str b]/\b.length≠0/\a.length+2<=sizeLine/\∀ l,H l=none->Q (.ref l) (upd H l (.lst ((Txt.split a b).map V.str)))):=by
 intro pins s σ H x vs v us Q I rx rv h;obtain ⟨a,b,rfl,rfl,hb,hz,q⟩:=h;obtain ⟨t,rfl⟩:=rx;obtain ⟨u,rfl,ru⟩:=rv.one;obtain ⟨k,rfl⟩:=ru;refine MN (by simpa using hb) hz λl tk e=>?_;refine ⟨.ref s.heap.objs.size,_,I.laid (t':=tk) (o:=.lst ((Txt.split a b).map V.str)) (λb ob q=>Heap.get?_push_of_some _ q) (Nat.le_refl _) ?_,rfl,q _ (I.hok.fresh (Nat.le_refl _))⟩;refine ⟨by rw [length_map];exact Nat.le_trans (NI a b) hz,strValues l,0,?_,Heap.get?_push_size _ rfl⟩;rw [← e];exact CI l
def RE:T->List T->Gp->Q3->Prop:=λx xs G q=>match x,xs with
 |.str a,[.str b]=>b.length≠0/\a.length+2<=sizeLine/\∀ p,G p=none->q (.ref p) (gu G p (.lst ((Txt.split a b).map T.str)))
 |_,_=>False
def U3 {K:Frg} {H:Hp}:∀ (ys:List Str),Rps K H (ys.map T.str) (ys.map V.str)
 |[]=>.nil
 |y::ys=>.cons (.str y) (U3 ys)
def N4 {K:Frg}:qgR K RE (λx vs H Q=>∃ a b,x=.str a/\vs=[.str b]/\b.length≠0/\a.length+2<=sizeLine/\∀ l,H l=none->Q (.ref l) (upd H l (.lst ((Txt.split a b).map V.str)))):=λx xs v vs G H q Q hr rx rs h af=>by
 unfold RE at h;split at h
 ·cases rx;obtain ⟨u,rfl,r⟩:=XV rs;cases r;exact ⟨_,_,rfl,rfl,h.1,h.2.1,λl hl=>af _ _ (h.2.2 l (hr.free hl)) _ _ (.ref l) (hr.newL hl (U3 _)) (Kp.newL hl)⟩
 ·exact h.elim
def qak {t:TA3} {e:Expr} {o:Expr} {to:TE3} {apos cpos:Pos} (ho:jE3 X o to) (ha:jA3 X [e] t)
  (hbase:attributeBase o "startswith" X.env (eval o X.env)=eval o X.env:=by rfl)
  (hfew:((backTo cpos (starEach [e] X.env)).all (λx=>!x.1)&&(backToKw cpos (keywordEach [] X.env)).all (λx=>x.1.isSome)
   && decide (([e]:List Expr).length+([]:List Keyword).length+(if ([]:List Keyword).isEmpty then 0 else 1)<30))=true:=by rfl)
  (hline:(apos.endLine==cpos.line)=true:=by rfl) (hs:starEach [e] X.env=(false,eval e X.env)::starEach [] X.env:=by rfl) (hplain:(backTo cpos (starEach [] X.env)).any (·.1)=false:=by rfl) :
  jE3 X (.Call (.Attribute o "startswith" apos) [e] [] cpos) (LN UV to t):=⟨qge PySem.F.slot_str_startswith PySem.F.type_str_startswith qae LB ho.h ha.h hbase hfew hline hs hplain⟩
def qcF {t:TA3} {e:Expr} {o:Expr} {to:TE3} {apos cpos:Pos} (ho:jE3 X o to) (ha:jA3 X [e] t)
  (hbase:attributeBase o "split" X.env (eval o X.env)=eval o X.env:=by rfl)
  (hfew:((backTo cpos (starEach [e] X.env)).all (λx=>!x.1)&&(backToKw cpos (keywordEach [] X.env)).all (λx=>x.1.isSome)
   && decide (([e]:List Expr).length+([]:List Keyword).length+(if ([]:List Keyword).isEmpty then 0 else 1)<30))=true:=by rfl)
  (hline:(apos.endLine==cpos.line)=true:=by rfl) (hs:starEach [e] X.env=(false,eval e X.env)::starEach [] X.env:=by rfl) (hplain:(backTo cpos (starEach [] X.env)).any (·.1)=false:=by rfl) :
  jE3 X (.Call (.Attribute o "split" apos) [e] [] cpos) (LN RE to t):=⟨qge PySem.F.slot_str_split PySem.F.type_str_split qcr N4 ho.h ha.h hbase hfew hline hs hplain⟩
end
end L3
namespace L3
open PySem PySem.Spec PyProof.Rows L2
section
variable {prog:Program} {w:World} {A:Around} {E:Value->Shared->Prop} {s:Shared}
def SG {l:Addr} {items:Array Value} {v0:Value} {r:List Value} {Q:List Value->Shared->Prop} (hh:A.handled=none) (hl:s.heap.IsList l items) (e:items.toList=v0::r) (hz:items.size<=16384)
  (h:∀ (h':Heap) (tk:Nat),(∀ b o,s.heap.get? b=some o->h'.get? b=some o)->Q [v0,.ref h'.objs.size] { s with heap:=h'.push { cls:=.type "list",data:=.seq r.toArray },toks:=tk }):wpAny (model prog w) A (unpackItems (.ref l) 2 (some 1)) Q E s:=by
 have hlt:l≠s.heap.objs.size:=by obtain ⟨o,ho,_⟩:=hl;exact Nat.ne_of_lt (Heap.lt_size ho)
 have hs:items.size=r.length+1:=by rw [← Array.length_toList,e];rfl
 unfold unpackItems;refine wpAny_bind ?_;unfold notIterableAtAll;refine wpAny_bind (wpAny_specialOf hl.typeIs PySem.F.slot_list_iter.lookup ?_);refine wpAny_pure ?_;simp only [Bool.false_eq_true,if_false];refine wpAny_bind (wpAny_holding (wpAny_pyIter_list hl ?_));refine wpAny_bind (wpAny_holding (PySem.W.kun_draw hlt 1 0 _ _ ⟨_,Heap.get?_push_size _ rfl,rfl,rfl⟩ (hl.push _) (by omega) λh₁ hit₁ hs₁=>?_));have hl₁:h₁.IsList l items:=(hl.push _).extBut hs₁.extBut hlt;rw [Nat.zero_add] at hit₁;have hit₁':=hit₁;obtain ⟨oi,hoi,_⟩:=hit₁';have hl₁':=hl₁;obtain ⟨ol,hol,_⟩:=hl₁';rw [List.drop_zero];have e1:items.toList.take 1=[v0]:=by rw [e];rfl
 have e2:items.toList.drop 1=r:=by rw [e];rfl
 rw [e1];rw [if_neg (show ¬ (([v0]:List Value).length<1) by simp)];refine wpAny_bind (wpAny_holding (PySem.W.kun_collect (s:={ s with heap:=h₁ }) (T:="list_iterator") (.inr (.inr (.inl rfl))) (PySem.Walks.list (A:=A.in1) hh s.heap.objs.size l hlt items) (λj u st=>st.1.typeIs) (k:=1) (by omega) ⟨hit₁,hl₁⟩ (Heap.lt_size hoi) (Heap.lt_size hol) (λh₂ tk hk=>?_) (by rw [sizeLine_eq];omega)));rw [e2];show wpAny _ _ (if r.length<2-1-1 then _ else _) _ _ _;rw [if_neg (by omega)];show wpAny _ _ (newList (r.take (r.length-(2-1-1))) >>= λd=>pure ([v0]++[d]++r.drop (r.length-(2-1-1)))) _ _ _;have e3:r.take (r.length-(2-1-1))=r:=List.take_of_length_le (by omega);have e4:r.drop (r.length-(2-1-1))=[]:=List.drop_of_length_le (by omega);rw [e3,e4];have he:Heap.ExtBut s.heap.objs.size s.heap h₂:=λb o hb e=>hk b o hb (hs₁.extBut b o hb (Heap.get?_push_of_some _ e));exact wpAny_bind (wpAny_newList (wpAny_pure (h h₂ tk λb o e=>he b o (Nat.ne_of_lt (Heap.lt_size e)) e)) (by rw [sizeLine_eq];omega))
end
section
variable {X:Cx} {pos:Pos}
def qm3 (K:Frg) (t:TGs):TG:=λv σ H Q=>∃ a x xs,v=.ref a/\SqL K H a (x::xs)/\xs.length<16384/\∀ l,H l=none->t [x,.ref l] σ (upd H l (.lst xs)) Q
def qgI {e1 e2:Expr} {k:Nat} {t:TGs} {p:Pos} (hc:X.calm=true) (h:PGs X [e1,e2] t)
  (hn:(assignEach [e1,.Starred e2 p] X.env).length=2:=by rfl) (hst:(assignEach [e1,.Starred e2 p] X.env).findIdx? (·.1)=some 1:=by rfl)
  (hm:(assignEach [e1,.Starred e2 p] X.env).map (·.2)=(assignEach [e1,e2] X.env).map (·.2):=by rfl):PG X (.Tuple [e1,.Starred e2 p] k pos) (qm3 X.K t):=by
 intro pins s σ H v u Q I r hw;obtain ⟨a,x,xs,e,hq,hl,hw⟩:=hw;subst e;cases r;obtain ⟨its,rv,ht,hz⟩:=I.list hq;cases rv with
 |cons r0 rr=>
  rename_i v0 vr;rw [assign_Tuple];refine wpAny_bind (wpAny_standAt ?_);unfold unpack;rw [hn,hst,hm];refine wpAny_bind (wpAny_holding (SG (v0:=v0) (r:=vr) (I.ok.hd hc) ht.isList (by simp) (by have:=rr.length;simp;omega) λh' tk hk=>?_));have I1:Inv X pins σ H { s with heap:=h',toks:=tk }:=I.kept (t':=tk) hk;have I2:Inv X pins σ (upd H h'.objs.size (.lst xs)) { s with heap:=h'.push { cls:=.type "list",data:=.seq vr.toArray },toks:=tk }:=I1.laid (t':=tk) (o:=.lst xs) (λb ob q=>Heap.get?_push_of_some _ q) (Nat.le_refl _) ⟨by rw [sizeLine_eq];omega,vr,0,rr,Heap.get?_push_size _ rfl⟩;exact h pins _ σ _ [x,.ref h'.objs.size] _ Q I2 (.cons r0 (.cons rfl .nil)) (hw _ (I1.hok.fresh (Nat.le_refl _)))
def TH (t:XX):TG3:=λx τ G q=>match x with|.ref p=>(match getL G p with|some (y::ys)=>ys.length<16384/\∀ l,G l=none->t [y,.ref l] τ (gu G l (.lst ys)) q|_=>False)|_=>False
def qgs {e1 e2:Expr} {k:Nat} {tgs:XX} {p:Pos} (hc:X.calm=true) (h:jGs3 X [e1,e2] tgs)
  (hn:(assignEach [e1,.Starred e2 p] X.env).length=2:=by rfl) (hst:(assignEach [e1,.Starred e2 p] X.env).findIdx? (·.1)=some 1:=by rfl)
  (hm:(assignEach [e1,.Starred e2 p] X.env).map (·.2)=(assignEach [e1,e2] X.env).map (·.2):=by rfl):jG3 X (.Tuple [e1,.Starred e2 p] k pos) (TH tgs):=
 ⟨qlC (qgI hc h.h hn hst hm) λv σ H Q ⟨x,τ,G,q,rx,rl,h,af⟩=>by
  cases x<;>try exact h.elim
  case ref p=>
   cases rx;have h':(match getL G p with|some (y::ys)=>ys.length<16384/\∀ l,G l=none->tgs [y,.ref l] τ (gu G l (.lst ys)) q|_=>False):=h;split at h'
   ·rename_i y ys e;obtain ⟨us,hs,r2⟩:=zz rl.hp e;cases r2 with
    |cons ry rr=>
     rename_i v1 vs1;refine ⟨_,_,_,rfl,hs,by rw [← rr.length];exact h'.1,λl hl=>?_⟩;have kp:Kp G H (gu G l (.lst ys)) (upd H l (.lst vs1)):=Kp.newL hl;have hr2:=rl.hp.newL hl rr;exact ⟨_,τ,_,q,.cons (ry.keep rl.hp kp) (.cons (.ref l) .nil),rl.next hr2 kp,h'.2 l (rl.hp.free hl),af.back kp⟩
   ·exact h'.elim⟩
def MS:ZI X (.type "int") (λxs H Q=>∃ x n,xs=[.str x]/\PySem.intText? x=some n/\x.length<=640/\Q (.int n) H):=by
 intro pins s σ H xs us Q I r h;obtain ⟨x,n,rfl,hn,hl,q⟩:=h;obtain ⟨u,rfl,t,rfl⟩:=EM r;exact PySem.W.KIN.call_text hn hl ⟨.int n,H,I.tok _,⟨_,rfl⟩,q⟩
def qcx:List T->Gp->Q3->Prop:=λxs G q=>match xs with|[.str x]=>x.length<=640/\∃ n,PySem.intText? x=some n/\q (.int n) G|_=>False
def qck {K:Frg}:TU K qcx (λxs H Q=>∃ x n,xs=[.str x]/\PySem.intText? x=some n/\x.length<=640/\Q (.int n) H):=λxs vs G H q Q hr rs h af=>by
 unfold qcx at h;split at h
 ·obtain ⟨v,rfl,r⟩:=XV rs;cases r;obtain ⟨hl,n,hn,h⟩:=h;exact ⟨_,n,rfl,hn,hl,af _ G h _ H (.int _) hr Kp.refl⟩
 ·exact h.elim
end
def Its (x:Str):It:=⟨λi _=>i<x.cps.size,λi H v H'=>H'=H/\∃ c,x.cps[i]?=some c/\v=.str ⟨#[c]⟩,λi _=>x.cps.size<=i⟩
def qcV {P:Program} {w:World} {K:Frg} {tg:Expr} (x:Str) (t:Tok) (it:Addr):Turn P w K tg (Its x) [it] it (λi h=>i<=x.cps.size/\h.IsStrIter it "str_ascii_iterator" x t i) where
 mem:=by simp
 obj:=λi h st b hb=>by
  have e:b=it:=by simpa using hb
  subst e;obtain ⟨_,o,e,c,d⟩:=st;exact ⟨o,e,λv z=>by rw [d] at z;cases z⟩
 keep:=λi h h' st k=>let ⟨o,ho,r⟩:=st.2;⟨st.1,o,k it (by simp) o ho,r⟩
 item:=by
  intro X hP hw hK hc i pins s σ H E I hf st hg;subst hP hw hK;obtain ⟨f0,f1,f2,f3,f4,f5⟩:=hf it (by simp);have hi:i<x.cps.size:=hg;refine (PySem.Walks.strAscii (A:=X.A) (I.ok.hd hc) it x t).item i s _ _ hi st.2 λv h' tk hp st' hk=>?_;obtain ⟨c,u,e1,rfl⟩:=hp;have I1:Inv X pins σ H { s with heap:=h',toks:=tk }:=I.turned (t':=tk) (λb o hb e=>hk b o (by simpa using hb) e) f0 f1 f3 f4 f5;obtain ⟨o,e,c',d⟩:=id st';exact ⟨_,rfl,qcb (s:={ s with heap:=h',toks:=tk }) e c' d (by decide) ⟨.str ⟨#[c]⟩,H,I1,⟨_,rfl⟩,⟨rfl,c,e1,rfl⟩,⟨by omega,st'⟩,λb hb=>(hf b hb).1⟩⟩
 done:=by
  intro X hP hw hK hc i pins s σ H E I hf st hg;subst hP hw hK;obtain ⟨f0,f1,f2,f3,f4,f5⟩:=hf it (by simp);have hi:i=x.cps.size:=Nat.le_antisymm st.1 hg;subst hi;exact (PySem.Walks.strAscii (A:=X.A) (I.ok.hd hc) it x t).done s _ _ st.2 λh' tk hk=>⟨rfl,I.turned (t':=tk) (λb o hb e=>hk b o (by simpa using hb) e) f0 f1 f3 f4 f5⟩
 self:=λ_ _ _ _ _ st h=>wpAny_pyIter_striter_ascii st.2 h
def VY (x:Str):List T:=x.cps.toList.map λc=>T.str ⟨#[c]⟩
def qks {K:Frg} {x:Str} {G0:Gp} {H0:Hp}:qfi K (Its x) (VY x) (λ_=>True) G0 H0:=by
 intro G H hr k _;have hl:(VY x).length=x.cps.size:=by simp [VY]
 refine ⟨λi y hi=>?_,λi y v H' hi z=>?_,(show x.cps.size<=(VY x).length by rw [hl];exact Nat.le_refl _)⟩
 ·have:=(List.getElem?_eq_some_iff.mp hi).1;rw [hl] at this;exact this
 ·obtain ⟨e,c,e1,e2⟩:=z;subst e e2;unfold VY at hi;rw [getElem?_map,Array.getElem?_toList,e1] at hi;cases hi;exact ⟨.str _,hr,Kp.refl⟩
section
variable {X:Cx} {tg l:Expr}
def qpb (tl:TE):TI:=λσ H R=>tl σ H λv H1=>∃ x,v=.str x/\x.cps.all (·<128)=true/\R (Its x) H1
def qiA {tl:TE} (hl:PE X l tl):PI X tg l (qpb tl):=by
 intro pins s σ H R I h;refine thn (hl pins s σ H _ I h) λv s1 ⟨x,H1,I1,r1,q1⟩=>?_;obtain ⟨y,e,ha,q⟩:=q1;subst e;obtain ⟨t,rfl⟩:=r1;refine wpAny_pyIter_ascii ha ?_;refine ⟨s1.heap.objs.size,[s1.heap.objs.size],_,_,H1,rfl,I1.kept (t':=s1.toks) λb o e=>Heap.get?_push_of_some _ e,qcV y t _,⟨Nat.zero_le _,_,Heap.get?_push_size _ rfl,rfl,rfl⟩,λb hb=>?_,q⟩;have e:b=s1.heap.objs.size:=by simpa using hb
 subst e;exact I1.fpOk (Nat.le_refl _) (I1.hok.fresh (Nat.le_refl _))
def qfZ (tl:TE3):TI3:=λτ G r=>tl τ G λv G1=>match v with
 |.str x=>x.cps.all (·<128)=true/\r (VY x) (λ_=>True) G1
 |_=>False
def qhy {te:TE3} (hl:jE3 X l te):jI3 X tg l (qfZ te):=⟨qlk (qiA hl.h) λσ H R ⟨τ,G,r,rl,h,af⟩=>qQ rl h λx G1 h1 v H1 rx hr1 k1 rl1=>by
 cases x<;>try exact h1.elim
 case str y=>
  cases rx;exact ⟨_,rfl,h1.1,af _ _ G1 h1.2 _ H1 hr1 k1 qks⟩⟩
def qji:OpR X (compareOp .In) (λx y H Q=>∃ a b,x=.str a/\y=.str b/\Q (.bl (Txt.contains b a)) H):=by
 intro pins s σ H x y v u Q I rx ry h;obtain ⟨a,b,rfl,rfl,q⟩:=h;obtain ⟨t,rfl⟩:=rx;obtain ⟨t',rfl⟩:=ry;exact SB.contains ⟨.bl _,H,I,rfl,q⟩
def qly:R3:=λx y G q=>match x,y with
 |.str a,.str b=>q (.bl (Txt.contains b a)) G
 |_,_=>False
def qf6 {K:Frg}:UH K qly (λx y H Q=>∃ a b,x=.str a/\y=.str b/\Q (.bl (Txt.contains b a)) H):=λx y v u G H q Q hr rx ry h af=>by
 unfold qly at h;split at h
 ·cases rx;cases ry;exact ⟨_,_,rfl,rfl,af _ _ h _ _ (.bl _) hr Kp.refl⟩
 ·exact h.elim
end
def qmN {X:Cx} {x y:Str} {pos:Pos} (hg:Gl X x) (hm:∃ t,X.mg x=some (.str y t)) (hd:(x==("__debug__" : Str))=false:=by decide):jE3 X (.Name x pos) (c3 (.str y)):=by
 obtain ⟨t,hm⟩:=hm;exact ⟨e_c (WV (v:=.str y) hg hm ⟨t,rfl⟩ hd) λ_=>.str y⟩
def qmh {X:Cx} {x:Str} {y:Int} {pos:Pos} (hg:Gl X x) (hm:∃ t,X.mg x=some (.int y t)) (hd:(x==("__debug__" : Str))=false:=by decide):jE3 X (.Name x pos) (c3 (.int y)):=by
 obtain ⟨t,hm⟩:=hm;exact ⟨e_c (WV (v:=.int y) hg hm ⟨t,rfl⟩ hd) λ_=>.int y⟩
def NQ:Sp3:=λ_ _ _=>False
def qcW {P:Program} {w:World} {K:Frg} {mg:Str->Option Value} {base:Heap} {x qual:Str} {st:Stmt} {f:Addr} {fd:FuncData} {ps:List Str} (F:Fun K x qual st f fd) (bd:zw K fd ps []) (hm:mg x=some (.ref f)):Fn3 P w K mg base 0 x NQ:=
 ⟨f,fd,ps,⟨λvs H Q E ⟨_,_,_,_,_,h,_⟩=>h.elim,λA outer s H args us vs Q E _ _ _ _ ⟨_,_,_,_,_,h,_⟩=>h.elim⟩,bd,F.kp,hm⟩
def ixR (p:Addr) (i:Int) (G:Gp) (q:Q3):ix3 (.ref p) (.int i) G q=(match getL G p with|some xs=>(match L2.atI xs i with|some z=>q z G|none=>False)|none=>False):=rfl
def TV {α:Type} {xs:List α} {i:Int} (h0:0<=i) (h1:i<(xs.length:Int)):L2.atI xs i=xs[i.toNat]?:=by
 unfold L2.atI ixN;have e1:i.toNat<xs.length:=by omega
 simp [h0,e1,h1]
def RG:¬ Str.ofString "row" = Str.ofString "block" := by decide
def RM:¬ Str.ofString "row" = Str.ofString "step" := by decide
def RA:¬ Str.ofString "row" = Str.ofString "cells" := by decide
def U4:¬ Str.ofString "column" = Str.ofString "block" := by decide
def DI:¬ Str.ofString "column" = Str.ofString "step" := by decide
def EU:¬ Str.ofString "column" = Str.ofString "cells" := by decide
def E9:¬ Str.ofString "slant" = Str.ofString "block" := by decide
def WI:¬ Str.ofString "slant" = Str.ofString "step" := by decide
def DA:¬ Str.ofString "slant" = Str.ofString "cells" := by decide
def WT:¬ Str.ofString "back" = Str.ofString "block" := by decide
def C0:¬ Str.ofString "back" = Str.ofString "step" := by decide
def XD:¬ Str.ofString "back" = Str.ofString "cells" := by decide
def DB:¬ Str.ofString "block" = Str.ofString "cells" := by decide
def J3:¬ Str.ofString "step" = Str.ofString "block" := by decide
def XM:¬ Str.ofString "step" = Str.ofString "cells" := by decide
def E7:¬ Str.ofString "cells" = Str.ofString "block" := by decide
def W5:¬ Str.ofString "cells" = Str.ofString "step" := by decide
def cm {i j:Int} (h1:-1000000<j) (h2:j<1000000):J1 i j:=.inr ⟨by omega,by omega⟩
def qbJ {stay:Gp->Prop} {g:TG3} {tif:TT3} {te:TE3} {q:Q3} (items:List T) (Pv:Nat->List T->St3->Gp->Prop) {τ:St3} {G:Gp} (h0:Pv 0 [] τ G) (hst:∀ i ys τ G,i<=items.length->Pv i ys τ G->stay G)
  (hs:∀ i x ys τ G (R:List T->St3->Gp->Prop),items[i]?=some x->Pv i ys τ G->(∀ ys' τ' G',Pv (i+1) ys' τ' G'->R ys' τ' G') ->
   g x τ G λτ2 G2=>tif τ2 G2 λk G3=>if k=true then te τ2 G3 λy G4=>ys.length<sizeLine/\R (ys++[y]) τ2 G4 else R ys τ2 G3)
  (hd:∀ ys τ G,Pv items.length ys τ G->∀ p,G p=none->q (.ref p) (gu G p (.lst ys))):qbr stay g tif te q items [] τ G:=by
 have key:∀ (r:List T) (i:Nat) ys τ G,items.drop i=r->i<=items.length->Pv i ys τ G->qbr stay g tif te q r ys τ G:=by
  intro r;induction r with
  |nil=>
   intro i ys τ G e hi p;have:i=items.length:=by have:=congrArg List.length e;simp at this;omega
   subst this;exact ⟨hst _ ys τ G hi p,hd ys τ G p⟩
  |cons x r ih=>
   intro i ys τ G e hi p;have hl:i<items.length:=by
    apply Classical.byContradiction;intro z;rw [List.drop_eq_nil_of_le (by omega)] at e;cases e
   have e':=List.drop_eq_getElem_cons hl;rw [e] at e';injection e' with e1 e2;exact ⟨hst i ys τ G hi p,hs i x ys τ G _ (by rw [getElem?_eq_getElem hl,e1]) p λys2 τ2 G2 p2=>ih (i+1) ys2 τ2 G2 e2.symm hl p2⟩
 exact key items 0 [] τ G (by simp) (Nat.zero_le _) h0
def qaR {lo:Int} {n i:Nat} {x:T} (h:(L6 lo n)[i]?=some x):i<n/\x=T.int (lo+(i:Int)):=by
 unfold L6 at h;rw [getElem?_map] at h;cases e:(List.range n)[i]? with
 |none=>rw [e] at h;cases h
 |some k=>
  rw [e] at h;obtain ⟨hi,hk⟩:=List.getElem?_eq_some_iff.mp e;simp at hi hk;subst hk;exact ⟨hi,by simpa using h.symm⟩
def qgx (lo:Int) (n:Nat):(L6 lo n).length=n:=by simp [L6]
end L3
namespace Bk
open PySem L2 L3
def Q8:TS3:=(zh (jy (EX (λt=>j2 t "int") (v3 0)) (M0 (EX (λt=>j2 t "bool") (v3 0)))))
def YJ (S_is_number:Sp3):TS3:=(zh (jy (EX (λt=>j2 t "tuple") (v3 0)) (jy (o3 (zK false) (cb3 U8 (qc (v3 0) qk)) (c3 (.int 2))) (jy (cb3 S_is_number (qc (o3 ix3 (v3 0) (c3 (.int 0))) qk)) (cb3 S_is_number (qc (o3 ix3 (v3 0) (c3 (.int 1))) qk))))))
def YN:TS3:=(zd (jc (o3 (iC (λ_ j=>0<j) (·%·)) (o3 (iC J1 (·*·)) (o3 jX (o3 jX (o3 (iC (λ_ j=>0<j) (·%·)) (v3 0) (c3 (.int 2147483629))) (o3 (iC J1 (·*·)) (o3 (iC J1 (·*·)) (v3 1) (v3 1)) (c3 (.int 7919)))) (c3 (.int 11))) (c3 (.int 48271))) (c3 (.int 2147483647))) (gn3 2)) (zh (o3 (iC (λ_ j=>0<j) (·%·)) (o3 (iC J1 (·*·)) (v3 2) (v3 2)) (c3 (.int 1999999973)))))
def JD:TS3:=(zd (jc (if3 (tb3 (o3 (iB λi j=>decide (i<j)) (v3 1) (cb3 U8 (qc (v3 0) qk)))) (o3 ix3 (v3 0) (v3 1)) (c3 (.int 0))) (gn3 2)) (zd (jc (if3 (tb3 (o3 (iB λi j=>decide (j<=i)) (cb3 qkH (qc (v3 2) qk)) (o3 (iC qlo (λi j=>i ^ j.toNat)) (c3 (.int 10)) (c3 (.int 18))))) (cb3 qkH (qc (v3 2) qk)) (c3 (.int 0))) (gn3 3)) (zh (VX (qc (v3 3) (qc (o3 jX (v3 2) (o3 (iC J1 (·*·)) (c3 (.int 1000003)) (v3 1))) (qc (c3 (.int 0)) qk)))))))
def JB (S_law_mix:Sp3):TS3:=(zd (jc (o3 jX (o3 ix3 (v3 0) (c3 (.int 2))) (c3 (.int 1))) (WN (v3 0) (c3 (.int 2)))) (zd (jx (tb3 (o3 (iB λi j=>decide (j<i)) (o3 ix3 (v3 0) (c3 (.int 0))) (c3 (.int 0)))) (zd (jc (o3 (iC (λ_ j=>0<j) (·%·)) (o3 ix3 (v3 0) (c3 (.int 0))) (v3 1)) (gn3 2)) (zd (jc (o3 (iC qbw (·/·)) (o3 ix3 (v3 0) (c3 (.int 0))) (v3 1)) (WN (v3 0) (c3 (.int 0)))) (zh (v3 2)))) qS) (zh (o3 (iC (λ_ j=>0<j) (·%·)) (o3 (iC qbw (·/·)) (cb3 S_law_mix (qc (cb3 S_law_mix (qc (o3 ix3 (v3 0) (c3 (.int 1))) (qc (o3 ix3 (v3 0) (c3 (.int 2))) qk))) (qc (o3 jX (o3 ix3 (v3 0) (c3 (.int 2))) (c3 (.int 64))) qk))) (c3 (.int 64))) (v3 1)))))
def VG (S_law_same:Sp3):TS3:=(zd (jx (tb3 (EX (λt=>j2 t "list" || j2 t "tuple") (v3 1))) (zd (jx (or3 (tb3 (o3 (zK true) (EX (λt=>j2 t "list") (v3 0)) (EX (λt=>j2 t "list") (v3 1)))) (tb3 (o3 (zK true) (EX (λt=>j2 t "tuple") (v3 0)) (EX (λt=>j2 t "tuple") (v3 1))))) (zh (c3 (.bl false))) qS) (zh (jy (o3 (zK false) (cb3 U8 (qc (v3 0) qk)) (cb3 U8 (qc (v3 1) qk))) (cb3 qbf (qc (lc3 (qbS (qc (v3 0) (qc (v3 1) qk))) (DK 2 (zL (gn3 0) (zL (gn3 1) UA))) tt3 (cb3 S_law_same (qc (v3 0) (qc (v3 1) qk))) [none,none]) qk))))) qS) (zd (jx (or3 (tb3 (o3 (qlS false) (v3 1) (c3 .non))) (tb3 (EX (λt=>j2 t "str" || j2 t "bool") (v3 1)))) (zh (jy (o3 (zK false) (v3 0) (v3 1)) (jy (o3 (zK false) (EX (λt=>j2 t "bool") (v3 0)) (EX (λt=>j2 t "bool") (v3 1))) (o3 (zK false) (o3 (qlS false) (v3 0) (c3 .non)) (o3 (qlS false) (v3 1) (c3 .non)))))) qS) (zh (jy (EX (λt=>j2 t "int") (v3 0)) (jy (M0 (EX (λt=>j2 t "bool") (v3 0))) (o3 (zK false) (v3 0) (v3 1)))))))
abbrev qgO (q:Q3):Ends3:={ nx:=λ_ G'=>q .non G',rt:=q }
def Q1 {A B:TS3} {d:Ends3} {τ:St3} {G:Gp} (h:∀ nx,nx=B d->A { d with nx:=nx } τ G):zd A B d τ G:=h _ rfl
def Lf (G:Gp) (a:Addr) (n:Int):Prop:=∃ o c m,G a=some (.lst [.int o,.int c,.int m])/\0<=o/\0<=m/\m<=n
def Ext (a:Addr) (G G':Gp):Prop:=∀ b o,b≠a->G b=some o->G' b=some o
def Lf.ne {G:Gp} {a p:Addr} {n:Int} (h:Lf G a n) (hp:G p=none):p≠a:=by
 rintro rfl;obtain ⟨o,c,m,e,_⟩:=h;rw [hp] at e;cases e
def Lf.new {G:Gp} {a p:Addr} {n:Int} {ob:O} (h:Lf G a n) (hp:p≠a):Lf (gu G p ob) a n:=by
 obtain ⟨o,c,m,e,r⟩:=h;exact ⟨o,c,m,by rw [zm (Ne.symm hp)];exact e,r⟩
def Lf.mono {G:Gp} {a:Addr} {n k:Int} (h:Lf G a n) (hk:n<=k):Lf G a k:=by
 obtain ⟨o,c,m,e,h1,h2,h3⟩:=h;exact ⟨o,c,m,e,h1,h2,by omega⟩
def Lf.ex {G G':Gp} {a:Addr} {n:Int} (h:Lf G a n) (e:Ex G G'):Lf G' a n:=by
 obtain ⟨o,c,m,e1,h1⟩:=h;exact ⟨o,c,m,e _ _ e1,h1⟩
def Ext.trans {a:Addr} {G G1 G2:Gp} (x:Ext a G G1) (y:Ext a G1 G2):Ext a G G2:=λb o hb e=>y b o hb (x b o hb e)
def UZ {a p:Addr} {G:Gp} {ob:O} (hp:G p=none):Ext a G (gu G p ob):=λb o _ e=>by
 rw [zm (by rintro rfl;rw [hp] at e;cases e)];exact e
def DW {a:Addr} {G G':Gp} (h:Ex G G'):Ext a G G':=λb o _ e=>h b o e
def DR:Sp3:=λts G q=>∃ c k,ts=[.int c,.int k]/\0<=k/\k<4294967296/\∀ m,0<=m->m<1999999973->q (.int m) G
def QX:Sp3:=λts G q=>∃ (a:Addr) (k:Int) (ns:List Int),ts=[.ref a,.int k]/\G a=some (.frz (ns.map T.int))/\ns.length<=63/\0<=k/\k<=63/\∀ p o c,G p=none->0<=o->q (.ref p) (gu G p (.lst [.int o,.int c,.int 0]))
def qV:Sp3:=λts G q=>∃ a n many,ts=[.ref a,.int many]/\1<=many/\many<1073741824/\Lf G a n/\n<1073741824/\∀ d G',0<=d->d<many->Lf G' a (n+1)->Ext a G G'->q (.int d) G'
def QQ {a:Addr} {n many:Int} {G:Gp} {q:Q3} (hL:Lf G a n) (h1:1<=many) (h2:many<1073741824) (hn:n<1073741824) (h:∀ d G',0<=d->d<many->Lf G' a (n+1)->Ext a G G'->q (.int d) G'):qV [.ref a,.int many] G q:=⟨a,n,many,rfl,h1,h2,hL,hn,h⟩
def LD:∀ ts G q,DR ts G q->ts.length=2/\YN (qgO q) (qx ["_law_cell","_law_k","_law_m"] ts) G:=by
 rintro ts G q ⟨c,k,rfl,h1,h2,h⟩;refine ⟨rfl,?_⟩;simp only [YN,zd,jc,o3,v3,qx,map_cons,List.map_nil,length_cons,length_nil,Nat.zero_add,Nat.reduceAdd,Nat.reduceSub,List.replicate_one,cons_append,List.nil_append,Nat.zero_lt_succ,getElem?_pos,getElem_cons_zero,c3,iC,Int.reduceLT,Nat.reduceLT,getElem_cons_succ,jX,gn3,zh,set_cons_succ,set_cons_zero,Nat.lt_add_one,true_and];exact ⟨.inl ⟨by omega,by omega⟩,cm (by omega) (by omega),cm (by omega) (by omega),.inl ⟨by omega,by omega⟩,h _ (Int.emod_nonneg _ (by omega)) (Int.emod_lt_of_pos _ (by omega))⟩
def cp:qlo 10 18:=⟨by decide,by decide,by decide⟩
def SI:∀ ts G q,QX ts G q->ts.length=2/\JD (qgO q) (qx ["_law_script","_law_k","_law_cell","_law_own"] ts) G:=by
 rintro ts G q ⟨a,k,ns,rfl,hG,hl,h1,h2,h⟩;refine ⟨rfl,?_⟩;simp only [JD,zd,jc,if3,tb3,o3,v3,qx,map_cons,List.map_nil,length_cons,length_nil,Nat.zero_add,Nat.reduceAdd,Nat.reduceSub,List.reduceReplicate,cons_append,List.nil_append,Nat.reduceLT,getElem?_pos,getElem_cons_succ,getElem_cons_zero,cb3,qc,Nat.zero_lt_succ,qk,U8,getL,hG,iB,length_map,decide_eq_true_eq,gn3,set_cons_succ,set_cons_zero,qkH,c3,iC,Int.reduceToNat,Int.reducePow,zh,VX,Nat.lt_add_one,jX,ne_eq,sizeLine_eq,Nat.reduceLeDiff,true_and,gu,ixR,atI,ixN,getElem?_map,Int.lt_irrefl,↓reduceIte,Int.reduceLE,decide_false,Bool.false_eq_true,Int.zero_add];have ck:J1 1000003 k:=cm (by omega) (by omega);by_cases hk:k<ns.length
 ·have hk':k.toNat<ns.length:=by omega
  simp [hk,h1,hk',cp,ck];split
  ·split
   ·exact λp hp=>h p (-ns[k.toNat]) _ hp (by omega)
   ·exact λp hp=>h p 0 _ hp (by omega)
  ·split
   ·exact λp hp=>h p ns[k.toNat] _ hp (by omega)
   ·exact λp hp=>h p 0 _ hp (by omega)
 ·simp [hk,cp,ck];exact λp hp=>h p 0 _ hp (by omega)
def SM:∀ ts G q,qV ts G q->ts.length=2/\JB DR (qgO q) (qx ["_law_left_here","_law_many","_law_digit"] ts) G:=by
 rintro ts G q ⟨a,n,many,rfl,m1,m2,⟨o,c,m,hG,ho,hm,hn⟩,h3,h⟩;refine ⟨rfl,?_⟩;unfold JB;refine Q1 λnx1 q1=>?_;simp only [jc,o3,v3,qx,map_cons,List.map_nil,length_cons,length_nil,Nat.zero_add,Nat.reduceAdd,Nat.reduceSub,List.replicate_one,cons_append,List.nil_append,Nat.zero_lt_succ,getElem?_pos,getElem_cons_zero,c3,jX,ne_eq,sizeLine_eq,WN,qfp,ixN,Int.zero_le_ofNat,↓reduceIte,Int.reduceToNat,tb3,iB,decide_eq_true_eq,Nat.reduceLT,getElem_cons_succ,iC,gn3,set_cons_succ,set_cons_zero,Std.le_refl,Int.natCast_pos,Int.toNat_zero,zh,Nat.lt_add_one,ixR,getL,atI,qS,cb3,qc,qk,Int.toNat_one,List.length_set,hG,Int.cast_ofNat_Int,Int.reduceLT,Option.bind_some,qz];rw [q1];clear q1;refine Q1 λnx2 q2=>?_;simp only [jx,jc,o3,v3,qx,map_cons,List.map_nil,length_cons,length_nil,Nat.zero_add,Nat.reduceAdd,Nat.reduceSub,List.replicate_one,cons_append,List.nil_append,Nat.zero_lt_succ,getElem?_pos,getElem_cons_zero,c3,jX,ne_eq,sizeLine_eq,WN,qfp,ixN,Int.zero_le_ofNat,↓reduceIte,Int.reduceToNat,tb3,iB,decide_eq_true_eq,Nat.reduceLT,getElem_cons_succ,iC,gn3,set_cons_succ,set_cons_zero,Std.le_refl,Int.natCast_pos,Int.toNat_zero,zh,Nat.lt_add_one,ixR,getL,atI,qS,cb3,qc,qk,Int.toNat_one,List.length_set,hG,Int.cast_ofNat_Int,Int.reduceLT,Option.bind_some,qz];split
 ·simp only [zd,jc,o3,v3,length_cons,length_nil,Nat.zero_add,Nat.reduceAdd,Nat.zero_lt_succ,getElem?_pos,getElem_cons_zero,c3,Nat.reduceLT,getElem_cons_succ,iC,gn3,set_cons_succ,set_cons_zero,WN,qfp,ixN,Std.le_refl,↓reduceIte,Int.natCast_pos,Int.toNat_zero,zh,Nat.lt_add_one,ixR,getL,atI,qz,Int.cast_ofNat_Int,Int.reduceLT,Option.bind_some];refine ⟨by omega,⟨by omega,m2⟩,h _ _ (Int.emod_nonneg _ (by omega)) (Int.emod_lt_of_pos _ (by omega)) ⟨o/many,c,m+1,qz,Int.ediv_nonneg ho (by omega),by omega,by omega⟩ λb ob hb e=>?_⟩;rw [zm hb,zm hb];exact e
 ·rw [q2];clear q2;simp only [jc,o3,v3,qx,map_cons,List.map_nil,length_cons,length_nil,Nat.zero_add,Nat.reduceAdd,Nat.reduceSub,List.replicate_one,cons_append,List.nil_append,Nat.zero_lt_succ,getElem?_pos,getElem_cons_zero,c3,jX,ne_eq,sizeLine_eq,WN,qfp,ixN,Int.zero_le_ofNat,↓reduceIte,Int.reduceToNat,tb3,iB,decide_eq_true_eq,Nat.reduceLT,getElem_cons_succ,iC,gn3,set_cons_succ,set_cons_zero,Std.le_refl,Int.natCast_pos,Int.toNat_zero,zh,Nat.lt_add_one,ixR,getL,atI,qS,cb3,qc,qk,Int.toNat_one,List.length_set,hG,Int.cast_ofNat_Int,Int.reduceLT,Option.bind_some,qz];refine ⟨c,m+1,rfl,by omega,by omega,λu u1 u2=>?_⟩;simp only [jc,o3,v3,qx,map_cons,List.map_nil,length_cons,length_nil,Nat.zero_add,Nat.reduceAdd,Nat.reduceSub,List.replicate_one,cons_append,List.nil_append,Nat.zero_lt_succ,getElem?_pos,getElem_cons_zero,c3,jX,ne_eq,sizeLine_eq,WN,qfp,ixN,Int.zero_le_ofNat,↓reduceIte,Int.reduceToNat,tb3,iB,decide_eq_true_eq,Nat.reduceLT,getElem_cons_succ,iC,gn3,set_cons_succ,set_cons_zero,Std.le_refl,Int.natCast_pos,Int.toNat_zero,zh,Nat.lt_add_one,ixR,getL,atI,qS,cb3,qc,qk,Int.toNat_one,List.length_set,hG,Int.cast_ofNat_Int,Int.reduceLT,Option.bind_some,qz];refine ⟨u,m+1+64,rfl,by omega,by omega,λv v1 v2=>?_⟩;refine ⟨⟨by omega,by omega⟩,by omega,h _ _ (Int.emod_nonneg _ (by omega)) (Int.emod_lt_of_pos _ (by omega)) ⟨o,c,m+1,qz,ho,by omega,by omega⟩ λb ob hb e=>?_⟩;rw [zm hb];exact e
def U5:Nat->PyData->Prop
 |_,.none=>True
 |_,.bool _=>True
 |_,.int _=>True
 |_,.str _=>True
 |n+1,.list ds=>ds.length<=1000000/\∀ d∈ds,U5 n d
 |n+1,.tuple ds=>ds.length<=1000000/\∀ d∈ds,U5 n d
 |_,_=>False
def ja:Nat->Sp3
 |0=>NQ
 |n+1=>λts G q=>∃ (x y:T) (d:PyData),ts=[x,y]/\Dp G x d/\Dp G y d/\U5 n d/\∀ G',Ex G G'->q (.bl true) G'
def TC {G G':Gp} (e:Ex G G') {x:T} {us:List T} (h:zT G x=some us):zT G' x=some us:=by
 cases x<;>simp [zT] at h ⊢
 ·exact h
 ·exact e.getL h
def qcv (n:Nat):qeh (List.replicate n (.bl true))=some true:=by
 induction n with
 |zero=>rfl
 |succ n ih=>rw [List.replicate_succ];simp [qeh,ih]
def SZ {G:Gp} {n:Nat} {x y:T} {us vs:List T} {ds:List PyData} {q:Q3} (hx:zT G x=some us) (hy:zT G y=some vs) (du:Dps G us ds) (dv:Dps G vs ds) (hl:us.length<=1000000) (hd:∀ d∈ds,∃ m,n=m+1/\U5 m d) (h:∀ G',Ex G G'->q (.bl true) G') :
  qbr (λG=>zT G x=some us/\zT G y=some vs) (DK 2 (zL (gn3 0) (zL (gn3 1) UA))) tt3 (cb3 (ja n) (qc (v3 0) (qc (v3 1) qk))) (λx G1=>qbf [x] G1 q) (qbv us vs) [] [none,none] G:=by
 have e1:=du.length;have e2:=dv.length;refine qbJ _ (λi ys τ G'=>Ex G G'/\ys=List.replicate i (.bl true)/\∃ x0 x1,τ=[x0,x1]) ⟨Ex.refl,rfl,none,none,rfl⟩ (λi ys τ G' _ hp=>⟨TC hp.1 hx,TC hp.1 hy⟩) ?_ ?_
 ·rintro i z ys τ G' R hz ⟨E,rfl,x0,x1,rfl⟩ hR;obtain ⟨a,b,ha,hb,rfl⟩:=WM hz;obtain ⟨d,hd1,da⟩:=du.get ha;obtain ⟨d',hd2,db⟩:=dv.get hb;rw [hd1] at hd2;cases hd2;obtain ⟨m,rfl,dl⟩:=hd d (mem_of_getElem? hd1);have hi:=(List.getElem?_eq_some_iff.mp ha).1;simp only [DK,length_cons,length_nil,Nat.zero_add,Nat.reduceAdd,zL,gn3,UA,tt3,↓reduceIte,cb3,qc,v3,set_cons_zero,set_cons_succ,Nat.zero_lt_succ,getElem?_pos,getElem_cons_zero,Nat.lt_add_one,getElem_cons_succ,qk,List.length_replicate,sizeLine_eq,true_and];refine ⟨a,b,d,rfl,da.up E,db.up E,dl,λG2 E2=>⟨by omega,hR _ _ _ ⟨E.trans E2,?_,_,_,rfl⟩⟩⟩;rw [List.replicate_succ']
 ·rintro ys τ G' ⟨E,rfl,x0,x1,rfl⟩ p hp;simp [qbf,getL,qz,qcv];exact h _ (E.trans (jD hp))
def qbP {n:Nat} {ds:List PyData} (h:U5 n (.list ds)):ds.length<=1000000/\∀ d∈ds,∃ m,n=m+1/\U5 m d:=by
 cases n with
 |zero=>exact h.elim
 |succ n=>exact ⟨h.1,λd hd=>⟨n,rfl,h.2 d hd⟩⟩
def M9 {n:Nat} {ds:List PyData} (h:U5 n (.tuple ds)):ds.length<=1000000/\∀ d∈ds,∃ m,n=m+1/\U5 m d:=by
 cases n with
 |zero=>exact h.elim
 |succ n=>exact ⟨h.1,λd hd=>⟨n,rfl,h.2 d hd⟩⟩
def qiZ {x:T} {G:Gp} {q:Q3} (h:ZK x x=some true) (k:q (.bl true) G):zK false x x G q:=by
 unfold zK;rw [h];exact k
def qam {ta tb:TE3} {e:Ends3} {τ:St3} {G:Gp} {x:T} (h:∀ q',q' x G->ta τ G q') (k:x=.bl true) (h2:tb τ G e.rt):zh (jy ta tb) e τ G:=h _ (by subst k;exact h2)
def qoJ {ta tb:TE3} {τ:St3} {G:Gp} {x:T} (ha:∀ q',q' x G->ta τ G q') (hb:∀ q',q' x G->tb τ G q') (h:ZK x x=some true):∀ q',q' (.bl true) G->o3 (zK false) ta tb τ G q':=λq' k=>ha _ (hb _ (qiZ h k))
def KP {c:TT3} {a b:TS3} {e:Ends3} {τ:St3} {G:Gp} (h:∀ A,A=a->jx c A b e τ G):jx c a b e τ G:=h _ rfl
def ZD (n:Nat):∀ ts G q,ja (n+1) ts G q->ts.length=2/\VG (ja n) (qgO q) (qx ["_law_found","_law_due"] ts) G:=by
 rintro ts G q ⟨x,y,d,rfl,hx,hy,hd,h⟩;refine ⟨rfl,?_⟩;have h0:=h G Ex.refl;cases hx with
 |non=>cases hy;exact h0
 |bl b=>cases hy;cases b<;>exact h0
 |int i=>cases hy;exact qiZ (x:=.int i) (by simp [ZK]) h0
 |str s=>
  cases hy;refine Q1 λnx1 q1=>?_;refine KP λA1 hA=>?_;clear hA;show nx1 _ _;rw [q1];clear q1;refine Q1 λnx2 q2=>?_;refine KP λA2 hA=>?_;show A2 _ _ _;rw [hA];exact qam (qoJ (x:=.str s) (λ_ k=>k) (λ_ k=>k) (by simp [ZK])) rfl h0
 |tup dx=>
  cases hy with
  |tup dy=>
   rename_i xs ds ys;have e1:=dx.length;have e2:=dy.length;obtain ⟨l1,l2⟩:=M9 hd;have key:=SZ (n:=n) (x:=.tup xs) (y:=.tup ys) (us:=xs) (vs:=ys) (q:=q) rfl rfl dx dy (by omega) l2 h;have e3:xs.length=ys.length:=by omega
   refine Q1 λnx1 q1=>?_;clear q1;refine KP λA1 hA=>?_;show A1 _ _ _;rw [hA];clear hA;refine Q1 λnx2 q2=>?_;refine KP λA2 hA=>?_;show nx2 _ _;rw [q2];clear q2;exact qam (qoJ (x:=.int ys.length) (λ_ k=>by rw [← e3] at k;exact k) (λ_ k=>k) (by simp [ZK])) rfl key
 |lst gx dx=>
  cases hy with
  |lst gy dy=>
   rename_i p1 xs ds p2 ys;have e1:=dx.length;have e2:=dy.length;obtain ⟨l1,l2⟩:=qbP hd;have key:=SZ (n:=n) (x:=.ref p1) (y:=.ref p2) (us:=xs) (vs:=ys) (q:=q) gx gy dx dy (by omega) l2 h;have e3:xs.length=ys.length:=by omega
   refine Q1 λnx1 q1=>?_;clear q1;refine KP λA1 hA=>?_;simp only [jx,tb3,EX,v3,qx,map_cons,List.map_nil,length_cons,length_nil,Nat.zero_add,Nat.reduceAdd,Nat.sub_self,List.replicate_zero,List.append_nil,Nat.lt_add_one,getElem?_pos,getElem_cons_succ,getElem_cons_zero,tyT,gx,gy,Option.isSome_some,↓reduceIte,j2,BEq.rfl,String.reduceBEq,Bool.and_self,Bool.or_false,Bool.or_self,or3,o3,Nat.zero_lt_succ,zK,ZK,decide_true,Bool.not_true,Bool.false_eq_true,qS];rw [hA];clear hA;refine Q1 λnx2 q2=>?_;refine KP λA2 hA=>?_;clear hA;simp only [jx,tb3,EX,v3,qx,map_cons,List.map_nil,length_cons,length_nil,Nat.zero_add,Nat.reduceAdd,Nat.sub_self,List.replicate_zero,List.append_nil,Nat.lt_add_one,getElem?_pos,getElem_cons_succ,getElem_cons_zero,tyT,gx,gy,Option.isSome_some,↓reduceIte,j2,BEq.rfl,String.reduceBEq,Bool.and_self,Bool.or_false,Bool.or_self,or3,o3,Nat.zero_lt_succ,zK,ZK,decide_true,Bool.not_true,Bool.false_eq_true,qS];rw [q2];clear q2;simp only [zT,qbf,qx,map_cons,List.map_nil,length_cons,length_nil,Nat.zero_add,Nat.reduceAdd,Nat.sub_self,List.replicate_zero,List.append_nil,Nat.lt_add_one,getElem?_pos,getElem_cons_succ,getElem_cons_zero,gy,↓reduceIte,o3,v3,Nat.zero_lt_succ,gx,zK,ZK,decide_true,Bool.false_eq_true,zh,jy,cb3,qc,qk,U8,e3,lc3,qbS,cap] at key ⊢;exact key
def qmZ {α:Type} {x:α} {xs:List α}:L2.atI (x::xs) 0=some x:=by simp [L2.atI,ixN]
def ql7 {α:Type} {x y:α} {xs:List α}:L2.atI (x::y::xs) 1=some y:=by
 rw [TV (by omega) (by simp;omega)];rfl
structure SD (k n:Nat) (d:PyData):Prop where
 sh:d.showable=true
 nd:d.hasDict=false
 dp:d.depth<=k
 lv:d.leavesShort 13=true
 bk:d.bulk<=n
def SD.ok {k n:Nat} {d:PyData} (h:SD k n d) (hk:k<=40) (hn:n<=2 ^ 20):ShOk d:=⟨h.sh,h.nd,Nat.le_trans h.dp hk,h.lv,Nat.le_trans h.bk hn⟩
def SD.w {k n:Nat} {d:PyData} (h:SD k n d) (hk:k<=40) (hn:n<=2 ^ 20):ShW d:=(h.ok hk hn).w
def SD.mono {k n k' n':Nat} {d:PyData} (h:SD k n d) (hk:k<=k') (hn:n<=n'):SD k' n' d:=⟨h.sh,h.nd,Nat.le_trans h.dp hk,h.lv,Nat.le_trans h.bk hn⟩
def JO (k n:Nat) {i:Int} (h:-1000000<=i/\i<=1000000):SD k n (.int i):=by
 refine ⟨?_,rfl,Nat.zero_le _,?_,Nat.zero_le _⟩
 ·simp only [PyData.showable];have:i.natAbs<2 ^ 20:=by omega
  have h2:i.natAbs.log2<20\/i.natAbs=0:=by
   rcases Nat.eq_zero_or_pos i.natAbs with z|z
   ·exact .inr z
   ·exact .inl ((Nat.log2_lt (by omega)).mpr this)
  rcases h2 with h2|h2
  ·simp;omega
  ·simp [h2]
 ·have:=PyProof.Rows.intsShortAll_ints2 [i] (by intro n hn;simp at hn;subst hn;omega);simpa [PyData.intsShortAll,PyData.intsShort,PyData.leavesShort] using this
def DY (k n:Nat) {x:Str} (h:x.cps.size<=n) (hc:(x.cps.toList.all λc=>decide (c<16 ^ 8))=true):SD k n (.str x):=⟨rfl,rfl,Nat.zero_le _,hc,h⟩
structure SDs (k n:Nat) (ds:List PyData):Prop where
 sh:PyData.showableAll ds=true
 nd:PyData.hasDictAll ds=false
 dp:PyData.depthAll ds<=k
 lv:PyData.leavesShortAll 13 ds=true
 bk:PyData.bulkAll ds<=n
def ZL (k n:Nat):SDs k n []:=⟨rfl,rfl,Nat.zero_le _,rfl,Nat.zero_le _⟩
def qZ {k n m s:Nat} {d:PyData} {ds:List PyData} (h:SD k n d) (t:SDs k m ds) (hs:n+1+m<=s):SDs k s (d::ds):=by
 refine ⟨?_,?_,?_,?_,?_⟩
 ·simp [PyData.showableAll,h.sh,t.sh]
 ·simp [PyData.hasDictAll,h.nd,t.nd]
 ·simp only [PyData.depthAll];exact Nat.max_le.mpr ⟨h.dp,t.dp⟩
 ·simp [PyData.leavesShortAll,h.lv,t.lv]
 ·simp only [PyData.bulkAll];have:=h.bk;have:=t.bk;omega
def j7 {k n:Nat} {ds:List PyData} (t:SDs k n ds):SD (k+1) n (.tuple ds):=by
 refine ⟨?_,?_,?_,?_,?_⟩
 ·simpa [PyData.showable] using t.sh
 ·simpa [PyData.hasDict] using t.nd
 ·simp only [PyData.depth];have:=t.dp;omega
 ·simpa [PyData.leavesShort] using t.lv
 ·simp only [PyData.bulk];exact t.bk
def W8 {k n:Nat}:∀ {ds:List PyData},(∀ d∈ds,SD k n d)->SDs k (ds.length*(n+1)) ds
 |[],_=>ZL _ _
 |d::ds,h=>qZ (h d (by simp)) (W8 λx hx=>h x (by simp [hx])) (by rw [length_cons,Nat.succ_mul];omega)
def _root_.L3.Dps.append {G:Gp}:∀ {xs ys:List T} {ds es:List PyData},Dps G xs ds->Dps G ys es->Dps G (xs++ys) (ds++es)
 |_,_,_,_,.nil,b=>b
 |_,_,_,_,.cons a t,b=>.cons a (L3.Dps.append t b)
def _root_.L3.Dps.take {G:Gp}:∀ {xs:List T} {ds:List PyData} (i:Nat),Dps G xs ds->Dps G (xs.take i) (ds.take i)
 |_,_,0,_=>.nil
 |_,_,_+1,.nil=>.nil
 |_,_,i+1,.cons a t=>.cons a (L3.Dps.take i t)
def _root_.L3.Dps.drop {G:Gp}:∀ {xs:List T} {ds:List PyData} (i:Nat),Dps G xs ds->Dps G (xs.drop i) (ds.drop i)
 |_,_,0,h=>h
 |_,_,_+1,.nil=>.nil
 |_,_,i+1,.cons a t=>L3.Dps.drop i t
def UG:TS3:=(zh (lc3 (VQ (qc (v3 2) qk)) (gn3 0) tt3 (QE (qc (o3 (iC J1 (·*·)) (v3 0) (v3 1)) (qc (o3 (iC J1 (·*·)) (v3 0) (v3 2)) qk))) [none,some 0,some 1]))
def Z9 (S_strung:Sp3):TS3:=(zd (jc (o3 ix3 (v3 0) (c3 (.int 0))) (gn3 1)) (zd (jx (tb3 (o3 (zK false) (v3 1) (c3 (.str "cells")))) (zh (cb3 M4 (qc (o3 ix3 (v3 0) (c3 (.int 1))) qk))) qS) (zd (jx (tb3 (o3 (zK false) (v3 1) (c3 (.str "block")))) (zh (qdc (VQ (qc (o3 ix3 (v3 0) (c3 (.int 1))) qk)) (gn3 0) tt3 (VQ (qc (o3 ix3 (v3 2) (c3 (.int 2))) qk)) (gn3 1) tt3 (QE (qc (v3 0) (qc (v3 1) qk))) [none,none,some 0])) qS) (zd (jx (tb3 (o3 (zK false) (v3 1) (c3 (.str "step")))) (zh (cb3 S_strung (qc (o3 ix3 (v3 0) (c3 (.int 1))) (qc (o3 ix3 (v3 0) (c3 (.int 2))) (qc (o3 ix3 (v3 0) (c3 (.int 3))) qk))))) qS) (zd (jc (qb7 zE (v3 1)) (DK 2 (zL (gn3 2) (zL (gn3 3) UA)))) (zh (cb3 S_strung (qc (v3 2) (qc (v3 3) (qc (o3 ix3 (v3 0) (c3 (.int 1))) qk))))))))))
def JH (S_law_pick:Sp3):TS3:=(zh (o3 jX (c3 (.int 1)) (cb3 S_law_pick (qc (v3 0) (qc (o3 ix3 (VX (qc (c3 (.int 5)) (qc (c3 (.int 5)) (qc (c3 (.int 5)) (qc (c3 (.int 5)) (qc (c3 (.int 5)) (qc (c3 (.int 5)) (qc (c3 (.int 8)) (qc (c3 (.int 16)) qk))))))))) (cb3 S_law_pick (qc (v3 0) (qc (c3 (.int 8)) qk)))) qk)))))
def Z8 (S_law_pick:Sp3) (S_law_many:Sp3):TS3:=(zd (jc (cb3 S_law_pick (qc (v3 0) (qc (c3 (.int 9)) qk))) (gn3 1)) (zd (jx (tb3 (o3 (iB λi j=>decide (i<j)) (v3 1) (c3 (.int 4)))) (zh (QE (qc (o3 ix3 (VX (qc (c3 (.str "row")) (qc (c3 (.str "column")) (qc (c3 (.str "slant")) (qc (c3 (.str "back")) qk))))) (v3 1)) (qc (cb3 S_law_many (qc (v3 0) qk)) qk)))) qS) (zd (jx (tb3 (o3 (iB λi j=>decide (i<j)) (v3 1) (c3 (.int 6)))) (zd (NK 2 3 (qc (cb3 S_law_pick (qc (v3 0) (qc (c3 (.int 2)) qk))) (qc (o3 jX (c3 (.int 1)) (cb3 S_law_pick (qc (v3 0) (qc (c3 (.int 4)) qk)))) qk))) (zd (jc (o3 jX (c3 (.int 1)) (cb3 S_law_pick (qc (v3 0) (qc (o3 (iC qbw (·/·)) (c3 (.int 16)) (v3 3)) qk)))) (gn3 4)) (zh (o3 ix3 (VX (qc (QE (qc (c3 (.str "block")) (qc (v3 3) (qc (v3 4) qk)))) (qc (QE (qc (c3 (.str "block")) (qc (v3 4) (qc (v3 3) qk)))) qk))) (v3 2))))) qS) (zd (jx (tb3 (o3 (iB λi j=>decide (i<j)) (v3 1) (c3 (.int 8)))) (zd (NK 5 6 (qc (o3 (iI (·-·)) (cb3 S_law_pick (qc (v3 0) (qc (c3 (.int 7)) qk))) (c3 (.int 3))) (qc (o3 (iI (·-·)) (cb3 S_law_pick (qc (v3 0) (qc (c3 (.int 9)) qk))) (c3 (.int 4))) qk))) (zd (jx (tb3 (o3 (zK false) (cb3 S_law_pick (qc (v3 0) (qc (c3 (.int 6)) qk))) (c3 (.int 0)))) (zh (QE (qc (c3 (.str "step")) (qc (o3 (iC J1 (·*·)) (c3 (.int 5)) (v3 5)) (qc (o3 jX (o3 (iC J1 (·*·)) (c3 (.int 3)) (v3 6)) (cb3 KQ (qc (jy (o3 (zK false) (v3 5) (c3 (.int 0))) (o3 (zK false) (v3 6) (c3 (.int 0)))) qk))) (qc (o3 jX (c3 (.int 1)) (cb3 S_law_pick (qc (v3 0) (qc (c3 (.int 4)) qk)))) qk)))))) qS) (zh (QE (qc (c3 (.str "step")) (qc (v3 5) (qc (o3 jX (v3 6) (cb3 KQ (qc (jy (o3 (zK false) (v3 5) (c3 (.int 0))) (o3 (zK false) (v3 6) (c3 (.int 0)))) qk))) (qc (cb3 S_law_many (qc (v3 0) qk)) qk)))))))) qS) (zd (NK 7 8 (qc (VX qk) (qc (o3 jX (c3 (.int 1)) (o3 (iC J1 (·*·)) (c3 (.int 4)) (cb3 KQ (qc (o3 (zK false) (cb3 S_law_pick (qc (v3 0) (qc (c3 (.int 5)) qk))) (c3 (.int 0))) qk)))) qk))) (zd (C6 (VQ (qc (cb3 S_law_many (qc (v3 0) qk)) qk)) (gn3 9) (zd (jc (QE (qc (o3 (iC J1 (·*·)) (v3 8) (o3 (iI (·-·)) (cb3 S_law_pick (qc (v3 0) (qc (c3 (.int 6)) qk))) (c3 (.int 2)))) (qc (o3 (iC J1 (·*·)) (v3 8) (o3 (iI (·-·)) (cb3 S_law_pick (qc (v3 0) (qc (c3 (.int 6)) qk))) (c3 (.int 2)))) qk))) (gn3 10)) (jx (tb3 (o3 (qoL true) (v3 10) (v3 7))) (E6 (bm3 MC (v3 7) (qc (v3 10) qk))) qS))) (zh (QE (qc (c3 (.str "cells")) (qc (cb3 JM (qc (v3 7) qk)) qk))))))))))
def QY {G:Gp} {p:Addr} {xs:List T} (h:G p=some (.lst xs)):getL G p=some xs:=by unfold getL;rw [h]
def qf7 {xs:List T} {d:Int} (h0:0<=d) (h1:d<(xs.length:Int)):∃ z,L2.atI xs d=some z/\z∈xs:=by
 rw [TV h0 h1];have:d.toNat<xs.length:=by omega
 exact ⟨xs[d.toNat],getElem?_eq_getElem this,List.getElem_mem this⟩
inductive Wk where
 |line (k m:Nat)
 |block (h w:Nat)
 |step (d a:Int) (m:Nat)
 |cells (ps:List (Int×Int))
def zQ:Nat->Str
 |0=>"row" |1=>"column" |2=>"slant" |_=>"back"
def lnD:Nat->Int
 |0=>0|_=>1
def lnA:Nat->Int
 |0=>1|1=>0|2=>1|_=>-1
def pT (p:Int×Int):T:=.tup [.int p.1,.int p.2]
def Wk.t:Wk->T
 |.line k m=>.tup [.str (zQ k),.int m]
 |.block h w=>.tup [.str "block",.int h,.int w]
 |.step d a m=>.tup [.str "step",.int d,.int a,.int m]
 |.cells ps=>.tup [.str "cells",.tup (ps.map pT)]
def YF (d a:Int) (m:Nat):List (Int×Int):=(List.range m).map λ(t:Nat)=>((t:Int)*d,(t:Int)*a)
def qF (h w:Nat):List (Int×Int):=(List.range h).flatMap λ(p:Nat)=>(List.range w).map λ(q:Nat)=>((p:Int),(q:Int))
def Wk.pc:Wk->List (Int×Int)
 |.line k m=>YF (lnD k) (lnA k) m
 |.block h w=>qF h w
 |.step d a m=>YF d a m
 |.cells ps=>ps
def Wk.Ok:Wk->Prop
 |.line k m=>k<4/\1<=m/\m<=16
 |.block h w=>1<=h/\1<=w/\h<=16/\w<=16/\h*w<=16
 |.step d a m=>(-16<=d/\d<=16)/\(-16<=a/\a<=16)/\1<=m/\m<=16
 |.cells ps=>1<=ps.length/\ps.length<=16/\ps.Nodup/\∀ p∈ps,(-16<=p.1/\p.1<=16)/\(-16<=p.2/\p.2<=16)
def KO (h w:Nat):qF (h+1) w=qF h w++(List.range w).map λ(q:Nat)=>((h:Int),(q:Int)):=by
 simp [qF,List.range_succ]
def qa7 (h w:Nat):(qF h w).length=h*w:=by
 induction h with
 |zero=>simp [qF]
 |succ h ih=>rw [KO,length_append,ih,length_map,length_range,Nat.succ_mul]
def JW:Sp3:=λts G q=>∃ a n,ts=[.ref a]/\Lf G a n/\n<10000000/\∀ (m:Nat) G',1<=m->m<=16->Lf G' a (n+2)->Ext a G G'->q (.int m) G'
def R7:∀ ts G q,JW ts G q->ts.length=1/\JH qV (qgO q) (qx ["_law_left_here"] ts) G:=by
 rintro ts G q ⟨a,n,rfl,hL,hn,h⟩;refine ⟨rfl,?_⟩;simp only [JH,zh,o3,c3,cb3,qc,v3,qx,map_cons,List.map_nil,length_cons,length_nil,Nat.zero_add,Nat.sub_self,List.replicate_zero,List.append_nil,Nat.lt_add_one,getElem?_pos,getElem_cons_zero,VX,qk,Nat.reduceAdd,sizeLine_eq,Nat.reduceLeDiff,jX,ne_eq,true_and];intro p hp;have np:=hL.ne hp;refine QQ (hL.new np) (by omega) (by omega) (by omega) λd G1 d0 d1 L1 E1=>?_;have g:=QY (E1 _ _ np qz);obtain ⟨z,hz,hm⟩:=qf7 (xs:=[T.int 5,.int 5,.int 5,.int 5,.int 5,.int 5,.int 8,.int 16]) d0 (by simpa using d1);simp only [L3.ixR,g,hz];have:∃ k:Int,z=.int k/\1<=k/\k<=16:=by
  simp only [mem_cons,not_mem_nil,or_false] at hm;rcases hm with rfl|rfl|rfl|rfl|rfl|rfl|rfl|rfl<;>exact ⟨_,rfl,by omega,by omega⟩
 obtain ⟨k,rfl,k1,k2⟩:=this;refine QQ L1 (by omega) (by omega) (by omega) λe G2 e0 e1 L2' E2=>?_;simp;obtain ⟨e',rfl⟩:=Int.eq_ofNat_of_zero_le e0;have:=h (e'+1) G2 (by omega) (by omega) (L2'.mono (by omega)) ((UZ hp).trans (E1.trans E2));rw [show (1:Int)+(e':Int)=((e'+1:Nat):Int) by omega];exact this
def pD (p:Int×Int):PyData:=.tuple [.int p.1,.int p.2]
def qh1 (G:Gp) (p:Int×Int):Dp G (pT p) (pD p):=.tup (.cons (.int _) (.cons (.int _) .nil))
def qdJ (G:Gp):∀ ps:List (Int×Int),Dps G (ps.map pT) (ps.map pD)
 |[]=>.nil
 |p::ps=>.cons (qh1 G p) (qdJ G ps)
def ql6 (p r:Int×Int):zN (pD p) (pD r)=some (decide (p=r)):=by
 obtain ⟨a,b⟩:=p;obtain ⟨c,d⟩:=r;simp only [pD,zN,JY];by_cases h:a=c<;>by_cases h':b=d<;>simp [h,h']
def pIn (r:Int×Int):∀ ps:List (Int×Int),qbs (pD r) (ps.map pD)=some (decide (r∈ps))
 |[]=>by simp [qbs]
 |p::ps=>by
  simp only [map_cons,qbs,ql6,pIn r ps];by_cases h:p=r
  ·subst h;simp
  ·have h':¬ r=p:=λz=>h z.symm;simp [h,h']
def qiS (p:Int×Int):dpt (pD p)<=40:=by simp [pD,dpt,qfQ]
end Bk
namespace Pu
open PySem L2 L3
def cif {α:Type} (P:Prop) (a b:α):α:=@ite α P (Classical.propDecidable P) a b
def za {α:Type} {P:Prop} {a b:α} (h:P):cif P a b=a:=@if_pos P (Classical.propDecidable P) h α a b
def qa9 {α:Type} {P:Prop} {a b:α} (h:¬ P):cif P a b=b:=@if_neg P (Classical.propDecidable P) h α a b
structure Tru (b:Bool):Prop where
 h:b=true
mutual
inductive Dq (G:Gp):T->PyData->Prop
 |non:Dq G .non .none
 |bl (b:Bool):Dq G (.bl b) (.bool b)
 |int (i:Int):Dq G (.int i) (.int i)
 |str (x:Str):Dq G (.str x) (.str x)
 |tup {xs:List T} {ds:List PyData}:Dqs G xs ds->Dq G (.tup xs) (.tuple ds)
 |lst {p:Addr} {xs:List T} {ds:List PyData}:G p=some (.lst xs)->Dqs G xs ds->Dq G (.ref p) (.list ds)
inductive Dqs (G:Gp):List T->List PyData->Prop
 |nil:Dqs G [] []
 |cons {x:T} {d:PyData} {xs:List T} {ds:List PyData}:Dq G x d->Dqs G xs ds->Dqs G (x::xs) (d::ds)
end
mutual
def Dq.up {G G':Gp} (e:Ex G G'):∀ {x:T} {d:PyData},Dq G x d->Dq G' x d
 |_,_,.non=>.non
 |_,_,.bl b=>.bl b
 |_,_,.int i=>.int i
 |_,_,.str x=>.str x
 |_,_,.tup h=>.tup (Dqs.up e h)
 |_,_,.lst h1 h2=>.lst (e _ _ h1) (Dqs.up e h2)
def Dqs.up {G G':Gp} (e:Ex G G'):∀ {x:List T} {d:List PyData},Dqs G x d->Dqs G' x d
 |_,_,.nil=>.nil
 |_,_,.cons a b=>.cons (Dq.up e a) (Dqs.up e b)
end
def qW {G:Gp} {p:Addr} {xs:List T} (h:G p=some (.lst xs)):getL G p=some xs:=by unfold getL;rw [h]
mutual
def Dq.dp {G:Gp}:∀ {x:T} {d:PyData},Dq G x d->Dp G x d
 |_,_,.non=>.non
 |_,_,.bl b=>.bl b
 |_,_,.int i=>.int i
 |_,_,.str x=>.str x
 |_,_,.tup h=>.tup (Dqs.dp h)
 |_,_,.lst h1 h2=>.lst (qW h1) (Dqs.dp h2)
def Dqs.dp {G:Gp}:∀ {x:List T} {d:List PyData},Dqs G x d->Dps G x d
 |_,_,.nil=>.nil
 |_,_,.cons a b=>.cons (Dq.dp a) (Dqs.dp b)
end
def Dqs.length {G:Gp}:∀ {xs:List T} {ds:List PyData},Dqs G xs ds->xs.length=ds.length
 |_,_,.nil=>rfl
 |_,_,.cons _ b=>by simp [Dqs.length b]
def Dqs.get {G:Gp}:∀ {xs:List T} {ds:List PyData} {i:Nat} {d:PyData},Dqs G xs ds->ds[i]?=some d->∃ x,xs[i]?=some x/\Dq G x d
 |_,_,_,_,.nil,e=>by simp at e
 |_,_,0,_,.cons r _,e=>by simp at e;subst e;exact ⟨_,rfl,r⟩
 |_,_,i+1,d,.cons _ t,e=>by
  obtain ⟨u,h1,h2⟩:=Dqs.get (i:=i) (d:=d) t (by simpa using e);exact ⟨u,by simpa using h1,h2⟩
def Dqs.append {G:Gp}:∀ {xs:List T} {ds:List PyData} {ys:List T} {es:List PyData},Dqs G xs ds->Dqs G ys es->Dqs G (xs++ys) (ds++es)
 |_,_,_,_,.nil,h=>h
 |_,_,_,_,.cons a b,h=>.cons a (Dqs.append b h)
def Dqs.drop {G:Gp}:∀ {xs:List T} {ds:List PyData} (n:Nat),Dqs G xs ds->Dqs G (xs.drop n) (ds.drop n)
 |_,_,0,h=>h
 |_,_,_+1,.nil=>.nil
 |_,_,n+1,.cons _ b=>Dqs.drop n b
def Dqs.take {G:Gp}:∀ {xs:List T} {ds:List PyData} (n:Nat),Dqs G xs ds->Dqs G (xs.take n) (ds.take n)
 |_,_,0,h=>by simp;exact .nil
 |_,_,_+1,.nil=>.nil
 |_,_,n+1,.cons a b=>.cons a (Dqs.take n b)
def Dqs.ints {G:Gp}:∀ {ns:List Int} {xs:List T},Dqs G xs (ns.map PyData.int)->xs=ns.map T.int
 |[],_,.nil=>rfl
 |n::ns,_,.cons a b=>by cases a;rw [Dqs.ints b];rfl
def Dqs.ofInts {G:Gp}:∀ (ns:List Int),Dqs G (ns.map T.int) (ns.map PyData.int)
 |[]=>.nil
 |n::r=>.cons (.int n) (Dqs.ofInts r)
def rs (D:Addr->Prop) (G:Gp):Gp:=λb=>cif (D b) none (G b)
def qy {D:Addr->Prop} {G:Gp} {b:Addr} {o:O} (h:rs D G b=some o):¬ D b/\G b=some o:=by
 unfold rs cif at h;split at h
 ·cases h
 ·rename_i n;exact ⟨n,h⟩
def zI {D:Addr->Prop} {G:Gp} {b:Addr} (n:¬ D b):rs D G b=G b:=by unfold rs;exact qa9 n
def JK {D:Addr->Prop} {G:Gp}:Ex (rs D G) G:=λb o h=>(qy h).2
def zY {D:Addr->Prop} {G G':Gp} (e:Ex G G'):Ex (rs D G) (rs D G'):=λb o h=>by
 obtain ⟨n,h⟩:=qy h;rw [zI n];exact e _ _ h
def zX {D D':Addr->Prop} {G:Gp} (h:∀ b,D' b->D b):Ex (rs D G) (rs D' G):=λb o e=>by
 obtain ⟨n,e⟩:=qy e;rw [zI λz=>n (h b z)];exact e
def Dom (D:Addr->Prop) (G:Gp):Prop:=∀ b,D b->G b≠none
def Dom.up {D:Addr->Prop} {G G':Gp} (h:Dom D G) (e:Ex G G'):Dom D G':=λb d z=>by
 cases g:G b with
 |none=>exact h b d g
 |some o=>rw [e _ _ g] at z;cases z
def qjq {D:Addr->Prop} {G:Gp} {p:Addr} {o:O} (hd:Dom D G) (hp:G p=none):rs D (gu G p o) p=some o:=by
 rw [zI λz=>hd p z hp,qz]
inductive Sl where
 |un|sh (d:PyData)|ow (ds:List PyData)|dc (kvs:List (Int×PyData))
abbrev Rho:=List Sl
def Sl.d:Sl->Option PyData
 |.un=>none|.sh d=>some d|.ow ds=>some (.list ds)|.dc _=>none
def vw (ρ:Rho) (i:Nat):Option PyData:=(ρ[i]?).bind Sl.d
def DL (fv:List Nat) (D:Addr->Prop) (G:Gp) (τ:St3) (ρ:Rho):Prop:=∀ i∈fv,∀ d,vw ρ i=some d->∃ t,τ[i]?=some (some t)/\Dq (rs D G) t d
def DL.up {fv:List Nat} {D:Addr->Prop} {G G':Gp} {τ:St3} {ρ:Rho} (h:DL fv D G τ ρ) (e:Ex G G'):DL fv D G' τ ρ:=λi hi d hd=>
 let ⟨t,a,b⟩:=h i hi d hd;⟨t,a,b.up (zY e)⟩
def DL.l {fv gv:List Nat} {D:Addr->Prop} {G:Gp} {τ:St3} {ρ:Rho} (h:DL (fv++gv) D G τ ρ):DL fv D G τ ρ:=λi hi=>h i (by simp [hi])
def DL.r {fv gv:List Nat} {D:Addr->Prop} {G:Gp} {τ:St3} {ρ:Rho} (h:DL (fv++gv) D G τ ρ):DL gv D G τ ρ:=λi hi=>h i (by simp [hi])
def qcM:PyData->Bool
 |.none=>true|.bool _=>true|.int _=>true|.str _=>true|_=>false
def Nw (D:Addr->Prop) (G G':Gp) (x:T) (d:PyData):Prop:=qcM d=true\/∃ p xs ds,x=.ref p/\d=.list ds/\G p=none/\G' p=some (.lst xs)/\Dqs (rs (λb=>D b\/b=p) G') xs ds
def Nw.back {D:Addr->Prop} {G0 G G':Gp} {x:T} {d:PyData} (h:Nw D G G' x d) (e:Ex G0 G):Nw D G0 G' x d:=by
 rcases h with h|⟨p,xs,ds,a,b,c,r⟩
 ·exact .inl h
 refine .inr ⟨p,xs,ds,a,b,?_,r⟩;cases z:G0 p with
 |none=>rfl
 |some o=>rw [e _ _ z] at c;cases c
structure PuE (t:TE3) where
 f:Rho->Option PyData
 fv:List Nat
 nw:Bool
 ok:∀ {D τ ρ G} {q:Q3} {d},DL fv D G τ ρ->Dom D G->f ρ=some d->(∀ x G',Ex G G'->Dq (rs D G') x d->(nw=true->Nw D G G' x d)->q x G')->t τ G q
structure PuC (t:TT3) where
 f:Rho->Option Bool
 fv:List Nat
 ok:∀ {D τ ρ G} {q:Bool->Gp->Prop} {k},DL fv D G τ ρ->Dom D G->f ρ=some k->(∀ G',Ex G G'->q k G')->t τ G q
structure PuA (t:TA3) where
 f:Rho->Option (List PyData)
 fv:List Nat
 n:Nat
 ln:∀ {ρ d},f ρ=some d->d.length=n
 ok:∀ {D τ ρ G} {q:List T->Gp->Prop} {d},DL fv D G τ ρ->Dom D G->f ρ=some d->(∀ x G',Ex G G'->Dqs (rs D G') x d->q x G')->t τ G q
structure PuO (t:TO3) where
 f:Rho->Option (Option Int)
 fv:List Nat
 ok:∀ {D τ ρ G} {q:Option Int->Gp->Prop} {k},DL fv D G τ ρ->Dom D G->f ρ=some k->(∀ G',Ex G G'->q k G')->t τ G q
structure PuI (t:TI3) where
 f:Rho->Option (List PyData)
 fv:List Nat
 /-- numbers alone -/
 nm:Bool
 ok:∀ {D τ ρ G} {r:List T->(Gp->Prop)->Gp->Prop} {ds},DL fv D G τ ρ->Dom D G->f ρ=some ds ->
  (∀ items stay G',Ex G G'->Dqs (rs D G') items ds->(∀ G'',(nm=true\/Ex (rs D G') G'')->stay G'')->(nm=true->∃ ns:List Int,ds=ns.map PyData.int)->r items stay G')->t τ G r
structure OpD (r:R3) where
 f:PyData->PyData->Option PyData
 nw:Bool
 ok:∀ {D G x y d e v} {q:Q3},Dq (rs D G) x d->Dq (rs D G) y e->Dom D G->f d e=some v->(∀ z G',Ex G G'->Dq (rs D G') z v->(nw=true->Nw D G G' z v)->q z G')->r x y G q
structure FnD (r:List T->Gp->Q3->Prop) where
 f:List PyData->Option PyData
 nw:Bool
 ok:∀ {D G xs ds v} {q:Q3},Dqs (rs D G) xs ds->Dom D G->f ds=some v->(∀ z G',Ex G G'->Dq (rs D G') z v->(nw=true->Nw D G G' z v)->q z G')->r xs G q
def bV (i:Nat):PuE (v3 i):=⟨λρ=>vw ρ i,[i],false,λhv hd hf k=>by
 obtain ⟨t,e,h⟩:=hv i (by simp) _ hf;unfold v3;rw [e];exact k t _ Ex.refl h (λz=>by cases z)⟩
def ze (i:Int):PuE (c3 (.int i)):=⟨λ_=>some (.int i),[],false,λhv hd hf k=>by cases hf;exact k _ _ Ex.refl (.int i) (λz=>by cases z)⟩
def bBl (i:Bool):PuE (c3 (.bl i)):=⟨λ_=>some (.bool i),[],false,λhv hd hf k=>by cases hf;exact k _ _ Ex.refl (.bl i) (λz=>by cases z)⟩
def V7 (i:Str):PuE (c3 (.str i)):=⟨λ_=>some (.str i),[],false,λhv hd hf k=>by cases hf;exact k _ _ Ex.refl (.str i) (λz=>by cases z)⟩
def bO {r:R3} {ta tb:TE3} (R:OpD r) (a:PuE ta) (b:PuE tb):PuE (o3 r ta tb):=
 ⟨λρ=>(a.f ρ).bind λx=>(b.f ρ).bind λy=>R.f x y,a.fv++b.fv,R.nw,λhv hd hf k=>by
  obtain ⟨x,e1,hf⟩:=obb hf;obtain ⟨y,e2,hf⟩:=obb hf;exact a.ok hv.l hd e1 λx' G1 E1 D1 _=>b.ok (hv.r.up E1) (hd.up E1) e2 λy' G2 E2 D2 _=>R.ok (D1.up (zY E2)) D2 ((hd.up E1).up E2) hf λz G3 E3 D3 N3=>k z G3 ((E1.trans E2).trans E3) D3 λh=>(N3 h).back (E1.trans E2)⟩
def qG:PuA qk:=⟨λ_=>some [],[],0,(λh=>by cases h;rfl),λhv hd hf k=>by cases hf;exact k _ _ Ex.refl .nil⟩
def qg {ta:TE3} {tr:TA3} (a:PuE ta) (r:PuA tr):PuA (qc ta tr):=
 ⟨λρ=>(a.f ρ).bind λx=>(r.f ρ).bind λxs=>some (x::xs),a.fv++r.fv,r.n+1,(λhf=>by
  obtain ⟨x,e1,hf⟩:=obb hf;obtain ⟨xs,e2,hf⟩:=obb hf;cases hf;simp [r.ln e2]),λhv hd hf k=>by
  obtain ⟨x,e1,hf⟩:=obb hf;obtain ⟨xs,e2,hf⟩:=obb hf;cases hf;exact a.ok hv.l hd e1 λx' G1 E1 D1 _=>r.ok (hv.r.up E1) (hd.up E1) e2 λy' G2 E2 D2=>k _ G2 (E1.trans E2) (.cons (D1.up (zY E2)) D2)⟩
def few {n:Nat} (h:Tru (Nat.ble n 1000)):n<=sizeLine:=Nat.le_trans (Nat.le_of_ble_eq_true h.h) (by rw [sizeLine_eq];omega)
def CG {t:TA3} (a:PuA t) (hn:Tru (Nat.ble a.n 1000)):PuE (QE t):=⟨λρ=>(a.f ρ).map .tuple,a.fv,false,λhv hd hf k=>by
 obtain ⟨xs,e1,rfl⟩:=Option.map_eq_some_iff.mp hf;exact a.ok hv hd e1 λx G1 E1 D1=>⟨by rw [D1.length,a.ln e1];exact few hn,k _ _ E1 (.tup D1) (λz=>by cases z)⟩⟩
def TL {D:Addr->Prop} {G:Gp} {p:Addr} {xs:List T} {ds:List PyData} (hp:G p=none) (h:Dqs (rs D G) xs ds):Nw D G (gu G p (.lst xs)) (.ref p) (.list ds):=
 .inr ⟨p,xs,ds,rfl,rfl,hp,qz,h.up λb o e=>by
  obtain ⟨n,e⟩:=qy e;have:b≠p:=by rintro rfl;rw [hp] at e;cases e
  rw [zI (by rintro (z|z);exact n z;exact this z),zm this];exact e⟩
def JN {D:Addr->Prop} {G:Gp} {p:Addr} {xs:List T} {ds:List PyData} (hd:Dom D G) (hp:G p=none) (h:Dqs (rs D G) xs ds):Dq (rs D (gu G p (.lst xs))) (.ref p) (.list ds):=
 .lst (qjq hd hp) (h.up (zY (jD hp)))
def qgK {t:TA3} (a:PuA t) (hn:Tru (Nat.ble a.n 1000)):PuE (VX t):=⟨λρ=>(a.f ρ).map .list,a.fv,true,λhv hd hf k=>by
 obtain ⟨xs,e1,rfl⟩:=Option.map_eq_some_iff.mp hf;exact a.ok hv hd e1 λx G1 E1 D1=>⟨by rw [D1.length,a.ln e1];exact few hn,λp hp=>k _ _ (E1.trans (jD hp)) (JN (hd.up E1) hp D1) λ_=>(TL hp D1).back E1⟩⟩
def qA {r:List T->Gp->Q3->Prop} {t:TA3} (R:FnD r) (a:PuA t):PuE (cb3 r t):=
 ⟨λρ=>(a.f ρ).bind R.f,a.fv,R.nw,λhv hd hf k=>by
  obtain ⟨x,e1,hf⟩:=obb hf;exact a.ok hv hd e1 λx' G1 E1 D1=>R.ok D1 (hd.up E1) hf λz G3 E3 D3 N3=>k z G3 (E1.trans E3) D3 λh=>(N3 h).back E1⟩
def asB:PyData->Option Bool
 |.bool b=>some b
 |_=>none
def asI:PyData->Option Int
 |.int b=>some b
 |_=>none
def DN {d:PyData} {b:Bool} (h:asB d=some b):d=.bool b:=by cases d<;>simp [asB] at h;subst h;rfl
def qd3 {d:PyData} {b:Int} (h:asI d=some b):d=.int b:=by cases d<;>simp [asI] at h;subst h;rfl
def bTb {t:TE3} (a:PuE t):PuC (tb3 t):=⟨λρ=>(a.f ρ).bind asB,a.fv,λhv hd hf k=>by
 obtain ⟨x,e1,hf⟩:=obb hf;have:=DN hf;subst this;exact a.ok hv hd e1 λx' G1 E1 D1 _=>by cases D1;exact k G1 E1⟩
def bOr {t u:TT3} (a:PuC t) (b:PuC u):PuC (or3 t u):=⟨λρ=>(a.f ρ).bind λk=>if k then some true else b.f ρ,a.fv++b.fv,λhv hd hf k=>by
 obtain ⟨x,e1,hf⟩:=obb hf;refine a.ok hv.l hd e1 λG1 E1=>?_;cases x with
 |false=>exact b.ok (hv.r.up E1) (hd.up E1) hf λG2 E2=>k G2 (E1.trans E2)
 |true=>cases hf;exact k G1 E1⟩
def MA {t:TT3} (a:PuC t):PuC (RV t):=⟨λρ=>(a.f ρ).map (! ·),a.fv,λhv hd hf k=>by
 obtain ⟨x,e1,hf⟩:=Option.map_eq_some_iff.mp hf;subst hf;exact a.ok hv hd e1 λG1 E1=>k G1 E1⟩
def bTt:PuC tt3:=⟨λ_=>some true,[],λhv hd hf k=>by cases hf;exact k _ Ex.refl⟩
def U6 {ta tb:TE3} (a:PuE ta) (b:PuE tb):PuE (jy ta tb):=⟨λρ=>((a.f ρ).bind asB).bind λk=>if k then b.f ρ else some (.bool false),a.fv++b.fv,false,λhv hd hf k=>by
 obtain ⟨x,e1,hf⟩:=obb hf;obtain ⟨y,e1,e2⟩:=obb e1;have:=DN e2;subst this;refine a.ok hv.l hd e1 λx' G1 E1 D1 _=>?_;cases D1;cases x with
 |true=>exact b.ok (hv.r.up E1) (hd.up E1) hf λz G2 E2 D2 _=>k z G2 (E1.trans E2) D2 (λz=>by cases z)
 |false=>cases hf;exact k _ G1 E1 (.bl false) (λz=>by cases z)⟩
def qoZ {ta tb:TE3} (a:PuE ta) (b:PuE tb):PuE (qlK ta tb):=⟨λρ=>((a.f ρ).bind asB).bind λk=>if k then some (.bool true) else b.f ρ,a.fv++b.fv,false,λhv hd hf k=>by
 obtain ⟨x,e1,hf⟩:=obb hf;obtain ⟨y,e1,e2⟩:=obb e1;have:=DN e2;subst this;refine a.ok hv.l hd e1 λx' G1 E1 D1 _=>?_;cases D1;cases x with
 |false=>exact b.ok (hv.r.up E1) (hd.up E1) hf λz G2 E2 D2 _=>k z G2 (E1.trans E2) D2 (λz=>by cases z)
 |true=>cases hf;exact k _ G1 E1 (.bl true) (λz=>by cases z)⟩
def qjT {ta:TE3} (a:PuE ta):PuE (M0 ta):=⟨λρ=>((a.f ρ).bind asB).map λk=>.bool (!k),a.fv,false,λhv hd hf k=>by
 obtain ⟨x,e1,hf⟩:=Option.map_eq_some_iff.mp hf;obtain ⟨y,e1,e2⟩:=obb e1;have:=DN e2;subst this;subst hf;refine a.ok hv hd e1 λx' G1 E1 D1 _=>?_;cases D1;exact k _ G1 E1 (.bl _) (λz=>by cases z)⟩
def bIf {t:TT3} {ta tb:TE3} (c:PuC t) (a:PuE ta) (b:PuE tb):PuE (if3 t ta tb):=⟨λρ=>(c.f ρ).bind λk=>if k then a.f ρ else b.f ρ,c.fv++(a.fv++b.fv),false,λhv hd hf k=>by
 obtain ⟨x,e1,hf⟩:=obb hf;refine c.ok hv.l hd e1 λG1 E1=>?_;cases x with
 |true=>exact a.ok (hv.r.l.up E1) (hd.up E1) hf λz G2 E2 D2 _=>k z G2 (E1.trans E2) D2 (λz=>by cases z)
 |false=>exact b.ok (hv.r.r.up E1) (hd.up E1) hf λz G2 E2 D2 _=>k z G2 (E1.trans E2) D2 (λz=>by cases z)⟩
def qoX {ta:TE3} (a:PuE ta):PuE (u3 qeo ta):=⟨λρ=>((a.f ρ).bind asI).map λi=>.int (-i),a.fv,false,λhv hd hf k=>by
 obtain ⟨x,e1,hf⟩:=Option.map_eq_some_iff.mp hf;obtain ⟨y,e1,e2⟩:=obb e1;have:=qd3 e2;subst this;subst hf;refine a.ok hv hd e1 λx' G1 E1 D1 _=>?_;cases D1;exact k _ G1 E1 (.int _) (λz=>by cases z)⟩
def bCh {r r':R3} {ta tb tc:TE3} (R:OpD r) (R':OpD r') (a:PuE ta) (b:PuE tb) (c:PuE tc):PuE (ch3 r r' ta tb tc):=
 ⟨λρ=>(a.f ρ).bind λx=>(b.f ρ).bind λy=>((R.f x y).bind asB).bind λk=>if k then (c.f ρ).bind λz=>R'.f y z else some (.bool false),a.fv++(b.fv++c.fv),false,λ{D τ ρ G q d} hv hd hf k=>by
  obtain ⟨x,e1,hf⟩:=obb hf;obtain ⟨y,e2,hf⟩:=obb hf;obtain ⟨j,e3,hf⟩:=obb hf;obtain ⟨v,e3,e4⟩:=obb e3;have:=DN e4;subst this;refine a.ok hv.l hd e1 λx' G1 E1 D1 _=>b.ok (hv.r.l.up E1) (hd.up E1) e2 λy' G2 E2 D2 _=>R.ok (D1.up (zY E2)) D2 ((hd.up E1).up E2) e3 λz G3 E3 D3 _=>?_;cases D3;have E:=(E1.trans E2).trans E3;cases j with
  |true=>
   obtain ⟨w,e5,hf⟩:=obb hf;exact c.ok (hv.r.r.up E) (hd.up E) e5 λw' G4 E4 D4 _=>R'.ok ((D2.up (zY E3)).up (zY E4)) D4 ((hd.up E).up E4) hf λu G5 E5 D5 _=>k u G5 ((E.trans E4).trans E5) D5 (λz=>by cases z)
  |false=>cases hf;exact k _ G3 E (.bl false) (λz=>by cases z)⟩
def tyD:PyData->Option String
 |.none=>some "NoneType" |.bool _=>some "bool" |.int _=>some "int" |.str _=>some "str" |.tuple _=>some "tuple" |.list _=>some "list" |.dict _=>none
def qfy {ta:TE3} (g:String->Bool) (a:PuE ta):PuE (EX g ta):=⟨λρ=>(a.f ρ).bind λd=>(tyD d).map λt=>.bool (g t),a.fv,false,λhv hd hf k=>by
 obtain ⟨x,e1,hf⟩:=obb hf;obtain ⟨y,e2,hf⟩:=Option.map_eq_some_iff.mp hf;subst hf;refine a.ok hv hd e1 λx' G1 E1 D1 _=>?_;have:tyT G1 x'=some y:=by
  cases D1 with
  |lst h _=>have g:=qW (qy h).2;simp [tyT,g];simpa [tyD] using e2
  |_=>simpa [tyT,tyD] using e2
 simp only [this];exact k _ G1 E1 (.bl _) (λz=>by cases z)⟩
def bNp:PuO np3:=⟨λ_=>some none,[],λhv hd hf k=>by cases hf;exact k _ Ex.refl⟩
def bSp {t:TE3} (a:PuE t):PuO (sp3 t):=⟨λρ=>((a.f ρ).bind asI).map some,a.fv,λhv hd hf k=>by
 obtain ⟨x,e1,hf⟩:=Option.map_eq_some_iff.mp hf;obtain ⟨y,e1,e2⟩:=obb e1;have:=qd3 e2;subst this;subst hf;refine a.ok hv hd e1 λx' G1 E1 D1 _=>?_;cases D1;exact k G1 E1⟩
def Dqs.cut {G:Gp} {xs:List T} {ds:List PyData} (h:Dqs G xs ds) (lo hi:Option Int):Dqs G (XN xs lo hi) (XN ds lo hi):=by
 unfold XN;rw [h.length];exact (h.drop _).take _
def slD (d:PyData) (lo hi:Option Int):Option PyData:=match d with
 |.tuple xs=>cif (HT.sIx xs.length 0 lo=0/\HT.sIx xs.length xs.length hi=xs.length) none (some (.tuple (XN xs lo hi)))
 |.list xs=>some (.list (XN xs lo hi))
 |_=>none
def bSl {te:TE3} {tl th:TO3} (a:PuE te) (l:PuO tl) (h:PuO th):PuE (qlW te tl th):=⟨λρ=>(a.f ρ).bind λd=>(l.f ρ).bind λlo=>(h.f ρ).bind λhi=>slD d lo hi,a.fv++(l.fv++h.fv),false,λhv hd hf k=>by
 obtain ⟨d,e1,hf⟩:=obb hf;obtain ⟨lo,e2,hf⟩:=obb hf;obtain ⟨hi,e3,hf⟩:=obb hf;refine a.ok hv.l hd e1 λx' G1 E1 D1 _=>l.ok (hv.r.l.up E1) (hd.up E1) e2 λG2 E2=>h.ok (hv.r.r.up (E1.trans E2)) (hd.up (E1.trans E2)) e3 λG3 E3=>?_;have E:=(E1.trans E2).trans E3;have D3:=(D1.up (zY E2)).up (zY E3);unfold slD at hf;cases D3 with
 |tup hs=>
  simp only [cif] at hf;split at hf
  ·cases hf
  ·rename_i n;cases hf;exact ⟨by rw [hs.length];exact n,k _ _ E (.tup (hs.cut _ _)) (λz=>by cases z)⟩
 |lst g hs=>
  simp only at hf;cases hf;simp only [sl3,qW (qy g).2];intro p hp;exact k _ _ (E.trans (jD hp)) (JN (hd.up E) hp (hs.cut _ _)) (λz=>by cases z)
 |_=>simp at hf⟩
def V6:List PyData->Option (List Int)
 |[]=>some []
 |.int i::r=>(V6 r).map (i::·)
 |_=>none
def TZ:∀ {xs:List PyData} {ns:List Int},V6 xs=some ns->xs=ns.map PyData.int
 |[],_,h=>by simp [V6] at h;subst h;rfl
 |.int i::r,ns,h=>by
  simp only [V6] at h;obtain ⟨ms,e,rfl⟩:=Option.map_eq_some_iff.mp h;rw [TZ e];rfl
 |.none::r,ns,h=>by simp [V6] at h
 |.bool _::r,ns,h=>by simp [V6] at h
 |.str _::r,ns,h=>by simp [V6] at h
 |.list _::r,ns,h=>by simp [V6] at h
 |.tuple _::r,ns,h=>by simp [V6] at h
 |.dict _::r,ns,h=>by simp [V6] at h
def opI (g:Int->Int->Int):OpD (iI g):=⟨λd e=>match d,e with|.int i,.int j=>some (.int (g i j))|_,_=>none,false,λ{D G x y d e v q} hx hy hd hf k=>by
 cases hx<;>try (simp at hf;done)
 cases hy<;>try (simp at hf;done)
 cases hf;exact k _ _ Ex.refl (.int _) (λz=>by cases z)⟩
def cI (C:Int->Int->Prop) (g:Int->Int->Int) (d e:PyData):Option PyData:=match d,e with|.int i,.int j=>cif (C i j) (some (.int (g i j))) none|_,_=>none
def opC (C:Int->Int->Prop) (g:Int->Int->Int):OpD (iC C g):=⟨cI C g,false,λ{D G x y d e v q} hx hy hd hf k=>by
 unfold cI at hf;cases hx<;>try (simp at hf;done)
 cases hy<;>try (simp at hf;done)
 simp only [cif] at hf;split at hf
 ·rename_i c;cases hf;exact ⟨c,k _ _ Ex.refl (.int _) (λz=>by cases z)⟩
 ·cases hf⟩
def opB (g:Int->Int->Bool):OpD (iB g):=⟨λd e=>match d,e with|.int i,.int j=>some (.bool (g i j))|_,_=>none,false,λ{D G x y d e v q} hx hy hd hf k=>by
 cases hx<;>try (simp at hf;done)
 cases hy<;>try (simp at hf;done)
 cases hf;exact k _ _ Ex.refl (.bl _) (λz=>by cases z)⟩
def qcD:PyData->PyData->Option Bool
 |.none,.none=>some true|.none,.int _=>some false|.int _,.none=>some false|.none,.bool _=>some false|.bool _,.none=>some false|.none,.str _=>some false|.str _,.none=>some false
 |.int i,.int j=>some (decide (i=j))|.bool i,.bool j=>some (decide (i=j))|.str i,.str j=>some (decide (i=j))
 |.int _,.str _=>some false|.str _,.int _=>some false|.bool _,.str _=>some false|.str _,.bool _=>some false
 |_,_=>none
def qal {G:Gp} {x y:T} {d e:PyData} (hx:Dq G x d) (hy:Dq G y e):ZK x y=qcD d e:=by
 cases hx<;>cases hy<;>rfl
def eqD (neg:Bool) (d e:PyData):Option PyData:=match qcD d e with
 |some k=>some (.bool (if neg then !k else k))
 |none=>cif (dpt d<=40/\dpt d≠0) ((zN d e).map λb=>.bool (if neg then !b else b)) none
def YO (neg:Bool):OpD (zK neg):=⟨eqD neg,false,λ{D G x y d e v q} hx hy hd hf k=>by
 unfold zK;rw [qal hx hy];unfold eqD at hf;cases h:qcD d e with
 |some b=>rw [h] at hf;cases hf;exact k _ _ Ex.refl (.bl _) (λz=>by cases z)
 |none=>
  rw [h] at hf;simp only [cif] at hf ⊢;split at hf
  ·rename_i c;obtain ⟨b,e1,rfl⟩:=Option.map_eq_some_iff.mp hf;exact ⟨d,e,b,(hx.up JK).dp,(hy.up JK).dp,e1,c.1,c.2,k _ _ Ex.refl (.bl _) (λz=>by cases z)⟩
  ·cases hf⟩
def qlA (neg:Bool) (d e:PyData):Option PyData:=match d,e with|.bool i,.bool j=>some (.bool (if neg then i != j else i==j))|_,_=>none
def qiI (neg:Bool):OpD (qlU neg):=⟨qlA neg,false,λ{D G x y d e v q} hx hy hd hf k=>by
 unfold qlA at hf;cases hx<;>try (simp at hf;done)
 cases hy<;>try (simp at hf;done)
 cases hf;exact k _ _ Ex.refl (.bl _) (λz=>by cases z)⟩
def ixD (d e:PyData):Option PyData:=match d,e with
 |.tuple xs,.int i=>atI xs i
 |.list xs,.int i=>atI xs i
 |_,_=>none
def Dqs.atI {G:Gp} {xs:List T} {ds:List PyData} {i:Int} {d:PyData} (h:Dqs G xs ds) (e:L2.atI ds i=some d):∃ x,L2.atI xs i=some x/\Dq G x d:=by
 unfold L2.atI at e ⊢;rw [h.length];obtain ⟨j,e1,e2⟩:=obb e;obtain ⟨x,hx,r⟩:=h.get e2;exact ⟨x,by rw [e1];exact hx,r⟩
def ZF:OpD ix3:=⟨ixD,false,λ{D G x y d e v q} hx hy hd hf k=>by
 unfold ixD at hf;cases hx with
 |tup hs=>
  cases hy<;>try (simp at hf;done)
  obtain ⟨x,e1,r⟩:=hs.atI hf;simp only [ix3,e1];exact k _ _ Ex.refl r (λz=>by cases z)
 |lst g hs=>
  cases hy<;>try (simp at hf;done)
  obtain ⟨x,e1,r⟩:=hs.atI hf;simp only [ix3,qW (qy g).2,e1];exact k _ _ Ex.refl r (λz=>by cases z)
 |_=>simp at hf⟩
def qlG (d e:PyData):Option PyData:=match d,e with
 |.tuple xs,.tuple ys=>cif (xs≠[]/\xs.length+ys.length<=sizeLine) (some (.tuple (xs++ys))) none
 |.list xs,.list ys=>cif (xs.length+ys.length<=sizeLine) (some (.list (xs++ys))) none
 |.int i,.int j=>some (.int (i+j))
 |_,_=>none
def UC:OpD jX:=⟨qlG,false,λ{D G x y d e v q} hx hy hd hf k=>by
  unfold qlG at hf;cases hx with
  | int i => cases hy <;> try (simp at hf;done)
             cases hf;exact k _ _ Ex.refl (.int _) (λz=>by cases z)
  |tup hs=>
    cases hy<;>try (simp at hf;done)
    rename_i hs2;simp only [cif] at hf;split at hf
    · rename_i c;cases hf;refine ⟨?_,by rw [hs.length,hs2.length];exact c.2,k _ _ Ex.refl (.tup (hs.append hs2)) (λz=>by cases z)⟩;rintro rfl;cases hs;exact c.1 rfl
    · cases hf
  |lst g hs=>
    cases hy<;>try (simp at hf;done)
    rename_i g2 hs2;simp only [cif] at hf;split at hf
    · rename_i c;cases hf;simp only [jX,(qy g).2,(qy g2).2];exact ⟨by rw [hs.length,hs2.length];exact c,λp hp=>k _ _ (jD hp) (JN hd hp (hs.append hs2)) (λz=>by cases z)⟩
    · cases hf
  |_=>simp at hf⟩
def qlB:List PyData->Option PyData
 |[.tuple xs]=>some (.int xs.length)
 |[.list xs]=>some (.int xs.length)
 |_=>none
def qbM:FnD U8:=⟨qlB,false,λ{D G xs ds v q} hx hd hf k=>by
 unfold qlB at hf;split at hf
 ·cases hx with
  |cons a b=>cases b;cases a;rename_i hs;cases hf;simp only [U8];rw [hs.length];exact k _ _ Ex.refl (.int _) (λz=>by cases z)
 ·cases hx with
  |cons a b=>cases b;cases a;rename_i g hs;cases hf;simp only [U8,qW (qy g).2];rw [hs.length];exact k _ _ Ex.refl (.int _) (λz=>by cases z)
 ·cases hf⟩
def qgQ:List PyData->Option PyData
 |[.int i]=>some (.int i)
 |[.bool k]=>some (.int (if k then 1 else 0))
 |_=>none
def qnT:FnD KQ:=⟨qgQ,false,λ{D G xs ds v q} hx hd hf k=>by
 unfold qgQ at hf;split at hf
 ·cases hx with
  |cons a b=>cases b;cases a;cases hf;exact k _ _ Ex.refl (.int _) (λz=>by cases z)
 ·cases hx with
  |cons a b=>cases b;cases a;cases hf;exact k _ _ Ex.refl (.int _) (λz=>by cases z)
 ·cases hf⟩
def qlJ:List PyData->Option PyData
 |[.tuple xs]=>some (.tuple xs)
 |[.list xs]=>some (.tuple xs)
 |_=>none
def qkV:FnD JM:=⟨qlJ,false,λ{D G xs ds v q} hx hd hf k=>by
 unfold qlJ at hf;split at hf
 ·cases hx with
  |cons a b=>cases b;cases a;rename_i hs;cases hf;exact k _ _ Ex.refl (.tup hs) (λz=>by cases z)
 ·cases hx with
  |cons a b=>cases b;cases a;rename_i g hs;cases hf;simp only [JM,qW (qy g).2];exact k _ _ Ex.refl (.tup hs) (λz=>by cases z)
 ·cases hf⟩
def qlH:List PyData->Option PyData
 |[.tuple xs]=>some (.list xs)
 |[.list xs]=>some (.list xs)
 |_=>none
def qnz:FnD M4:=⟨qlH,true,λ{D G xs ds v q} hx hd hf k=>by
 unfold qlH at hf;split at hf
 ·cases hx with
  |cons a b=>cases b;cases a;rename_i hs;cases hf;exact λp hp=>k _ _ (jD hp) (JN hd hp hs) λ_=>TL hp hs
 ·cases hx with
  |cons a b=>cases b;cases a;rename_i g hs;cases hf;simp only [M4,qW (qy g).2];exact λp hp=>k _ _ (jD hp) (JN hd hp hs) λ_=>TL hp hs
 ·cases hf⟩
def K2:List PyData->Option (List Bool)
 |[]=>some []
 |.bool i::r=>(K2 r).map (i::·)
 |_=>none
def qbC (ns:List Bool):K2 (ns.map PyData.bool)=some ns:=by
 induction ns with
 |nil=>rfl
 |cons n r ih=>simp [K2,ih]
def qbe {G:Gp}:∀ {xs:List T} {ds:List PyData} {ns:List Bool},Dqs G xs ds->K2 ds=some ns->qeh xs=some (ns.all id)/\qmM xs=some (ns.any id)
 |_,_,_,.nil,h=>by simp [K2] at h;subst h;exact ⟨rfl,rfl⟩
 |_,.bool i::r,ns,.cons a b,h=>by
  simp only [K2] at h;obtain ⟨ms,e,rfl⟩:=Option.map_eq_some_iff.mp h;obtain ⟨h1,h2⟩:=qbe b e;cases a;simp [qeh,qmM,h1,h2]
 |_,.int _::r,ns,_,h=>by simp [K2] at h
 |_,.none::r,ns,_,h=>by simp [K2] at h
 |_,.str _::r,ns,_,h=>by simp [K2] at h
 |_,.list _::r,ns,_,h=>by simp [K2] at h
 |_,.tuple _::r,ns,_,h=>by simp [K2] at h
 |_,.dict _::r,ns,_,h=>by simp [K2] at h
def qkg:List PyData->Option PyData
 |[.list xs]=>(K2 xs).map λns=>.bool (ns.all id)
 |_=>none
def qhg:FnD qbf:=⟨qkg,false,λ{D G xs ds v q} hx hd hf k=>by
 unfold qkg at hf;split at hf
 ·obtain ⟨ns,e,rfl⟩:=Option.map_eq_some_iff.mp hf;cases hx with
  |cons a b=>cases b;cases a;rename_i g hs;simp only [qbf,qW (qy g).2,(qbe hs e).1];exact k _ _ Ex.refl (.bl _) (λz=>by cases z)
 ·cases hf⟩
def PSp (F:List PyData->Option PyData) (fr:Bool):Sp3:=λts G q=>∃ (D:Addr->Prop) (ds:List PyData) (d:PyData),Dqs (rs D G) ts ds/\Dom D G/\F ds=some d/\∀ x G',Ex G G'->Dq (rs D G') x d->(fr=true->Nw D G G' x d)->q x G'
def zk (F:List PyData->Option PyData) (fr:Bool):FnD (PSp F fr):=⟨F,fr,λ{D G xs ds v q} hx hd hf k=>⟨D,ds,v,hx,hd,hf,k⟩⟩
def MD:PyData->Option (List PyData)
 |.tuple xs=>some xs
 |.list xs=>some xs
 |_=>none
def CZ {t:TE3} (a:PuE t):PuI (Q9 t):=⟨λρ=>(a.f ρ).bind MD,a.fv,false,λ{D τ ρ G r ds} hv hd hf k=>by
 obtain ⟨d,e1,hf⟩:=obb hf;refine a.ok hv hd e1 λx G1 E1 D1 _=>?_;unfold MD at hf;cases D1 with
 |tup hs=>cases hf;exact k _ _ _ E1 hs (λ_ _=>trivial) (λz=>by cases z)
 |lst g hs=>
  cases hf;simp only [qW (qy g).2];refine k _ _ _ E1 hs (λG2 h=>?_) (λz=>by cases z);rcases h with h|h
  ·cases h
  ·exact qW (h _ _ g)
 |_=>simp at hf⟩
def KS (lo:Int) (n:Nat):List Int:=(List.range n).map λ(i:Nat)=>lo+(i:Int)
def qdK (lo:Int) (n:Nat):L6 lo n=(KS lo n).map T.int:=by simp [L6,KS,map_map,Function.comp_def]
def qlt:List PyData->Option (List PyData)
 |[.int j]=>cif (-(2 ^ 62)<=j/\j<2 ^ 62) (some ((KS 0 j.toNat).map PyData.int)) none
 |[.int i,.int j]=>cif (-(2 ^ 62)<=i/\i<2 ^ 62/\-(2 ^ 62)<=j/\j<2 ^ 62) (some ((KS i (j-i).toNat).map PyData.int)) none
 |_=>none
def qgN {t:TA3} (a:PuA t):PuI (VQ t):=⟨λρ=>(a.f ρ).bind qlt,a.fv,true,λ{D τ ρ G r ds} hv hd hf k=>by
 obtain ⟨d,e1,hf⟩:=obb hf;refine a.ok hv hd e1 λx G1 E1 D1=>?_;unfold qlt at hf;split at hf
 ·unfold cif at hf;split at hf
  ·rename_i c;cases hf;cases D1 with
   |cons a b=>cases b;cases a;simp only;rw [qdK];exact ⟨c,k _ _ _ E1 (Dqs.ofInts _) (λ_ _=>trivial) λ_=>⟨_,rfl⟩⟩
  ·cases hf
 ·unfold cif at hf;split at hf
  ·rename_i c;cases hf;cases D1 with
   |cons a b=>cases b with
    |cons b c'=>cases c';cases a;cases b;simp only;rw [qdK];exact ⟨c,k _ _ _ E1 (Dqs.ofInts _) (λ_ _=>trivial) λ_=>⟨_,rfl⟩⟩
  ·cases hf
 ·cases hf⟩
def qml (us vs:List PyData):List PyData:=(us.zip vs).map λp=>.tuple [p.1,p.2]
def Dqs.zip {G:Gp}:∀ {xs:List T} {ds:List PyData} {ys:List T} {es:List PyData},Dqs G xs ds->Dqs G ys es->Dqs G (qbv xs ys) (qml ds es)
 |_,_,_,_,.nil,_=>by simp [qbv,qml];exact .nil
 |_,_,_,_,.cons _ _,.nil=>by simp [qbv,qml];exact .nil
 |_,_,_,_,.cons a b,.cons c d=>.cons (.tup (.cons a (.cons c .nil))) (Dqs.zip b d)
def qbZ {G:Gp} {x:T} {d:PyData} {ds:List PyData} (h:Dq G x d) (e:MD d=some ds):∃ us,zT G x=some us/\Dqs G us ds:=by
 unfold MD at e;cases h with
 |tup hs=>cases e;exact ⟨_,rfl,hs⟩
 |lst g hs=>cases e;exact ⟨_,qW g,hs⟩
 |_=>simp at e
def qeD {G G':Gp} {x:T} {us:List T} (e:Ex G G') (h:zT G x=some us):zT G' x=some us:=by
 cases x with
 |tup xs=>exact h
 |ref p=>exact e.getL h
 |_=>cases h
def enD (k:Nat):List PyData->List PyData
 |[]=>[]
 |x::r=>.tuple [.int (k:Int),x]::enD (k+1) r
def Dqs.enum {G:Gp}:∀ {xs:List T} {ds:List PyData} (k:Nat),Dqs G xs ds->Dqs G (jI k xs) (enD k ds)
 |_,_,_,.nil=>.nil
 |_,_,k,.cons a b=>.cons (.tup (.cons (.int _) (.cons a .nil))) (Dqs.enum (k+1) b)
def qf9 {t:TA3} (a:PuA t):PuI (T6 t):=⟨λρ=>(a.f ρ).bind λds=>match ds with|[d]=>(MD d).map λus=>enD 0 us|_=>none,a.fv,false,λ{D τ ρ G r ds} hv hd hf k=>by
 obtain ⟨d,e1,hf⟩:=obb hf;refine a.ok hv hd e1 λx G1 E1 D1=>?_;split at hf
 ·obtain ⟨us,e2,rfl⟩:=Option.map_eq_some_iff.mp hf;cases D1 with
  |cons a b=>
   cases b;obtain ⟨us',h1,h2⟩:=qbZ a e2;simp only [qeD JK h1];refine k _ _ _ E1 (h2.enum 0) (λG2 h=>?_) (λz=>by cases z);rcases h with h|h
   ·cases h
   ·exact qeD h h1
 ·cases hf⟩
inductive Bd (H:Gp):List (Nat×T)->List (Nat×PyData)->Prop
 |nil:Bd H [] []
 |cons {i:Nat} {x:T} {d:PyData} {ts:List (Nat×T)} {bs:List (Nat×PyData)}:Dq H x d->Bd H ts bs->Bd H ((i,x)::ts) ((i,d)::bs)
def Bd.append {H:Gp}:∀ {ts:List (Nat×T)} {bs:List (Nat×PyData)} {us:List (Nat×T)} {cs:List (Nat×PyData)},Bd H ts bs->Bd H us cs->Bd H (ts++us) (bs++cs)
 |_,_,_,_,.nil,h=>h
 |_,_,_,_,.cons a b,h=>.cons a (Bd.append b h)
def Bd.up {H H':Gp} (e:Ex H H'):∀ {ts:List (Nat×T)} {bs:List (Nat×PyData)},Bd H ts bs->Bd H' ts bs
 |_,_,.nil=>.nil
 |_,_,.cons a b=>.cons (a.up e) (Bd.up e b)
def sets:St3->List (Nat×T)->St3
 |τ,[]=>τ
 |τ,p::r=>sets (τ.set p.1 (some p.2)) r
def JI:Rho->List (Nat×PyData)->Rho
 |ρ,[]=>ρ
 |ρ,p::r=>JI (ρ.set p.1 (.sh p.2)) r
def SX:∀ (τ:St3) (a b:List (Nat×T)),sets τ (a++b)=sets (sets τ a) b
 |τ,[],b=>rfl
 |τ,p::a,b=>by simp only [cons_append,sets];exact SX _ a b
structure PuG (g:TG3) where
 f:PyData->Option (List (Nat×PyData))
 tg:List Nat
 at':∀ {d bs},f d=some bs->∀ p∈bs,p.1∈tg
 ok:∀ {H x d bs},Dq H x d->f d=some bs->∃ ts,Bd H ts bs/\∀ τ G (q:St3->Gp->Prop),q (sets τ ts) G->g x τ G q
structure PuGs (g:XX) where
 f:List PyData->Option (List (Nat×PyData))
 tg:List Nat
 at':∀ {d bs},f d=some bs->∀ p∈bs,p.1∈tg
 ok:∀ {H x d bs},Dqs H x d->f d=some bs->∃ ts,Bd H ts bs/\∀ τ G (q:St3->Gp->Prop),q (sets τ ts) G->g x τ G q
def gN (i:Nat):PuG (gn3 i):=⟨λd=>some [(i,d)],[i],λh p hp=>by cases h;simp at hp;subst hp;simp,λhx h=>by cases h;exact ⟨_,.cons hx .nil,λτ G q hq=>hq⟩⟩
def qbY:PuGs UA:=⟨λds=>match ds with|[]=>some []|_=>none,[],(λh p hp=>by split at h;cases h;cases hp;cases h),λhx h=>by
 split at h
 ·cases h;cases hx;exact ⟨[],.nil,λτ G q hq=>hq⟩
 ·cases h⟩
def JZ {t:TG3} {u:XX} (a:PuG t) (b:PuGs u):PuGs (zL t u):=⟨λds=>match ds with|d::r=>(a.f d).bind λx=>(b.f r).map λy=>x++y|[]=>none,a.tg++b.tg,(λh p hp=>by
 split at h
 ·obtain ⟨x,e1,h⟩:=obb h;obtain ⟨y,e2,rfl⟩:=Option.map_eq_some_iff.mp h;rcases List.mem_append.mp hp with z|z
  ·exact List.mem_append.mpr (.inl (a.at' e1 p z))
  ·exact List.mem_append.mpr (.inr (b.at' e2 p z))
 ·cases h),λhx h=>by
 split at h
 ·obtain ⟨x,e1,h⟩:=obb h;obtain ⟨y,e2,rfl⟩:=Option.map_eq_some_iff.mp h;cases hx with
  |cons hx hr=>
   obtain ⟨ts,b1,k1⟩:=a.ok hx e1;obtain ⟨us,b2,k2⟩:=b.ok hr e2;refine ⟨ts++us,b1.append b2,λτ G q hq=>k1 τ G _ (k2 _ G q ?_)⟩;rw [← SX];exact hq
 ·cases h⟩
def qb2 {u:XX} (n:Nat) (b:PuGs u):PuG (DK n u):=⟨λd=>match d with|.tuple ds=>if ds.length=n then b.f ds else none|_=>none,b.tg,(λh p hp=>by
 split at h
 ·split at h
  ·exact b.at' h p hp
  ·cases h
 ·cases h),λhx h=>by
 split at h
 ·split at h
  ·rename_i c;cases hx with
   |tup hs=>
    obtain ⟨ts,b1,k1⟩:=b.ok hs h;exact ⟨ts,b1,λτ G q hq=>⟨by rw [hs.length];exact c,k1 τ G q hq⟩⟩
  ·cases h
 ·cases h⟩
structure VA (D:Addr->Prop) (G:Gp) (τ:St3) (ρ:Rho):Prop where
 len:ρ.length=τ.length
 vw:∀ i d,vw ρ i=some d->∃ t,τ[i]?=some (some t)/\Dq (rs D G) t d
def VA.view {D:Addr->Prop} {G:Gp} {τ:St3} {ρ:Rho} (h:VA D G τ ρ) (fv:List Nat):DL fv D G τ ρ:=λi _ d e=>h.vw i d e
def VA.upx {D:Addr->Prop} {G G':Gp} {τ:St3} {ρ:Rho} (h:VA D G τ ρ) (e:Ex (rs D G) (rs D G')):VA D G' τ ρ:=⟨h.len,λi d hd=>let ⟨t,a,b⟩:=h.vw i d hd;⟨t,a,b.up e⟩⟩
def VA.up {D:Addr->Prop} {G G':Gp} {τ:St3} {ρ:Rho} (h:VA D G τ ρ) (e:Ex G G'):VA D G' τ ρ:=h.upx (zY e)
def qej {ρ:Rho} {i j:Nat} {s:Sl}:vw (ρ.set i s) j=if i=j then (if i<ρ.length then s.d else none) else vw ρ j:=by
 unfold vw;rw [getElem?_set];split
 ·subst j;split
  ·rfl
  ·rfl
 ·rfl
def VA.set {D:Addr->Prop} {G:Gp} {τ:St3} {ρ:Rho} (h:VA D G τ ρ) {i:Nat} {x:T} {d:PyData} (hx:Dq (rs D G) x d):VA D G (τ.set i (some x)) (ρ.set i (.sh d)):=by
 refine ⟨by simp [h.len],λj e he=>?_⟩;rw [qej] at he;split at he
 ·subst j;split at he
  ·rename_i l;cases he;refine ⟨x,?_,hx⟩;rw [getElem?_set,if_pos rfl,if_pos (by rw [← h.len];exact l)]
  ·cases he
 ·rename_i n;obtain ⟨t,a,b⟩:=h.vw j e he;exact ⟨t,by rw [getElem?_set,if_neg n];exact a,b⟩
def VA.sets {D:Addr->Prop} {G:Gp}:∀ {ts:List (Nat×T)} {bs:List (Nat×PyData)} {τ:St3} {ρ:Rho},VA D G τ ρ->Bd (rs D G) ts bs->VA D G (Pu.sets τ ts) (JI ρ bs)
 |_,_,_,_,h,.nil=>h
 |_,_,_,_,h,.cons a b=>by unfold Pu.sets JI;exact VA.sets (h.set a) b
def VA.keep {D:Addr->Prop} {G:Gp} {ρ:Rho}:∀ {ts:List (Nat×T)} {τ:St3},VA D G τ ρ->(∀ p∈ts,Pu.vw ρ p.1=none)->VA D G (Pu.sets τ ts) ρ
 |[],_,h,_=>h
 |p::r,τ,h,hn=>VA.keep (ts:=r) ⟨by rw [List.length_set];exact h.len,λj d hd=>by
   have:p.1≠j:=by rintro rfl;rw [hn p (by simp)] at hd;cases hd
   obtain ⟨t,a,b⟩:=h.vw j d hd;exact ⟨t,by rw [getElem?_set,if_neg this];exact a,b⟩⟩ λq hq=>hn q (by simp [hq])
def RI (m:List (Option Nat)) (ρ:Rho):Rho:=m.map λo=>match o with|some j=>(match vw ρ j with|some d=>.sh d|none=>.un)|none=>.un
def VA.cap {m:List (Option Nat)} {D:Addr->Prop} {G:Gp} {τ:St3} {ρ:Rho} (h:DL (m.filterMap id) D G τ ρ):VA D G (L3.cap m τ) (RI m ρ):=by
 refine ⟨by simp [RI,L3.cap],λi d hd=>?_⟩;unfold Pu.vw RI at hd;rw [getElem?_map] at hd;cases e:m[i]? with
 |none=>rw [e] at hd;cases hd
 |some o=>
  rw [e] at hd;cases o with
  |none=>cases hd
  |some j=>
   simp only [Option.map_some,Option.bind_some] at hd;cases e2:Pu.vw ρ j with
   |none=>rw [e2] at hd;cases hd
   |some d'=>
    rw [e2] at hd;have hd':d'=d:=by simpa [Sl.d] using hd
    subst hd';obtain ⟨t,a,b⟩:=h j (List.mem_filterMap.mpr ⟨some j,mem_of_getElem? e,rfl⟩) d' e2;refine ⟨t,?_,b⟩;unfold L3.cap;rw [getElem?_map,e];simp [a]
def RQ {m:List (Option Nat)} {ρ:Rho} {i:Nat} (h:m[i]?=some none):vw (RI m ρ) i=none:=by
 unfold vw RI;rw [getElem?_map,h];rfl
def lcP (h:PyData->Option (Option PyData)):List PyData->Option (List PyData)
 |[]=>some []
 |d::r=>(h d).bind λo=>(lcP h r).bind λys=>some (match o with|some y=>y::ys|none=>ys)
def lcH (gf:PyData->Option (List (Nat×PyData))) (cf:Rho->Option Bool) (ef:Rho->Option PyData) (ρ:Rho) (d:PyData):Option (Option PyData):=
 (gf d).bind λbs=>(cf (JI ρ bs)).bind λk=>if k then (ef (JI ρ bs)).map some else some none
def QC {h:PyData->Option (Option PyData)} {α:Type} {g:α->PyData} {k:α->PyData} {xs:List α} (hh:∀ a∈xs,h (g a)=some (some (k a))):lcP h (xs.map g)=some (xs.map k):=by
 induction xs with
 |nil=>rfl
 |cons a r ih=>simp only [map_cons,lcP,hh a (by simp),Option.bind_some,ih λb hb=>hh b (by simp [hb])]
def qcc {H:Gp}:∀ {ts:List (Nat×T)} {bs:List (Nat×PyData)},Bd H ts bs->∀ p∈ts,∃ q∈bs,q.1=p.1
 |_,_,.nil,p,hp=>by cases hp
 |_,_,.cons a b,p,hp=>by
  rcases mem_cons.mp hp with rfl|hp
  ·exact ⟨_,List.mem_cons_self,rfl⟩
  ·obtain ⟨q,hq,e⟩:=qcc b p hp;exact ⟨q,by simp [hq],e⟩
def qfP {stay:Gp->Prop} {g:TG3} {tif:TT3} {te:TE3} {q:Q3} (pg:PuG g) (pc:PuC tif) (pe:PuE te) {D:Addr->Prop} {ρ0:Rho} {G0:Gp} (hs:∀ G,Ex G0 G->stay G) (hm:∀ i∈pg.tg,vw ρ0 i=none) (fin:List PyData) (hfin:fin.length<=sizeLine)
  (k:∀ G ys,Ex G0 G->Dqs (rs D G) ys fin->∀ p,G p=none->q (.ref p) (gu G p (.lst ys))) :
  ∀ (ds:List PyData) (items ys:List T) (es fs:List PyData) (τ:St3) (G:Gp),Dqs (rs D G0) items ds->VA D G τ ρ0->Ex G0 G->Dom D G->Dqs (rs D G) ys es->lcP (lcH pg.f pc.f pe.f ρ0) ds=some fs->es++fs=fin->qbr stay g tif te q items ys τ G
 |_,_,ys,es,fs,τ,G,.nil,va,E,hd,hy,hf,hl=>by
  cases hf;rw [List.append_nil] at hl;subst hl;exact ⟨hs G E,k G ys E hy⟩
 |d::ds,x::items,ys,es,fs,τ,G,.cons hx hr,va,E,hd,hy,hf,hl=>by
  unfold lcP at hf;obtain ⟨o,e1,hf⟩:=obb hf;obtain ⟨jk,e2,hf⟩:=obb hf;unfold lcH at e1;obtain ⟨bs,e3,e1⟩:=obb e1;obtain ⟨c,e4,e1⟩:=obb e1;obtain ⟨ts,bd,kg⟩:=pg.ok (hx.up (zY E)) e3;refine ⟨hs G E,kg τ G _ ?_⟩;have va1:=va.sets bd;have va2:=va.keep (ts:=ts) λp hp=>by
   obtain ⟨q,hq,e⟩:=qcc bd p hp;rw [← e];exact hm _ (pg.at' e3 q hq)
  refine pc.ok (va1.view _) hd e4 λG1 E1=>?_;cases c with
  |true=>
   rw [if_pos rfl];rw [if_pos rfl] at e1;obtain ⟨y,e5,rfl⟩:=Option.map_eq_some_iff.mp e1;simp only [Option.some.injEq] at hf;subst hf;refine pe.ok ((va1.up E1).view _) (hd.up E1) e5 λz G2 E2 D2 _=>⟨?_,?_⟩
   ·rw [hy.length];rw [← hl] at hfin;simp at hfin;omega
   ·refine qfP pg pc pe hs hm fin hfin k ds items (ys++[z]) (es++[y]) jk _ G2 hr ((va2.up E1).up E2) (E.trans (E1.trans E2)) ((hd.up E1).up E2) (((hy.up (zY E1)).up (zY E2)).append (.cons D2 .nil)) e2 ?_;rw [← hl];simp
  |false=>
   rw [if_neg Bool.false_ne_true];simp at e1;subst e1;simp only [Option.some.injEq] at hf;subst hf;exact qfP pg pc pe hs hm fin hfin k ds items ys es jk _ G1 hr (va2.up E1) (E.trans E1) (hd.up E1) (hy.up (zY E1)) e2 hl
def lcF (pi:Rho->Option (List PyData)) (h:Rho->PyData->Option (Option PyData)) (m:List (Option Nat)) (ρ:Rho):Option PyData:=
 (pi ρ).bind λds=>(lcP (h (RI m ρ)) ds).bind λfs=>cif (fs.length<=sizeLine) (some (.list fs)) none
def bLc {wi:TI3} {g:TG3} {tif:TT3} {te:TE3} (pi:PuI wi) (pg:PuG g) (pc:PuC tif) (pe:PuE te) (m:List (Option Nat)) (hm:Tru (pg.tg.all λi=>m[i]?==some none)):PuE (lc3 wi g tif te m):=
 ⟨lcF pi.f (lcH pg.f pc.f pe.f) m,pi.fv++m.filterMap id,true,λ{D τ ρ G q d} hv hd hf k=>by
  unfold lcF at hf;obtain ⟨ds,e1,hf⟩:=obb hf;obtain ⟨fs,e2,hf⟩:=obb hf;unfold cif at hf;split at hf
  ·rename_i hl;cases hf;refine pi.ok hv.l hd e1 λitems stay G1 E1 D1 hs _=>?_;have va:=(VA.cap (m:=m) hv.r).up E1;refine qfP pg pc pe (D:=D) (ρ0:=RI m ρ) (G0:=G1) (λG2 E2=>hs G2 (.inr (JK.trans E2))) (λi hi=>RQ ?_) fs hl (λG2 ys E2 D2 p hp=>?_) ds items [] [] fs _ G1 D1 va Ex.refl (hd.up E1) .nil e2 (by simp)
   ·have:=List.all_eq_true.mp hm.h i hi;simpa using this
   ·exact k _ _ ((E1.trans E2).trans (jD hp)) (JN ((hd.up E1).up E2) hp D2) λ_=>(TL hp D2).back (E1.trans E2)
  ·cases hf⟩
def E0 (p:Addr) (G G':Gp):Prop:=∀ b o,b≠p->G b=some o->G' b=some o
def E0.refl {p:Addr} {G:Gp}:E0 p G G:=λ_ _ _ e=>e
def E0.trans {p:Addr} {G G1 G2:Gp} (a:E0 p G G1) (b:E0 p G1 G2):E0 p G G2:=λx o n e=>b x o n (a x o n e)
def E0.of {p:Addr} {G G1:Gp} (a:Ex G G1):E0 p G G1:=λx o _ e=>a x o e
def E0.wr {p:Addr} {G:Gp} {o:O}:E0 p G (gu G p o):=λb ob n e=>by rw [zm n];exact e
def E0.rs {p:Addr} {D:Addr->Prop} {G G1:Gp} (a:E0 p G G1):Ex (rs (λb=>D b\/b=p) G) (rs (λb=>D b\/b=p) G1):=λb o h=>by
 obtain ⟨n,h⟩:=qy h;rw [zI n];exact a b o (λz=>n (.inr z)) h
def qhw {D:Addr->Prop} {G:Gp} {p:Addr} {o:O} (h:Dom D G):Dom D (gu G p o):=λb d z=>by
 by_cases e:b=p
 ·subst e;rw [qz] at z;cases z
 ·rw [zm e] at z;exact h b d z
def qgy {p:Addr} {stay:Gp->Prop} {g:TG3} {tif:TT3} {te:TE3} {N:St3->Gp->Prop} (pg:PuG g) (pc:PuC tif) (pe:PuE te) {D:Addr->Prop} {ρ0:Rho} {G0:Gp} (hs:∀ G,Ex (rs (λb=>D b\/b=p) G0) G->stay G) (hm:∀ i∈pg.tg,vw ρ0 i=none) (fin:List PyData) (hfin:fin.length<=sizeLine)
  (k:∀ τ G ys,VA (λb=>D b\/b=p) G τ ρ0->E0 p G0 G->Dom (λb=>D b\/b=p) G->G p=some (.lst ys)->Dqs (rs (λb=>D b\/b=p) G) ys fin->N τ G) :
  ∀ (ds:List PyData) (items ys:List T) (es fs:List PyData) (τ:St3) (G:Gp),Dqs (rs (λb=>D b\/b=p) G0) items ds->VA (λb=>D b\/b=p) G τ ρ0->E0 p G0 G->Dom (λb=>D b\/b=p) G->G p=some (.lst ys)->Dqs (rs (λb=>D b\/b=p) G) ys es->lcP (lcH pg.f pc.f pe.f ρ0) ds=some fs->es++fs=fin->qgM p stay g tif te N items τ G
 |_,_,ys,es,fs,τ,G,.nil,va,E,hd,gp,hy,hf,hl=>by
  cases hf;rw [List.append_nil] at hl;subst hl;exact ⟨hs G (E.rs.trans JK),k τ G ys va E hd gp hy⟩
 |d::ds,x::items,ys,es,fs,τ,G,.cons hx hr,va,E,hd,gp,hy,hf,hl=>by
  unfold lcP at hf;obtain ⟨o,e1,hf⟩:=obb hf;obtain ⟨jk,e2,hf⟩:=obb hf;unfold lcH at e1;obtain ⟨bs,e3,e1⟩:=obb e1;obtain ⟨c,e4,e1⟩:=obb e1;obtain ⟨ts,bd,kg⟩:=pg.ok (hx.up E.rs) e3;refine ⟨hs G (E.rs.trans JK),kg τ G _ ?_⟩;have va1:=va.sets bd;have va2:=va.keep (ts:=ts) λp hp=>by
   obtain ⟨q,hq,e⟩:=qcc bd p hp;rw [← e];exact hm _ (pg.at' e3 q hq)
  refine pc.ok (va1.view _) hd e4 λG1 E1=>?_;cases c with
  |true=>
   rw [if_pos rfl];rw [if_pos rfl] at e1;obtain ⟨y,e5,rfl⟩:=Option.map_eq_some_iff.mp e1;simp only [Option.some.injEq] at hf;subst hf;refine pe.ok ((va1.up E1).view _) (hd.up E1) e5 λz G2 E2 D2 _=>?_;simp only [E2 _ _ (E1 _ _ gp)];have W:E0 p G2 (gu G2 p (.lst (ys++[z]))):=E0.wr;refine ⟨?_,?_⟩
   ·rw [hy.length];rw [← hl] at hfin;simp at hfin;omega
   ·refine qgy pg pc pe hs hm fin hfin k ds items (ys++[z]) (es++[y]) jk _ _ hr (((va2.up E1).up E2).upx W.rs) ((E.trans (E0.of (E1.trans E2))).trans W) (qhw ((hd.up E1).up E2)) qz ((((hy.up (zY E1)).up (zY E2)).append (.cons D2 .nil)).up W.rs) e2 ?_;rw [← hl];simp
  |false=>
   rw [if_neg Bool.false_ne_true];simp at e1;subst e1;simp only [Option.some.injEq] at hf;subst hf;exact qgy pg pc pe hs hm fin hfin k ds items ys es jk _ G1 hr (va2.up E1) (E.trans (E0.of E1)) (hd.up E1) (E1 _ _ gp) (hy.up (zY E1)) e2 hl
def qfT (h:PyData->Option (Option (List PyData))):List PyData->Option (List PyData)
 |[]=>some []
 |d::r=>(h d).bind λo=>(qfT h r).bind λys=>some (match o with|some y=>y++ys|none=>ys)
def qi4 (gf:PyData->Option (List (Nat×PyData))) (cf:Rho->Option Bool) (it:Rho->Option (List PyData)) (h:Rho->PyData->Option (Option PyData)) (ρ:Rho) (d:PyData):Option (Option (List PyData)):=
 (gf d).bind λbs=>(cf (JI ρ bs)).bind λk=>if k then ((it (JI ρ bs)).bind λds=>lcP (h (JI ρ bs)) ds).map some else some none
def SA:∀ {bs:List (Nat×PyData)} {ρ:Rho} {i:Nat},(∀ p∈bs,p.1≠i)->vw (JI ρ bs) i=vw ρ i
 |[],_,_,_=>rfl
 |p::r,ρ,i,h=>by
  unfold JI;rw [SA (λq hq=>h q (by simp [hq])),qej,if_neg (h p (by simp))]
def TN:∀ (bs:List (Nat×PyData)) (ρ:Rho),(JI ρ bs).length=ρ.length
 |[],τ=>rfl
 |p::r,τ=>by unfold JI;rw [TN r];simp
def qag {p:Addr} {stay:Gp->Prop} {g g2:TG3} {tif tif2:TT3} {wi2:TI3} {te:TE3} {q:Q3} (pg:PuG g) (pc:PuC tif) (pi2:PuI wi2) (pg2:PuG g2) (pc2:PuC tif2) (pe:PuE te) {D:Addr->Prop} {ρ0:Rho} {G0:Gp} (hs:∀ G,Ex (rs (λb=>D b\/b=p) G0) G->stay G) (hm:∀ i∈pg.tg,vw ρ0 i=none) (hm2:∀ i∈pg2.tg,vw ρ0 i=none) (hdj:∀ i∈pg2.tg,i∉pg.tg) (fin:List PyData) (hfin:fin.length<=sizeLine)
  (k:∀ G ys,E0 p G0 G->G p=some (.lst ys)->Dqs (rs (λb=>D b\/b=p) G) ys fin->q (.ref p) G) :
  ∀ (ds:List PyData) (items ys:List T) (es fs:List PyData) (τ:St3) (G:Gp),Dqs (rs (λb=>D b\/b=p) G0) items ds->VA (λb=>D b\/b=p) G τ ρ0->E0 p G0 G->Dom (λb=>D b\/b=p) G->G p=some (.lst ys)->Dqs (rs (λb=>D b\/b=p) G) ys es->qfT (qi4 pg.f pc.f pi2.f (lcH pg2.f pc2.f pe.f) ρ0) ds=some fs->es++fs=fin->KR p stay g tif wi2 g2 tif2 te q items τ G
 |_,_,ys,es,fs,τ,G,.nil,va,E,hd,gp,hy,hf,hl=>by
  cases hf;rw [List.append_nil] at hl;subst hl;exact ⟨hs G (E.rs.trans JK),k G ys E gp hy⟩
 |d::ds,x::items,ys,es,fs,τ,G,.cons hx hr,va,E,hd,gp,hy,hf,hl=>by
  unfold qfT at hf;obtain ⟨o,e1,hf⟩:=obb hf;obtain ⟨jk,e2,hf⟩:=obb hf;unfold qi4 at e1;obtain ⟨bs,e3,e1⟩:=obb e1;obtain ⟨c,e4,e1⟩:=obb e1;obtain ⟨ts,bd,kg⟩:=pg.ok (hx.up E.rs) e3;refine ⟨hs G (E.rs.trans JK),kg τ G _ ?_⟩;have va1:=va.sets bd;have va2:=va.keep (ts:=ts) λp hp=>by
   obtain ⟨q,hq,e⟩:=qcc bd p hp;rw [← e];exact hm _ (pg.at' e3 q hq)
  refine pc.ok (va1.view _) hd e4 λG1 E1=>?_;cases c with
  |true=>
   rw [if_pos rfl];rw [if_pos rfl] at e1;obtain ⟨y,e5,rfl⟩:=Option.map_eq_some_iff.mp e1;obtain ⟨ds2,e6,e5⟩:=obb e5;simp only [Option.some.injEq] at hf;subst hf;refine pi2.ok ((va1.up E1).view _) (hd.up E1) e6 λitems2 stay2 G2 E2 D2 hs2 _=>?_;have l2:(es++y).length<=sizeLine:=by
    rw [← hl] at hfin;simp at hfin ⊢;omega
   refine qgy pg2 pc2 pe (ρ0:=JI ρ0 bs) (G0:=G2) (λG3 E3=>hs2 G3 (.inr E3)) (λi hi=>?_) (es++y) l2 (λτ3 G3 zs va3 E3 hd3 gp3 hz=>?_) ds2 items2 ys es y _ G2 D2 ((va1.up E1).up E2) E0.refl ((hd.up E1).up E2) (E2 _ _ (E1 _ _ gp)) ((hy.up (zY E1)).up (zY E2)) e5 rfl
   ·rw [SA λq hq e=>hdj i hi (by rw [← e];exact pg.at' e3 q hq)];exact hm2 i hi
   ·have E4:E0 p G G3:=(E0.of (E1.trans E2)).trans E3;have va4:VA (λb=>D b\/b=p) G3 τ3 ρ0:=⟨by rw [← va3.len,TN],λi d' hd'=>va3.vw i d' (by
     rw [SA λq hq e=>?_];exact hd';rw [← e,hm _ (pg.at' e3 q hq)] at hd';cases hd')⟩
    exact qag pg pc pi2 pg2 pc2 pe hs hm hm2 hdj fin hfin k ds items zs (es++y) jk τ3 G3 hr va4 (E.trans E4) hd3 gp3 hz e2 (by rw [← hl];simp)
  |false=>
   rw [if_neg Bool.false_ne_true];simp at e1;subst e1;simp only [Option.some.injEq] at hf;subst hf;exact qag pg pc pi2 pg2 pc2 pe hs hm hm2 hdj fin hfin k ds items ys es jk _ G1 hr (va2.up E1) (E.trans (E0.of E1)) (hd.up E1) (E1 _ _ gp) (hy.up (zY E1)) e2 hl
def qjH (pi:Rho->Option (List PyData)) (h:Rho->PyData->Option (Option (List PyData))) (m:List (Option Nat)) (ρ:Rho):Option PyData:=
 (pi ρ).bind λds=>(qfT (h (RI m ρ)) ds).bind λfs=>cif (fs.length<=sizeLine) (some (.list fs)) none
def S4 {h:PyData->Option (Option (List PyData))} {α:Type} {g:α->PyData} {k:α->List PyData} {xs:List α} (hh:∀ a∈xs,h (g a)=some (some (k a))):qfT h (xs.map g)=some (xs.flatMap k):=by
 induction xs with
 |nil=>rfl
 |cons a r ih=>simp only [map_cons,qfT,hh a (by simp),Option.bind_some,ih λb hb=>hh b (by simp [hb]),List.flatMap_cons]
def qjC {wi wi2:TI3} {g g2:TG3} {tif tif2:TT3} {te:TE3} (pi:PuI wi) (pg:PuG g) (pc:PuC tif) (pi2:PuI wi2) (pg2:PuG g2) (pc2:PuC tif2) (pe:PuE te) (m:List (Option Nat)) (hm:Tru (pg.tg.all λi=>m[i]?==some none)) (hm2:Tru (pg2.tg.all λi=>m[i]?==some none)) (hdj:Tru (pg2.tg.all λi=>!pg.tg.contains i)):PuE (qdc wi g tif wi2 g2 tif2 te m):=
 ⟨qjH pi.f (qi4 pg.f pc.f pi2.f (lcH pg2.f pc2.f pe.f)) m,pi.fv++m.filterMap id,true,λ{D τ ρ G q d} hv hd hf k=>by
  unfold qjH at hf;obtain ⟨ds,e1,hf⟩:=obb hf;obtain ⟨fs,e2,hf⟩:=obb hf;unfold cif at hf;split at hf
  ·rename_i hl;cases hf;refine pi.ok hv.l hd e1 λitems stay G1 E1 D1 hs _ p hp=>?_;have va:=(VA.cap (m:=m) hv.r).up E1;have np:∀ {b o},G1 b=some o->b≠p:=λe=>by rintro rfl;rw [hp] at e;cases e
   have X1:Ex (rs D G1) (rs (λb=>D b\/b=p) (gu G1 p (.lst []))):=λb o e=>by
    obtain ⟨n,e⟩:=qy e;rw [zI (by rintro (z|z);exact n z;exact np e z),zm (np e)];exact e
   refine qag pg pc pi2 pg2 pc2 pe (D:=D) (ρ0:=RI m ρ) (G0:=gu G1 p (.lst [])) (p:=p) (λG2 E2=>hs G2 (.inr (X1.trans E2))) (λi hi=>RQ ?_) (λi hi=>RQ ?_) (λi hi hj=>?_) fs hl (λG2 ys E2 gp D2=>?_) ds items [] [] fs _ _ (D1.up X1) ⟨va.len,λi d hd=>let ⟨t,a,b⟩:=va.vw i d hd;⟨t,a,b.up X1⟩⟩ E0.refl ?_ qz .nil e2 (by simp)
   ·simpa using List.all_eq_true.mp hm.h i hi
   ·simpa using List.all_eq_true.mp hm2.h i hi
   ·have:=List.all_eq_true.mp hdj.h i hi;simp at this;exact this hj
   ·have EE:Ex G1 G2:=λb o e=>E2 b o (np e) (by rw [zm (np e)];exact e);have hdp:¬ D p:=λz=>(hd.up E1) p z hp;refine k _ _ (E1.trans EE) (.lst (by rw [zI hdp];exact gp) (D2.up (zX λb z=>.inl z))) λ_=>Nw.back (.inr ⟨p,ys,fs,rfl,rfl,hp,gp,D2⟩) E1
   ·intro b hb z;by_cases e:b=p
    ·subst e;rw [qz] at z;cases z
    ·rw [zm e] at z;rcases hb with hb|hb
     ·exact (hd.up E1) b hb z
     ·exact e hb
  ·cases hf⟩
def AD (D:Addr->Prop) (A:Nat->Option Addr) (b:Addr):Prop:=D b\/∃ i,A i=some b
structure RS (D:Addr->Prop) (G0:Gp) (A:Nat->Option Addr) (τ:St3) (ρ:Rho) (G:Gp):Prop where
 ex:Ex G0 G
 dm:Dom D G0
 fr:∀ i p,A i=some p->G0 p=none
 da:∀ i p,A i=some p->G p≠none
 inj:∀ i j p,A i=some p->A j=some p->i=j
 len:ρ.length=τ.length
 sh:∀ (i:Nat) (d:PyData),ρ[i]?=some (Sl.sh d)->∃ t,τ[i]?=some (some t)/\Dq (rs (AD D A) G) t d
 ow:∀ (i:Nat) (ds:List PyData),ρ[i]?=some (Sl.ow ds)->∃ p xs,A i=some p/\τ[i]?=some (some (.ref p))/\G p=some (.lst xs)/\Dqs (rs (AD D A) G) xs ds
 dc:∀ (i:Nat) (kvs:List (Int×PyData)),ρ[i]?=some (Sl.dc kvs)->∃ p ks,A i=some p/\τ[i]?=some (some (.ref p))/\G p=some (.dct ks)/\ks.map (λq=>q.1)=kvs.map (λq=>q.1)/\Dqs (rs (AD D A) G) (ks.map λq=>q.2) (kvs.map λq=>q.2)
section
variable {D:Addr->Prop} {G0 G G':Gp} {A A':Nat->Option Addr} {τ:St3} {ρ:Rho}
def RS.nd (h:RS D G0 A τ ρ G) {i:Nat} {p:Addr} (e:A i=some p):¬ D p:=λz=>h.dm p z (h.fr i p e)
def RS.dom (h:RS D G0 A τ ρ G):Dom (AD D A) G:=λb hb=>by
 rcases hb with hb|⟨i,hi⟩
 ·exact (h.dm.up h.ex) b hb
 ·exact h.da i b hi
def RS.domD (h:RS D G0 A τ ρ G):Dom D G:=h.dm.up h.ex
def RS.up (h:RS D G0 A τ ρ G) (e:Ex G G'):RS D G0 A τ ρ G':=
 ⟨h.ex.trans e,h.dm,h.fr,λi p a z=>(h.da i p a) (by
  cases g:G p with
  |none=>rfl
  |some o=>rw [e _ _ g] at z;cases z),h.inj,h.len,λi d a=>let ⟨t,b,c⟩:=h.sh i d a;⟨t,b,c.up (zY e)⟩,λi ds a=>let ⟨p,xs,b,c,d,f⟩:=h.ow i ds a;⟨p,xs,b,c,e _ _ d,f.up (zY e)⟩,λi ds a=>let ⟨p,xs,b,c,d,k,f⟩:=h.dc i ds a;⟨p,xs,b,c,e _ _ d,k,f.up (zY e)⟩⟩
def RS.viewAll (h:RS D G0 A τ ρ G) (fv:List Nat):DL fv D G τ ρ:=λi _ d hd=>by
 unfold vw at hd;obtain ⟨s,e,hd⟩:=obb hd;have less:Ex (rs (AD D A) G) (rs D G):=zX λb z=>.inl z;cases s with
 |un=>cases hd
 |sh d'=>
  cases hd;obtain ⟨t,b,c⟩:=h.sh i _ e;exact ⟨t,b,c.up less⟩
 |ow ds=>
  cases hd;obtain ⟨p,xs,b,c,g,f⟩:=h.ow i _ e;exact ⟨_,c,.lst (by rw [zI (h.nd b)];exact g) (f.up less)⟩
 |dc kvs=>cases hd
def RS.view (h:RS D G0 A τ ρ G) {fv:List Nat} (hn:∀ i∈fv,A i=none):DL fv (AD D A) G τ ρ:=λi hi d hd=>by
 unfold vw at hd;obtain ⟨s,e,hd⟩:=obb hd;cases s with
 |un=>cases hd
 |sh d'=>
  cases hd;exact h.sh i _ e
 |ow ds=>
  obtain ⟨p,xs,b,_⟩:=h.ow i _ e;rw [hn i hi] at b;cases b
 |dc kvs=>cases hd
def Sl.dem:Sl->Sl
 |.ow ds=>.sh (.list ds)
 |.dc _=>.un
 |s=>s
def dm:List Bool->Rho->Rho
 |b::m,s::r=>(match b with|true=>s.dem|false=>s)::dm m r
 |_,r=>r
def mkb (m:List Bool) (i:Nat):Bool:=(m[i]?).getD false
def LY:∀ (m:List Bool) (ρ:Rho) (i:Nat),(dm m ρ)[i]?=(ρ[i]?).map λs=>if mkb m i=true then s.dem else s
 |[],ρ,i=>by simp [dm,mkb]
 |b::m,[],i=>by simp [dm]
 |b::m,s::r,0=>by cases b<;>simp [dm,mkb]
 |b::m,s::r,i+1=>by
  have:=LY m r i;simp only [dm,getElem?_cons_succ,mkb] at this ⊢;exact this
def qnw (s:Sl):s.dem.d=s.d:=by cases s<;>rfl
def qnA (m:List Bool) (ρ:Rho) (i:Nat):vw (dm m ρ) i=vw ρ i:=by
 unfold vw;rw [LY];cases ρ[i]? with
 |none=>rfl
 |some s=>
  simp only [Option.map_some,Option.bind_some];split
  ·exact qnw s
  ·rfl
def qdZ:∀ (m:List Bool) (ρ:Rho),(dm m ρ).length=ρ.length
 |[],ρ=>rfl
 |b::m,[]=>rfl
 |b::m,s::r=>by simp [dm,qdZ m r]
def Ad (m:List Bool) (A:Nat->Option Addr):Nat->Option Addr:=λi=>if mkb m i=true then none else A i
def EO {m:List Bool} {i:Nat} {p:Addr} (h:Ad m A i=some p):A i=some p/\mkb m i=false:=by
 unfold Ad at h;split at h
 ·cases h
 ·rename_i n;exact ⟨h,by simpa using n⟩
def RS.dem (h:RS D G0 A τ ρ G) (m:List Bool):RS D G0 (Ad m A) τ (Pu.dm m ρ) G:=by
 have less:Ex (rs (AD D A) G) (rs (AD D (Ad m A)) G):=zX λb z=>by
  rcases z with z|⟨i,z⟩
  ·exact .inl z
  ·exact .inr ⟨i,(EO z).1⟩
 refine ⟨h.ex,h.dm,λi p e=>h.fr i p (EO e).1,λi p e=>h.da i p (EO e).1,λi j p a b=>h.inj i j p (EO a).1 (EO b).1,by rw [qdZ];exact h.len,λi d e=>?_,λi ds e=>?_,λi kvs e=>?_⟩
 ·rw [LY] at e;obtain ⟨s,e1,e2⟩:=Option.map_eq_some_iff.mp e;cases s with
  |un=>split at e2<;>cases e2
  |sh d'=>
   have:d'=d:=by split at e2<;>(cases e2;rfl)
   subst this;obtain ⟨t,b,c⟩:=h.sh i _ e1;exact ⟨t,b,c.up less⟩
  |ow ds=>
   split at e2
   ·rename_i hm;cases e2;obtain ⟨p,xs,b,c,g,f⟩:=h.ow i _ e1;refine ⟨_,c,.lst ?_ (f.up less)⟩;rw [zI]
    ·exact g
    ·rintro (z|⟨j,z⟩)
     ·exact h.nd b z
     ·have:=h.inj i j p b (EO z).1;subst this;rw [(EO z).2] at hm;cases hm
   ·cases e2
  |dc kvs=>split at e2<;>cases e2
 ·rw [LY] at e;obtain ⟨s,e1,e2⟩:=Option.map_eq_some_iff.mp e;cases s with
  |un=>split at e2<;>cases e2
  |sh d'=>split at e2<;>cases e2
  |ow ds'=>
   split at e2
   ·cases e2
   ·rename_i hm;cases e2;obtain ⟨p,xs,b,c,g,f⟩:=h.ow i _ e1;exact ⟨p,xs,by unfold Ad;rw [if_neg hm];exact b,c,g,f.up less⟩
  |dc kvs=>split at e2<;>cases e2
 ·rw [LY] at e;obtain ⟨s,e1,e2⟩:=Option.map_eq_some_iff.mp e;cases s with
  |un=>split at e2<;>cases e2
  |sh d'=>split at e2<;>cases e2
  |ow ds'=>split at e2<;>cases e2
  |dc ds'=>
   split at e2
   ·cases e2
   ·rename_i hm;cases e2;obtain ⟨p,xs,b,c,g,k,f⟩:=h.dc i _ e1;exact ⟨p,xs,by unfold Ad;rw [if_neg hm];exact b,c,g,k,f.up less⟩
def RS.viewD (h:RS D G0 A τ ρ G) {m:List Bool} {fv:List Nat} (hm:Tru (fv.all (mkb m))):DL fv (AD D (Ad m A)) G τ ρ:=by
 have:=(h.dem m).view (fv:=fv) λi hi=>by unfold Ad;rw [if_pos (List.all_eq_true.mp hm.h i hi)]
 intro i hi d hd;exact this i hi d (by rw [qnA];exact hd)
def Er (A:Nat->Option Addr) (i:Nat):Nat->Option Addr:=λj=>if j=i then none else A j
def EW {i j:Nat} {p:Addr} (h:Er A i j=some p):A j=some p/\j≠i:=by
 unfold Er at h;split at h
 ·cases h
 ·rename_i n;exact ⟨h,n⟩
def RS.put (h:RS D G0 A τ ρ G) (i:Nat) {x:T} {d:PyData} (hx:Dq (rs (AD D A) G) x d):RS D G0 (Er A i) (τ.set i (some x)) (ρ.set i (.sh d)) G:=by
 have less:Ex (rs (AD D A) G) (rs (AD D (Er A i)) G):=zX λb z=>by
  rcases z with z|⟨j,z⟩
  ·exact .inl z
  ·exact .inr ⟨j,(EW z).1⟩
 refine ⟨h.ex,h.dm,λj p e=>h.fr j p (EW e).1,λj p e=>h.da j p (EW e).1,λj k p a b=>h.inj j k p (EW a).1 (EW b).1,by simp [h.len],λj e he=>?_,λj ds e=>?_,λj ds e=>?_⟩
 ·rw [getElem?_set] at he ⊢;split at he
  ·rename_i hj;rw [if_pos hj];split at he
   ·rename_i hl;cases he;exact ⟨x,by rw [if_pos (by rw [← h.len];exact hl)],hx.up less⟩
   ·cases he
  ·rename_i hj;rw [if_neg hj];obtain ⟨t,b,c⟩:=h.sh j _ he;exact ⟨t,b,c.up less⟩
 ·rw [getElem?_set] at e ⊢;split at e
  ·split at e<;>cases e
  ·rename_i hj;rw [if_neg hj];obtain ⟨p,xs,b,c,g,f⟩:=h.ow j _ e;exact ⟨p,xs,by unfold Er;rw [if_neg (λz=>hj z.symm)];exact b,c,g,f.up less⟩
 ·rw [getElem?_set] at e ⊢;split at e
  ·split at e<;>cases e
  ·rename_i hj;rw [if_neg hj];obtain ⟨p,xs,b,c,g,k,f⟩:=h.dc j _ e;exact ⟨p,xs,by unfold Er;rw [if_neg (λz=>hj z.symm)];exact b,c,g,k,f.up less⟩
def RS.puts:∀ {ts:List (Nat×T)} {bs:List (Nat×PyData)} {A:Nat->Option Addr} {τ:St3} {ρ:Rho},RS D G0 A τ ρ G->Bd (rs (AD D A) G) ts bs->∃ A',RS D G0 A' (sets τ ts) (JI ρ bs) G
 |_,_,A,_,_,h,.nil=>⟨A,h⟩
 |_,_,A,_,_,h,.cons (i:=i) a b=>by
  unfold sets JI;exact RS.puts (h.put i a) (b.up (zX λb z=>by
   rcases z with z|⟨j,z⟩
   ·exact .inl z
   ·exact .inr ⟨j,(EW z).1⟩))
def RS.putN (h:RS D G0 A τ ρ G) (i:Nat) {x:T} {d:PyData} {ds:List PyData} (hd:d=.list ds) (E:Ex G G') (hx:Nw (AD D A) G G' x d):RS D G0 (λj=>if j=i then (match x with|.ref p=>some p|_=>none) else A j) (τ.set i (some x)) (ρ.set i (.ow ds)) G':=by
 rcases hx with hx|⟨p,xs,ds',rfl,e',gp,gp',hs⟩
 ·rw [hd] at hx;cases hx
 rw [hd] at e';cases e';have np:∀ {j q},A j=some q->q≠p:=λe=>by rintro rfl;exact h.da _ _ e gp
 have X1:Ex (rs (AD D A) G) (rs (AD D (λj=>if j=i then some p else A j)) G'):=λb o e=>by
  obtain ⟨n,e⟩:=qy e;rw [zI]
  ·exact E _ _ e
  ·rintro (z|⟨j,z⟩)
   ·exact n (.inl z)
   ·simp only at z;split at z
    ·cases z;rw [gp] at e;cases e
    ·exact n (.inr ⟨j,z⟩)
 refine ⟨h.ex.trans E,h.dm,λj q e=>?_,λj q e=>?_,λj k q a b=>?_,by simp [h.len],λj e he=>?_,λj es e=>?_,λj es e=>?_⟩
 ·simp only at e;split at e
  ·cases e;cases z:G0 p with
   |none=>rfl
   |some o=>rw [h.ex _ _ z] at gp;cases gp
  ·exact h.fr j q e
 ·simp only at e;split at e
  ·cases e;rw [gp'];simp
  ·exact (h.up E).da j q e
 ·simp only at a b;split at a
  ·cases a;split at b
   ·rename_i h1 h2;rw [h1,h2]
   ·exact absurd rfl (np b)
  ·split at b
   ·cases b;exact absurd rfl (np a)
   ·exact h.inj j k q a b
 ·rw [getElem?_set] at he ⊢;split at he
  ·split at he<;>cases he
  ·rename_i hj;rw [if_neg hj];obtain ⟨t,b,c⟩:=h.sh j _ he;exact ⟨t,b,c.up X1⟩
 ·rw [getElem?_set] at e ⊢;split at e
  ·rename_i hj;subst hj;split at e
   ·rename_i hl;cases e;refine ⟨p,xs,by simp,by rw [if_pos rfl,if_pos (by rw [← h.len];exact hl)],gp',hs.up (zX λb z=>?_)⟩;rcases z with z|⟨j,z⟩
    ·exact .inl (.inl z)
    ·simp only at z;split at z
     ·cases z;exact .inr rfl
     ·exact .inl (.inr ⟨j,z⟩)
   ·cases e
  ·rename_i hj;rw [if_neg hj];obtain ⟨q,ys,b,c,g,f⟩:=h.ow j _ e;exact ⟨q,ys,by rw [if_neg (λz=>hj z.symm)];exact b,c,E _ _ g,f.up X1⟩
 ·rw [getElem?_set] at e ⊢;split at e
  ·split at e<;>cases e
  ·rename_i hj;rw [if_neg hj];obtain ⟨q,ys,b,c,g,k,f⟩:=h.dc j _ e;exact ⟨q,ys,by rw [if_neg (λz=>hj z.symm)];exact b,c,E _ _ g,k,f.up X1⟩
def RS.wr (h:RS D G0 A τ ρ G) {i:Nat} {p:Addr} {xs:List T} {ds:List PyData} (hi:A i=some p) (ht:τ[i]?=some (some (.ref p))) (hs:Dqs (rs (AD D A) G) xs ds):RS D G0 A τ (ρ.set i (.ow ds)) (gu G p (.lst xs)):=by
 have X1:Ex (rs (AD D A) G) (rs (AD D A) (gu G p (.lst xs))):=λb o e=>by
  obtain ⟨n,e⟩:=qy e;rw [zI n,zm (by rintro rfl;exact n (.inr ⟨i,hi⟩))];exact e
 refine ⟨λb o e=>?_,h.dm,h.fr,λj q e=>?_,h.inj,by simp [h.len],λj e he=>?_,λj es e=>?_,λj es e=>?_⟩
 ·rw [zm (by rintro rfl;rw [h.fr i _ hi] at e;cases e)];exact h.ex _ _ e
 ·by_cases z:q=p
  ·subst z;rw [qz];simp
  ·rw [zm z];exact h.da j q e
 ·rw [getElem?_set] at he;split at he
  ·split at he<;>cases he
  ·obtain ⟨t,b,c⟩:=h.sh j _ he;exact ⟨t,b,c.up X1⟩
 ·rw [getElem?_set] at e;split at e
  ·rename_i hj;subst hj;split at e
   ·cases e;exact ⟨p,xs,hi,ht,qz,hs.up X1⟩
   ·cases e
  ·rename_i hj;obtain ⟨q,ys,b,c,g,f⟩:=h.ow j _ e;exact ⟨q,ys,b,c,by rw [zm (by rintro rfl;exact hj (h.inj i j _ hi b))];exact g,f.up X1⟩
 ·rw [getElem?_set] at e;split at e
  ·split at e<;>cases e
  ·rename_i hj;obtain ⟨q,ys,b,c,g,k,f⟩:=h.dc j _ e;exact ⟨q,ys,b,c,by rw [zm (by rintro rfl;exact hj (h.inj i j _ hi b))];exact g,k,f.up X1⟩
def RS.base {Gb:Gp} (h:RS D Gb A τ ρ G) (e:Ex G0 Gb) (hd:Dom D G0):RS D G0 A τ ρ G:=
 ⟨e.trans h.ex,hd,(λi p a=>by
  cases z:G0 p with
  |none=>rfl
  |some o=>have:=h.fr i p a;rw [e _ _ z] at this;cases this),h.da,h.inj,h.len,h.sh,h.ow,h.dc⟩
end
inductive Ot where
 |nx (ρ:Rho)|bk (ρ:Rho)|ct (ρ:Rho)|rt (d:PyData) (fr:Bool)
def qiK (D:Addr->Prop) (G0:Gp) (e:Ends3):Ot->Prop
 |.nx ρ=>∀ A τ G,RS D G0 A τ ρ G->e.nx τ G
 |.bk ρ=>∀ A τ G,RS D G0 A τ ρ G->e.bk τ G
 |.ct ρ=>∀ A τ G,RS D G0 A τ ρ G->e.ct τ G
 |.rt d fr=>∀ x G,Ex G0 G->Dq (rs D G) x d->(fr=true->Nw D G0 G x d)->e.rt x G
def qiK.base {D:Addr->Prop} {G0 Gb:Gp} {e:Ends3} {o:Ot} (h:qiK D G0 e o) (x:Ex G0 Gb) (hd:Dom D G0):qiK D Gb e o:=by
 cases o with
 |nx ρ=>exact λA τ G r=>h A τ G (r.base x hd)
 |bk ρ=>exact λA τ G r=>h A τ G (r.base x hd)
 |ct ρ=>exact λA τ G r=>h A τ G (r.base x hd)
 |rt d fr=>exact λy G a b c=>h y G (x.trans a) b λz=>(c z).back x
structure PuS (t:TS3) where
 f:Nat->Rho->Option Ot
 ok:∀ {D G0 A τ ρ G n o} {e:Ends3},RS D G0 A τ ρ G->f n ρ=some o->qiK D G0 e o->t e τ G
def Z3:PuS qS:=⟨λ_ ρ=>some (.nx ρ),λh hf k=>by cases hf;exact k _ _ _ h⟩
def qlx:PuS qe9:=⟨λ_ ρ=>none,λh hf k=>by cases hf⟩
def qlP (a b:Nat->Rho->Option Ot) (n:Nat) (ρ:Rho):Option Ot:=(a n ρ).bind λo=>match o with|.nx ρ'=>b n ρ'|o=>some o
def YQ {t u:TS3} (a:PuS t) (b:PuS u):PuS (zd t u):=⟨qlP a.f b.f,λ{D G0 A τ ρ G n o e} h hf k=>by
 unfold qlP at hf;obtain ⟨o1,e1,hf⟩:=obb hf;refine a.ok h e1 ?_;cases o1 with
 |nx ρ'=>exact λA' τ' G' h'=>b.ok h' hf k
 |bk ρ'=>cases hf;exact k
 |ct ρ'=>cases hf;exact k
 |rt d fr=>cases hf;exact k⟩
def sIf {c:TT3} {t u:TS3} (pc:PuC c) (a:PuS t) (b:PuS u):PuS (jx c t u):=⟨λn ρ=>(pc.f ρ).bind λk=>if k then a.f n ρ else b.f n ρ,λh hf k=>by
 obtain ⟨o1,e1,hf⟩:=obb hf;refine pc.ok (h.viewAll _) h.domD e1 λG1 E1=>?_;cases o1 with
 |true=>exact a.ok (h.up E1) hf k
 |false=>exact b.ok (h.up E1) hf k⟩
def VD {t:TE3} (a:PuE t):PuS (zh t):=⟨λ_ ρ=>(a.f ρ).map λd=>.rt d a.nw,λh hf k=>by
 obtain ⟨d,e1,rfl⟩:=Option.map_eq_some_iff.mp hf;exact a.ok (h.viewAll _) h.domD e1 λx G1 E1 D1 N1=>k x G1 (h.ex.trans E1) D1 λz=>(N1 z).back h.ex⟩
def qfw (ρ:Rho) (i:Nat):Option Ot:=match ρ[i]? with|some (.ow ds)=>some (.rt (.list ds) true)|some (.sh d)=>some (.rt d false)|_=>none
def N6 (i:Nat):PuS (zh (v3 i)):=⟨λ_ ρ=>qfw ρ i,λh hf k=>by
 unfold qfw at hf;split at hf
 ·rename_i ds e;cases hf;obtain ⟨p,xs,b,c,g,f⟩:=h.ow i _ e;simp only [zh,v3,c];refine k _ _ h.ex (.lst (by rw [zI (h.nd b)];exact g) (f.up (zX λb z=>.inl z))) λ_=>.inr ⟨p,xs,ds,rfl,rfl,h.fr i p b,g,f.up (zX λq z=>?_)⟩;rcases z with z|z
  ·exact .inl z
  ·subst z;exact .inr ⟨i,b⟩
 ·rename_i d e;cases hf;obtain ⟨t,b,c⟩:=h.sh i _ e;simp only [zh,v3,b];exact k _ _ h.ex (c.up (zX λb z=>.inl z)) (λz=>by cases z)
 ·cases hf⟩
def DP {H H':Gp} {x:T} {d:PyData} (h:Dq H x d) (s:qcM d=true):Dq H' x d:=by
 cases h<;>first|(constructor;done)|(simp [qcM] at s;done)
def qph:PyData->Sl
 |.list ds=>.ow ds
 |d=>.sh d
def KW (m:List Bool) (nw:Bool) (i:Nat) (d:PyData) (ρ:Rho):Rho:=if qcM d then ρ.set i (.sh d) else (dm m ρ).set i (if nw then qph d else .sh d)
def qbu {t:TE3} (a:PuE t) (i:Nat) (m:List Bool) (hm:Tru (a.fv.all (mkb m))):PuS (jc t (gn3 i)):=⟨λ_ ρ=>(a.f ρ).map λd=>.nx (KW m a.nw i d ρ),λ{D G0 A τ ρ G n o e} h hf k=>by
 obtain ⟨d,e1,rfl⟩:=Option.map_eq_some_iff.mp hf;refine a.ok (h.viewD hm) (h.dem m).dom e1 λx G1 E1 D1 N1=>?_;unfold KW at k;show e.nx (τ.set i (some x)) G1;split at k
 ·rename_i hs;exact k _ _ _ ((h.up E1).put i (DP D1 hs))
 ·split at k
  ·rename_i hn;have N:=N1 hn;rcases id N with h2|⟨p,xs,ds,h1,h2,_⟩
   ·exact absurd h2 (by assumption)
   subst h2;exact k _ _ _ ((h.dem m).putN i rfl E1 N)
  ·exact k _ _ _ (((h.dem m).up E1).put i D1)⟩
def qhW {t:TE3} {g:TG3} (a:PuE t) (pg:PuG g) (m:List Bool) (hm:Tru (a.fv.all (mkb m))):PuS (jc t g):=⟨λ_ ρ=>(a.f ρ).bind λd=>(pg.f d).map λbs=>.nx (JI (dm m ρ) bs),λ{D G0 A τ ρ G n o e} h hf k=>by
 obtain ⟨d,e1,hf⟩:=obb hf;obtain ⟨bs,e2,rfl⟩:=Option.map_eq_some_iff.mp hf;refine a.ok (h.viewD hm) (h.dem m).dom e1 λx G1 E1 D1 N1=>?_;obtain ⟨ts,bd,kg⟩:=pg.ok D1 e2;refine kg _ _ _ ?_;obtain ⟨A',h'⟩:=((h.dem m).up E1).puts bd;exact k _ _ _ h'⟩
def qn7 (i j:Nat) (m:List Bool) (ds:List PyData) (ρ:Rho):Option Ot:=match ds with
 |[d,e]=>if qcM d&&qcM e then some (.nx ((ρ.set i (.sh d)).set j (.sh e))) else some (.nx (((dm m ρ).set i (.sh d)).set j (.sh e)))
 |_=>none
def qfJ {D:Addr->Prop} {A:Nat->Option Addr} {G:Gp} {i:Nat}:Ex (rs (AD D A) G) (rs (AD D (Er A i)) G):=zX λb z=>by
 rcases z with z|⟨j,z⟩
 ·exact .inl z
 ·exact .inr ⟨j,(EW z).1⟩
def slot (ρ:Rho) (i:Nat):Option (List PyData):=match ρ[i]? with|some (.ow ds)=>some ds|_=>none
def dmS (m:List Bool) (d:PyData) (ρ:Rho):Rho:=if qcM d then ρ else dm m ρ
def RS.evalS {D:Addr->Prop} {G0 G:Gp} {A:Nat->Option Addr} {τ:St3} {ρ:Rho} (h:RS D G0 A τ ρ G) {t:TE3} (a:PuE t) (m:List Bool) (hm:Tru (a.fv.all (mkb m))) {d:PyData} (hf:a.f ρ=some d):∃ A1,RS D G0 A1 τ (dmS m d ρ) G/\∀ q:Q3,(∀ x G',Ex G G'->Dq (rs (AD D A1) G') x d->q x G')->t τ G q:=by
 unfold dmS;by_cases hs:qcM d=true
 ·rw [if_pos hs];exact ⟨A,h,λq k=>a.ok (h.viewAll _) h.domD hf λx G1 E1 D1 _=>k x G1 E1 (DP D1 hs)⟩
 ·rw [if_neg hs];exact ⟨Ad m A,h.dem m,λq k=>a.ok (h.viewD hm) (h.dem m).dom hf λx G1 E1 D1 _=>k x G1 E1 D1⟩
def qaB (gf:PyData->Option (List (Nat×PyData))) (bf:Rho->Option Ot):List PyData->Rho->Option Ot
 |[],ρ=>some (.nx ρ)
 |d::r,ρ=>(gf d).bind λbs=>(bf (JI ρ bs)).bind λo=>match o with
  |.nx ρ'=>qaB gf bf r ρ'
  |.ct ρ'=>qaB gf bf r ρ'
  |.bk ρ'=>some (.nx ρ')
  |.rt d b=>some (.rt d b)
def TR {stay:Gp->Prop} {g:TG3} {tb:TS3} {e:Ends3} (pg:PuG g) (pb:PuS tb) {D:Addr->Prop} {G0:Gp} {n:Nat} {o:Ot} {items0:List T} (hs:∀ A τ ρ G,RS D G0 A τ ρ G->stay G) (k:qiK D G0 e o) :
  ∀ (ds:List PyData) (items:List T),(∀ A τ ρ G,RS D G0 A τ ρ G->Dqs (rs (AD D A) G) items ds)->∀ A τ ρ G,RS D G0 A τ ρ G->qaB pg.f (pb.f n) ds ρ=some o->WJ stay g tb e items τ G
 |[],items,hi,A,τ,ρ,G,h,hf=>by
  cases hf;have:=hi _ _ _ _ h;cases this;exact ⟨hs _ _ _ _ h,k _ _ _ h⟩
 |d::ds,items,hi,A,τ,ρ,G,h,hf=>by
  have hh:=hi _ _ _ _ h;cases hh with
  |cons hx hr=>
   rename_i x items;unfold qaB at hf;obtain ⟨bs,e1,hf⟩:=obb hf;obtain ⟨o1,e2,hf⟩:=obb hf;obtain ⟨ts,bd,kg⟩:=pg.ok hx e1;refine ⟨hs _ _ _ _ h,kg _ _ _ ?_⟩;obtain ⟨A',h'⟩:=h.puts bd;refine pb.ok h' e2 ?_;have hi':∀ A τ ρ G,RS D G0 A τ ρ G->Dqs (rs (AD D A) G) items ds:=λA τ ρ G h=>by
    have:=hi _ _ _ _ h;cases this with
    |cons a b=>exact b
   cases o1 with
   |nx ρ'=>exact λA2 τ2 G2 h2=>TR (items0:=items0) pg pb hs k ds items hi' _ _ _ _ h2 hf
   |ct ρ'=>exact λA2 τ2 G2 h2=>TR (items0:=items0) pg pb hs k ds items hi' _ _ _ _ h2 hf
   |bk ρ'=>cases hf;exact k
   |rt d fr=>cases hf;exact k
def qlX (pi:Rho->Option (List PyData)) (nm:Bool) (m:List Bool) (gf:PyData->Option (List (Nat×PyData))) (bf:Nat->Rho->Option Ot) (n:Nat) (ρ:Rho):Option Ot:=(pi ρ).bind λds=>qaB gf (bf n) ds (if nm then ρ else dm m ρ)
def qos {wi:TI3} {g:TG3} {tb:TS3} (pi:PuI wi) (pg:PuG g) (pb:PuS tb) (m:List Bool) (hm:Tru (pi.fv.all (mkb m))):PuS (C6 wi g tb):=⟨qlX pi.f pi.nm m pg.f pb.f,λ{D G0 A τ ρ G n o e} h hf k=>by
 unfold qlX at hf;obtain ⟨ds,e1,hf⟩:=obb hf;refine pi.ok (h.viewD hm) (h.dem m).dom e1 λitems stay G1 E1 D1 hs hnm=>?_;cases hb:pi.nm with
 |true=>
  rw [hb,if_pos rfl] at hf;obtain ⟨ns,rfl⟩:=hnm hb;have:=D1.ints;subst this;exact TR (items0:=[]) pg pb (λ_ _ _ _ _=>hs _ (.inl hb)) k _ _ (λA τ ρ G _=>Dqs.ofInts _) _ _ _ _ (h.up E1) hf
 |false=>
  rw [hb,if_neg Bool.false_ne_true] at hf;have h1:=(h.dem m).up E1;have b1:Ex G0 (rs (λb=>∃ i,Ad m A i=some b) G1):=λb o e=>by
   rw [zI]
   ·exact h1.ex _ _ e
   ·rintro ⟨i,z⟩;rw [h1.fr i _ z] at e;cases e
  have h2:RS D (rs (λb=>∃ i,Ad m A i=some b) G1) (Ad m A) τ (dm m ρ) G1:=⟨JK,h.dm.up b1,λi p z=>by unfold rs;exact za ⟨i,z⟩,h1.da,h1.inj,h1.len,h1.sh,h1.ow,h1.dc⟩
  have X:∀ A2 τ2 ρ2 G2,RS D (rs (λb=>∃ i,Ad m A i=some b) G1) A2 τ2 ρ2 G2->Ex (rs (AD D (Ad m A)) G1) (rs (AD D A2) G2):=λA2 τ2 ρ2 G2 r b o e=>by
   obtain ⟨n1,e⟩:=qy e;have eb:rs (λb=>∃ i,Ad m A i=some b) G1 b=some o:=by rw [zI (λz=>n1 (.inr z))];exact e
   rw [zI]
   ·exact r.ex _ _ eb
   ·rintro (z|⟨i,z⟩)
    ·exact n1 (.inl z)
    ·rw [r.fr i _ z] at eb;cases eb
  exact TR (items0:=[]) pg pb (λA2 τ2 ρ2 G2 r=>hs _ (.inr ((X _ _ _ _ r).trans JK))) (k.base b1 h.dm) _ _ (λA2 τ2 ρ2 G2 r=>D1.up (X _ _ _ _ r)) _ _ _ _ h2 hf⟩
def EI (fr:Bool):Option Ot->Option PyData
 |some (.rt d b)=>if fr=true/\b=false then (match d with|.none=>some .none|_=>none) else some d
 |some (.nx _)=>if fr then none else some .none
 |_=>none
def st (ds:List PyData) (N:Nat):Rho:=ds.map Sl.sh++List.replicate (N-ds.length) .un
def run (f:Nat->Rho->Option Ot) (k N n:Nat) (fr:Bool) (ds:List PyData):Option PyData:=if ds.length=k then EI fr (f n (st ds N)) else none
def zr {t:TS3} (b:PuS t) (N:List Str) (k n:Nat) (fr:Bool):∀ ts G q,PSp (run b.f k N.length n fr) fr ts G q->ts.length=k/\t { nx:=λ_ G'=>q .non G',rt:=q } (qx N ts) G:=by
 rintro ts G q ⟨D,ds,d,hs,hd,hf,h⟩;unfold run at hf;split at hf
 ·rename_i hk;refine ⟨by rw [hs.length];exact hk,?_⟩;have r:RS D G (λ_=>none) (qx N ts) (st ds N.length) G:=by
   refine ⟨Ex.refl,hd,(λi p e=>by cases e),(λi p e=>by cases e),(λi j p e=>by cases e),(by simp [st,qx,hs.length]),λi d' e=>?_,λi es e=>?_,λi es e=>?_⟩
   ·unfold st at e;unfold qx;by_cases hi:i<ds.length
    ·rw [List.getElem?_append_left (by simpa using hi),getElem?_map] at e;obtain ⟨d2,e3,e4⟩:=Option.map_eq_some_iff.mp e;cases e4;obtain ⟨x,e5,hx⟩:=hs.get e3;refine ⟨x,?_,hx.up (zX λb z=>?_)⟩
     ·rw [List.getElem?_append_left (by simp [hs.length];exact hi),getElem?_map,e5];rfl
     ·rcases z with z|⟨i,z⟩
      ·exact z
      ·cases z
    ·rw [List.getElem?_append_right (by simpa using hi),List.getElem?_replicate] at e;split at e<;>cases e
   ·unfold st at e;by_cases hi:i<ds.length
    ·rw [List.getElem?_append_left (by simpa using hi),getElem?_map] at e;obtain ⟨d2,e3,e4⟩:=Option.map_eq_some_iff.mp e;cases e4
    ·rw [List.getElem?_append_right (by simpa using hi),List.getElem?_replicate] at e;split at e<;>cases e
   ·unfold st at e;by_cases hi:i<ds.length
    ·rw [List.getElem?_append_left (by simpa using hi),getElem?_map] at e;obtain ⟨d2,e3,e4⟩:=Option.map_eq_some_iff.mp e;cases e4
    ·rw [List.getElem?_append_right (by simpa using hi),List.getElem?_replicate] at e;split at e<;>cases e
  unfold EI at hf;split at hf
  ·rename_i d' b' e;split at hf
   ·split at hf
    ·cases hf;exact b.ok r e λx G' a c z=>h x G' a c λ_=>.inl rfl
    ·cases hf
   ·rename_i hb;cases hf;exact b.ok r e λx G' a c z=>h x G' a c λw=>z (by
     cases b' with
     |true=>rfl
     |false=>exact absurd ⟨w,rfl⟩ hb)
  ·rename_i ρ' e;split at hf
   ·cases hf
   ·rename_i hb;cases hf;exact b.ok r e λA τ G' r'=>h .non G' r'.ex .non λw=>absurd w hb
  ·cases hf
 ·cases hf
mutual
def tD:T->Option PyData
 |.non=>some .none|.bl b=>some (.bool b)|.int i=>some (.int i)|.str x=>some (.str x)|.tup xs=>(tDs xs).map .tuple|.ref _=>none
def tDs:List T->Option (List PyData)
 |[]=>some []
 |x::r=>(tD x).bind λd=>(tDs r).map (d::·)
end
mutual
def qhG {G:Gp}:∀ (t:T) {d:PyData},tD t=some d->Dq G t d
 |.non,_,h=>by cases h;exact .non
 |.bl b,_,h=>by cases h;exact .bl b
 |.int b,_,h=>by cases h;exact .int b
 |.str b,_,h=>by cases h;exact .str b
 |.tup xs,_,h=>by
  unfold tD at h;obtain ⟨ds,e,rfl⟩:=Option.map_eq_some_iff.mp h;exact .tup (qdh xs e)
 |.ref _,_,h=>by cases h
def qdh {G:Gp}:∀ (t:List T) {d:List PyData},tDs t=some d->Dqs G t d
 |[],_,h=>by cases h;exact .nil
 |x::r,_,h=>by
  unfold tDs at h;obtain ⟨d,e,h⟩:=obb h;obtain ⟨ds,e2,rfl⟩:=Option.map_eq_some_iff.mp h;exact .cons (qhG x e) (qdh r e2)
end
def asS:PyData->Option Str
 |.str s=>some s
 |_=>none
def qdm {d:PyData} {b:Str} (h:asS d=some b):d=.str b:=by cases d<;>simp [asS] at h;subst h;rfl
def qkD (tab:List (Str×T)) {te:TE3} (a:PuE te):PuE (qb7 tab te):=⟨λρ=>((a.f ρ).bind asS).bind λs=>(zS tab s).bind tD,a.fv,false,λhv hd hf k=>by
 obtain ⟨s,e1,hf⟩:=obb hf;obtain ⟨d,e1,e2⟩:=obb e1;have:=qdm e2;subst this;obtain ⟨t,e3,hf⟩:=obb hf;refine a.ok hv hd e1 λx' G1 E1 D1 _=>?_;cases D1;simp only [e3];exact k _ _ E1 (qhG t hf) (λz=>by cases z)⟩
def qoQ (tab:List (Str×T)) {te:TE3} (a:PuE te):PuE (qlY tab te):=⟨λρ=>((a.f ρ).bind asS).map λs=>.bool (zS tab s).isSome,a.fv,false,λhv hd hf k=>by
 obtain ⟨s,e1,rfl⟩:=Option.map_eq_some_iff.mp hf;obtain ⟨d,e1,e2⟩:=obb e1;have:=qdm e2;subst this;refine a.ok hv hd e1 λx' G1 E1 D1 _=>?_;cases D1;exact k _ _ E1 (.bl _) (λz=>by cases z)⟩
def qoA {i:Nat}:(bV i).f=λρ=>vw ρ i:=id rfl
def qdL {i:Int}:(ze i).f=λ_=>some (.int i):=id rfl
def qhm {i:Bool}:(bBl i).f=λ_=>some (.bool i):=id rfl
def qdF {i:Str}:(V7 i).f=λ_=>some (.str i):=id rfl
def qom {r:R3} {ta tb:TE3} {R:OpD r} {a:PuE ta} {b:PuE tb}:(bO R a b).f=λρ=>(a.f ρ).bind λx=>(b.f ρ).bind λy=>R.f x y:=id rfl
def qdo:qG.f=λ_=>some []:=id rfl
def N8 {ta:TE3} {tr:TA3} {a:PuE ta} {r:PuA tr}:(qg a r).f=λρ=>(a.f ρ).bind λx=>(r.f ρ).bind λxs=>some (x::xs):=id rfl
def qc9 {t:TA3} {a:PuA t} {hn:Tru (Nat.ble a.n 1000)}:(CG a hn).f=λρ=>(a.f ρ).map .tuple:=id rfl
def qds {t:TA3} {a:PuA t} {hn:Tru (Nat.ble a.n 1000)}:(qgK a hn).f=λρ=>(a.f ρ).map .list:=id rfl
def qax {r:List T->Gp->Q3->Prop} {t:TA3} {R:FnD r} {a:PuA t}:(qA R a).f=λρ=>(a.f ρ).bind R.f:=id rfl
def qjL {t:TE3} {a:PuE t}:(bTb a).f=λρ=>(a.f ρ).bind asB:=id rfl
def qj0 {t u:TT3} {a:PuC t} {b:PuC u}:(bOr a b).f=λρ=>(a.f ρ).bind λk=>if k then some true else b.f ρ:=id rfl
def qdP {t:TT3} {a:PuC t}:(MA a).f=λρ=>(a.f ρ).map (! ·):=id rfl
def qhE:bTt.f=λ_=>some true:=id rfl
def qa6 {ta tb:TE3} {a:PuE ta} {b:PuE tb}:(U6 a b).f=λρ=>((a.f ρ).bind asB).bind λk=>if k then b.f ρ else some (.bool false):=id rfl
def qeP {ta tb:TE3} {a:PuE ta} {b:PuE tb}:(qoZ a b).f=λρ=>((a.f ρ).bind asB).bind λk=>if k then some (.bool true) else b.f ρ:=id rfl
def qaN {ta:TE3} {a:PuE ta}:(qjT a).f=λρ=>((a.f ρ).bind asB).map λk=>.bool (!k):=id rfl
def qhZ {t:TT3} {ta tb:TE3} {c:PuC t} {a:PuE ta} {b:PuE tb}:(bIf c a b).f=λρ=>(c.f ρ).bind λk=>if k then a.f ρ else b.f ρ:=id rfl
def qdk {ta:TE3} {a:PuE ta}:(qoX a).f=λρ=>((a.f ρ).bind asI).map λi=>.int (-i):=id rfl
def qh0 {r r':R3} {ta tb tc:TE3} {R:OpD r} {R':OpD r'} {a:PuE ta} {b:PuE tb} {c:PuE tc}:(bCh R R' a b c).f=λρ=>(a.f ρ).bind λx=>(b.f ρ).bind λy=>((R.f x y).bind asB).bind λk=>if k then (c.f ρ).bind λz=>R'.f y z else some (.bool false):=id rfl
def qeO {ta:TE3} {g:String->Bool} {a:PuE ta}:(qfy g a).f=λρ=>(a.f ρ).bind λd=>(tyD d).map λt=>.bool (g t):=id rfl
def qhO:bNp.f=λ_=>some none:=id rfl
def qk9 {t:TE3} {a:PuE t}:(bSp a).f=λρ=>((a.f ρ).bind asI).map some:=id rfl
def qhP {te:TE3} {tl th:TO3} {a:PuE te} {l:PuO tl} {h:PuO th}:(bSl a l h).f=λρ=>(a.f ρ).bind λd=>(l.f ρ).bind λlo=>(h.f ρ).bind λhi=>slD d lo hi:=id rfl
def qaj {tab:List (Str×T)} {te:TE3} {a:PuE te}:(qkD tab a).f=λρ=>((a.f ρ).bind asS).bind λs=>(zS tab s).bind tD:=id rfl
def qeF {tab:List (Str×T)} {te:TE3} {a:PuE te}:(qoQ tab a).f=λρ=>((a.f ρ).bind asS).map λs=>.bool (zS tab s).isSome:=id rfl
def qkY {wi:TI3} {g:TG3} {tif:TT3} {te:TE3} {pi:PuI wi} {pg:PuG g} {pc:PuC tif} {pe:PuE te} {m:List (Option Nat)} {hm:Tru (pg.tg.all λi=>m[i]?==some none)}:(bLc pi pg pc pe m hm).f=lcF pi.f (lcH pg.f pc.f pe.f) m:=id rfl
def qc1 {wi wi2:TI3} {g g2:TG3} {tif tif2:TT3} {te:TE3} {pi:PuI wi} {pg:PuG g} {pc:PuC tif} {pi2:PuI wi2} {pg2:PuG g2} {pc2:PuC tif2} {pe:PuE te} {m:List (Option Nat)} {hm:Tru (pg.tg.all λi=>m[i]?==some none)} {hm2:Tru (pg2.tg.all λi=>m[i]?==some none)} {hdj:Tru (pg2.tg.all λi=>!pg.tg.contains i)}:(qjC pi pg pc pi2 pg2 pc2 pe m hm hm2 hdj).f=qjH pi.f (qi4 pg.f pc.f pi2.f (lcH pg2.f pc2.f pe.f)) m:=id rfl
def qes:qbM.f=qlB:=id rfl
def qdi:qnT.f=qgQ:=id rfl
def qdC:qkV.f=qlJ:=id rfl
def qek:qnz.f=qlH:=id rfl
def qdB:qhg.f=qkg:=id rfl
def NY {F:List PyData->Option PyData} {fr:Bool}:(zk F fr).f=F:=id rfl
def qha {g:Int->Int->Int} {i j:Int}:(opI g).f (.int i) (.int j)=some (.int (g i j)):=id rfl
def qiu {g:Int->Int->Bool} {i j:Int}:(opB g).f (.int i) (.int j)=some (.bool (g i j)):=id rfl
def qho {C:Int->Int->Prop} {g:Int->Int->Int}:(opC C g).f=cI C g:=id rfl
def qdr {n:Bool}:(YO n).f=eqD n:=id rfl
def qaC {n:Bool}:(qiI n).f=qlA n:=id rfl
def qdG:ZF.f=ixD:=id rfl
def N5:UC.f=qlG:=id rfl
def qde {t:TE3} {a:PuE t}:(CZ a).f=λρ=>(a.f ρ).bind MD:=id rfl
def qc8 {t:TA3} {a:PuA t}:(qgN a).f=λρ=>(a.f ρ).bind qlt:=id rfl
def qaQ {t:TA3} {a:PuA t}:(qf9 a).f=λρ=>(a.f ρ).bind λds=>match ds with|[d]=>(MD d).map λus=>enD 0 us|_=>none:=id rfl
def TM {t:TA3} {a:PuA t}:(qf9 a).nm=false:=id rfl
def MM {t:TA3} {a:PuA t}:(qgN a).nm=true:=id rfl
def qoC {i:Nat}:(gN i).f=λd=>some [(i,d)]:=id rfl
def qeQ:qbY.f []=some []:=id rfl
def qbj {t:TG3} {u:XX} {a:PuG t} {b:PuGs u} {d:PyData} {r:List PyData}:(JZ a b).f (d::r)=(a.f d).bind λx=>(b.f r).map λy=>x++y:=id rfl
def qez {u:XX} {n:Nat} {b:PuGs u} {ds:List PyData}:(qb2 n b).f (.tuple ds)=if ds.length=n then b.f ds else none:=id rfl
def qbp:Z3.f=λ_ ρ=>some (.nx ρ):=id rfl
def qdp {t u:TS3} {a:PuS t} {b:PuS u}:(YQ a b).f=qlP a.f b.f:=id rfl
def qil {c:TT3} {t u:TS3} {pc:PuC c} {a:PuS t} {b:PuS u}:(sIf pc a b).f=λn ρ=>(pc.f ρ).bind λk=>if k then a.f n ρ else b.f n ρ:=id rfl
def qer {t:TE3} {a:PuE t}:(VD a).f=λ_ ρ=>(a.f ρ).map λd=>.rt d a.nw:=id rfl
def ME {i:Nat}:(N6 i).f=λ_ ρ=>qfw ρ i:=id rfl
def qdO {t:TE3} {a:PuE t} {i:Nat} {m:List Bool} {hm:Tru (a.fv.all (mkb m))}:(qbu a i m hm).f=λ_ ρ=>(a.f ρ).map λd=>.nx (KW m a.nw i d ρ):=id rfl
def qap {t:TE3} {g:TG3} {a:PuE t} {pg:PuG g} {m:List Bool} {hm:Tru (a.fv.all (mkb m))}:(qhW a pg m hm).f=λ_ ρ=>(a.f ρ).bind λd=>(pg.f d).map λbs=>.nx (JI (dm m ρ) bs):=id rfl
def qeA {wi:TI3} {g:TG3} {tb:TS3} {pi:PuI wi} {pg:PuG g} {pb:PuS tb} {m:List Bool} {hm:Tru (pi.fv.all (mkb m))}:(qos pi pg pb m hm).f=qlX pi.f pi.nm m pg.f pb.f:=id rfl
def qex {i:Bool}:(bBl i).nw=false:=id rfl
def qiq {r:R3} {ta tb:TE3} {R:OpD r} {a:PuE ta} {b:PuE tb}:(bO R a b).nw=R.nw:=id rfl
def NJ {t:TA3} {a:PuA t} {hn:Tru (Nat.ble a.n 1000)}:(CG a hn).nw=false:=id rfl
def MI {t:TA3} {a:PuA t} {hn:Tru (Nat.ble a.n 1000)}:(qgK a hn).nw=true:=id rfl
def T1 {r:List T->Gp->Q3->Prop} {t:TA3} {R:FnD r} {a:PuA t}:(qA R a).nw=R.nw:=id rfl
def KJ {F:List PyData->Option PyData} {fr:Bool}:(zk F fr).nw=fr:=id rfl
def KA {ta tb:TE3} {a:PuE ta} {b:PuE tb}:(U6 a b).nw=false:=id rfl
def qdu {t:TT3} {ta tb:TE3} {c:PuC t} {a:PuE ta} {b:PuE tb}:(bIf c a b).nw=false:=id rfl
def qeq {wi:TI3} {g:TG3} {tif:TT3} {te:TE3} {pi:PuI wi} {pg:PuG g} {pc:PuC tif} {pe:PuE te} {m:List (Option Nat)} {hm:Tru (pg.tg.all λi=>m[i]?==some none)}:(bLc pi pg pc pe m hm).nw=true:=id rfl
def qbk {wi wi2:TI3} {g g2:TG3} {tif tif2:TT3} {te:TE3} {pi:PuI wi} {pg:PuG g} {pc:PuC tif} {pi2:PuI wi2} {pg2:PuG g2} {pc2:PuC tif2} {pe:PuE te} {m:List (Option Nat)} {hm:Tru (pg.tg.all λi=>m[i]?==some none)} {hm2:Tru (pg2.tg.all λi=>m[i]?==some none)} {hdj:Tru (pg2.tg.all λi=>!pg.tg.contains i)}:(qjC pi pg pc pi2 pg2 pc2 pe m hm hm2 hdj).nw=true:=id rfl
def qai:qkV.nw=false:=id rfl
def NC:qhg.nw=false:=id rfl
def qay:qnz.nw=true:=id rfl
def qas:ZF.nw=false:=id rfl
def KG:UC.nw=false:=id rfl
def NS {n:Bool}:(YO n).nw=false:=id rfl
def qoD {s:Sl} {r:Rho}:vw (s::r) 0=s.d:=id rfl
def qoF {s:Sl} {r:Rho} {i:Nat}:vw (s::r) (i+1)=vw r i:=id rfl
def qis {d:PyData}:(Sl.sh d).d=some d:=id rfl
def qhl {ds:List PyData}:(Sl.ow ds).d=some (.list ds):=id rfl
def N9 {r:Rho} {ds:List PyData}:qfw (.ow ds::r) 0=some (.rt (.list ds) true):=id rfl
def qac {r:Rho} {d:PyData}:qfw (.sh d::r) 0=some (.rt d false):=id rfl
def qd2 {s:Sl} {r:Rho} {i:Nat}:qfw (s::r) (i+1)=qfw r i:=id rfl
def qg7 {xs:List PyData} {i:Int}:ixD (.tuple xs) (.int i)=L2.atI xs i:=id rfl
def qjK {xs:List PyData} {i:Int}:ixD (.list xs) (.int i)=L2.atI xs i:=id rfl
def at0 {α:Type} {a:α} {r:List α}:L2.atI (a::r) 0=some a:=by simp [L2.atI,ixN]
def at1 {α:Type} {a b:α} {r:List α}:L2.atI (a::b::r) 1=some b:=by
 have h:ixN (a::b::r).length 1=some 1:=by unfold ixN;rw [if_pos (by omega),if_pos (by simp;omega)];rfl
 unfold L2.atI;rw [h];rfl
def at2 {α:Type} {a b c:α} {r:List α}:L2.atI (a::b::c::r) 2=some c:=by
 have h:ixN (a::b::c::r).length 2=some 2:=by unfold ixN;rw [if_pos (by omega),if_pos (by simp;omega)];rfl
 unfold L2.atI;rw [h];rfl
def at3 {α:Type} {a b c d:α} {r:List α}:L2.atI (a::b::c::d::r) 3=some d:=by
 have h:ixN (a::b::c::d::r).length 3=some 3:=by unfold ixN;rw [if_pos (by omega),if_pos (by simp;omega)];rfl
 unfold L2.atI;rw [h];rfl
def eqS {n:Bool} {a b:Str}:eqD n (.str a) (.str b)=some (.bool (if n then !decide (a=b) else decide (a=b))):=id rfl
def eqI {n:Bool} {a b:Int}:eqD n (.int a) (.int b)=some (.bool (if n then !decide (a=b) else decide (a=b))):=id rfl
def qfS {C:Int->Int->Prop} {g:Int->Int->Int} {i j:Int} (h:C i j):cI C g (.int i) (.int j)=some (.int (g i j)):=by simp only [cI];exact za h
def qlb {i j:Int} (h:-1000000<j/\j<1000000):cI J1 (·*·) (.int i) (.int j)=some (.int (i*j)):=qfS (.inr ⟨by omega,by omega⟩)
def qgw {i j:Int} (h:-1000000<i/\i<1000000):cI J1 (·*·) (.int i) (.int j)=some (.int (i*j)):=qfS (.inl ⟨by omega,by omega⟩)
def qj2 {i j:Int} (h:0<j/\j<1073741824):cI qbw (·/·) (.int i) (.int j)=some (.int (i/j)):=qfS h
def qoS {i j:Int}:qlG (.int i) (.int j)=some (.int (i+j)):=id rfl
def qlT {j:Int} (h:-1000000000<=j/\j<1000000000):qlt [.int j]=some ((KS 0 j.toNat).map PyData.int):=by simp only [qlt];exact za ⟨by omega,by omega⟩
def J8 {pi:Rho->Option (List PyData)} {h:Rho->PyData->Option (Option PyData)} {m:List (Option Nat)} {ρ:Rho} {ds fs:List PyData} (h1:pi ρ=some ds) (h2:lcP (h (RI m ρ)) ds=some fs) (h3:fs.length<=16777216):lcF pi h m ρ=some (.list fs):=by unfold lcF;rw [h1];simp only [Option.bind_some,h2];exact za h3
def qbd {pi:Rho->Option (List PyData)} {h:Rho->PyData->Option (Option (List PyData))} {m:List (Option Nat)} {ρ:Rho} {ds fs:List PyData} (h1:pi ρ=some ds) (h2:qfT (h (RI m ρ)) ds=some fs) (h3:fs.length<=16777216):qjH pi h m ρ=some (.list fs):=by unfold qjH;rw [h1];simp only [Option.bind_some,h2];exact za h3
def qcw {gf:PyData->Option (List (Nat×PyData))} {bf:Rho->Option Ot} {α:Type} {g:α->PyData} (xs:List α) (I:Nat->Rho->Prop) {ρ:Rho} (h0:I 0 ρ)
  (hs:∀ i x ρ,xs[i]?=some x->I i ρ->∃ bs ρ',gf (g x)=some bs/\(bf (JI ρ bs)=some (.nx ρ')\/bf (JI ρ bs)=some (.ct ρ'))/\I (i+1) ρ'):∃ ρ',qaB gf bf (xs.map g) ρ=some (.nx ρ')/\I xs.length ρ':=by
 have key:∀ (r:List α) (i:Nat) (ρ:Rho),xs.drop i=r->i<=xs.length->I i ρ->∃ ρ',qaB gf bf (r.map g) ρ=some (.nx ρ')/\I xs.length ρ':=by
  intro r;induction r with
  |nil=>
   intro i ρ e hi h;have:i=xs.length:=by
    have:=congrArg List.length e;simp at this;omega
   subst this;exact ⟨ρ,rfl,h⟩
  |cons x r ih=>
   intro i ρ e hi h;have hl:i<xs.length:=by
    have:=congrArg List.length e;simp at this;omega
   have e':=List.drop_eq_getElem_cons hl;rw [e] at e';injection e' with e1 e2;obtain ⟨bs,ρ',h1,h2,h3⟩:=hs i x ρ (by rw [getElem?_eq_getElem hl,e1]) h;obtain ⟨ρ2,h4,h5⟩:=ih (i+1) ρ' e2.symm hl h3;refine ⟨ρ2,?_,h5⟩;simp only [map_cons,qaB,h1,Option.bind_some];rcases h2 with h2|h2<;>(rw [h2];exact h4)
 exact key xs 0 ρ (by simp) (Nat.zero_le _) h0
def sqk (b:Nat->Rho->Option Ot) (n:Nat) (o:Ot):Option Ot:=match o with|.nx ρ'=>b n ρ'|o=>some o
def qev {a b:Nat->Rho->Option Ot} {n:Nat} {ρ:Rho}:qlP a b n ρ=(a n ρ).bind (sqk b n):=id rfl
def qeg {b:Nat->Rho->Option Ot} {n:Nat} {ρ:Rho}:sqk b n (.nx ρ)=b n ρ:=id rfl
def qdI {b:Nat->Rho->Option Ot} {n:Nat} {d:PyData} {f:Bool}:sqk b n (.rt d f)=some (.rt d f):=id rfl
def qba {d:PyData}:EI true (some (.rt d true))=some d:=id rfl
def qeR {d:PyData} {b:Bool}:EI false (some (.rt d b))=some d:=by simp [EI]
def qjA {b:Bool}:asB (.bool b)=some b:=id rfl
def qko {b:Int}:asI (.int b)=some b:=id rfl
def qk3 {b:Str}:asS (.str b)=some b:=id rfl
def qeG {xs:List PyData}:qlB [.tuple xs]=some (.int xs.length):=id rfl
def qdy {i:Bool}:qgQ [.bool i]=some (.int (if i then 1 else 0)):=id rfl
def qd9 {xs:List PyData}:qlJ [.list xs]=some (.tuple xs):=id rfl
def qdb {xs:List PyData}:qlH [.tuple xs]=some (.list xs):=id rfl
def DM {xs:List Bool}:qkg [.list (xs.map PyData.bool)]=some (.bool (xs.all id)):=by simp only [qkg,qbC,Option.map_some]
def qc3 {xs:List PyData}:MD (.tuple xs)=some xs:=id rfl
def qd0 {xs:List PyData}:MD (.list xs)=some xs:=id rfl
def qjd {i:Int}:tyD (.int i)=some "int" := id rfl
def qg3 {i:Str}:tyD (.str i)=some "str" := id rfl
def qla {i:List PyData}:tyD (.tuple i)=some "tuple" := id rfl
def qd4 {n a b:Bool}:qlA n (.bool a) (.bool b)=some (.bool (if n then a != b else a==b)):=id rfl
def qjx {m:List Bool} {nw:Bool} {i:Nat} {v:Int} {ρ:Rho}:KW m nw i (.int v) ρ=ρ.set i (.sh (.int v)):=id rfl
def qhd {m:List Bool} {nw:Bool} {i:Nat} {v:Str} {ρ:Rho}:KW m nw i (.str v) ρ=ρ.set i (.sh (.str v)):=id rfl
def qfg {m:List Bool} {nw:Bool} {i:Nat} {v:List PyData} {ρ:Rho}:KW m nw i (.tuple v) ρ=(dm m ρ).set i (.sh (.tuple v)):=by cases nw<;>rfl
def qc2 {m:List Bool} {i:Nat} {v:List PyData} {ρ:Rho}:KW m true i (.list v) ρ=(dm m ρ).set i (.ow v):=id rfl
def qem {m:List Bool} {i:Nat} {v:List PyData} {ρ:Rho}:KW m false i (.list v) ρ=(dm m ρ).set i (.sh (.list v)):=id rfl
def qoP {ρ:Rho}:dm [] ρ=ρ:=id rfl
def qon {m:List Bool} {s:Sl} {ρ:Rho}:dm (true::m) (s::ρ)=s.dem::dm m ρ:=id rfl
def qor {m:List Bool} {s:Sl} {ρ:Rho}:dm (false::m) (s::ρ)=s::dm m ρ:=id rfl
def qii {ds:List PyData}:(Sl.ow ds).dem=.sh (.list ds):=id rfl
def qjw {d:PyData}:(Sl.sh d).dem=.sh d:=id rfl
def qlu {ρ:Rho}:RI [] ρ=[]:=id rfl
def qhS {m:List (Option Nat)} {ρ:Rho}:RI (none::m) ρ=.un::RI m ρ:=id rfl
def cp (o:Option PyData):Sl:=match o with|some d=>.sh d|none=>.un
def qj6 {m:List (Option Nat)} {j:Nat} {ρ:Rho}:RI (some j::m) ρ=cp (vw ρ j)::RI m ρ:=id rfl
def qoG {d:PyData}:cp (some d)=.sh d:=id rfl
def qee {pi:Rho->Option (List PyData)} {m:List Bool} {gf:PyData->Option (List (Nat×PyData))} {bf:Nat->Rho->Option Ot} {n:Nat} {ρ:Rho}:qlX pi false m gf bf n ρ=(pi ρ).bind λds=>qaB gf (bf n) ds (dm m ρ):=id rfl
def qeH {ρ:Rho}:JI ρ []=ρ:=id rfl
def qd1 {ρ:Rho} {i:Nat} {d:PyData} {r:List (Nat×PyData)}:JI ρ ((i,d)::r)=JI (ρ.set i (.sh d)) r:=id rfl
def U1 {gf:PyData->Option (List (Nat×PyData))} {cf:Rho->Option Bool} {ef:Rho->Option PyData} {ρ:Rho} {d:PyData}:lcH gf cf ef ρ d=(gf d).bind λbs=>(cf (JI ρ bs)).bind λk=>if k then (ef (JI ρ bs)).map some else some none:=id rfl
def qd6 {gf:PyData->Option (List (Nat×PyData))} {cf:Rho->Option Bool} {it:Rho->Option (List PyData)} {h:Rho->PyData->Option (Option PyData)} {ρ:Rho} {d:PyData}:qi4 gf cf it h ρ d=(gf d).bind λbs=>(cf (JI ρ bs)).bind λk=>if k then ((it (JI ρ bs)).bind λds=>lcP (h (JI ρ bs)) ds).map some else some none:=id rfl
def Nx (o:Option Ot) (P:Rho->Prop):Prop:=match o with|some (.nx ρ)=>P ρ|some (.ct ρ)=>P ρ|_=>False
def qlp {ρ:Rho} {P:Rho->Prop}:Nx (some (.nx ρ)) P=P ρ:=id rfl
def qmk {o:Option Ot} {P:Rho->Prop} (h:Nx o P):∃ ρ,(o=some (.nx ρ)\/o=some (.ct ρ))/\P ρ:=by
 unfold Nx at h;split at h
 ·exact ⟨_,.inl rfl,h⟩
 ·exact ⟨_,.inr rfl,h⟩
 ·exact h.elim
section
variable {gf:PyData->Option (List (Nat×PyData))} {bf:Rho->Option Ot} {α:Type} {g:α->PyData} {ρ:Rho} {Q:Option Ot->Prop} {F:Ot->Option Ot}
def qbH (xs:List α) (I:Nat->Rho->Prop) (h0:I 0 ρ) (hs:∀ i x ρ,xs[i]?=some x->I i ρ->Nx ((gf (g x)).bind λbs=>bf (JI ρ bs)) (I (i+1))) (k:∀ ρ',I xs.length ρ'->Q (some (.nx ρ'))):Q (qaB gf bf (xs.map g) ρ):=by
 obtain ⟨ρ',e,h⟩:=qcw (gf:=gf) (bf:=bf) (g:=g) xs I h0 λi x ρ hx hi=>by
  obtain ⟨ρ2,e,h⟩:=qmk (hs i x ρ hx hi);cases e1:gf (g x) with
  |none=>rw [e1] at e;rcases e with e|e<;>cases e
  |some bs=>rw [e1] at e;exact ⟨bs,ρ2,rfl,e,h⟩
 rw [e];exact k ρ' h
def qfa (xs:List α) (I:Nat->Rho->Prop) (h0:I 0 ρ) (hs:∀ i x ρ,xs[i]?=some x->I i ρ->Nx ((gf (g x)).bind λbs=>bf (JI ρ bs)) (I (i+1))) (k:∀ ρ',I xs.length ρ'->Q (F (.nx ρ'))):Q ((qaB gf bf (xs.map g) ρ).bind F):=
 qbH (Q:=λo=>Q (o.bind F)) xs I h0 hs k
end
def XY {α:Type} {us:List α} (h:us.length=1):∃ a0,us=[a0]:=List.length_eq_one_iff.mp h
def qfn {α:Type} {us:List α} (h:us.length=2):∃ a0 a1,us=[a0,a1]:=by
 obtain ⟨a0,r,rfl⟩:=List.exists_cons_of_length_pos (show 0<us.length by omega);obtain ⟨a1,rfl⟩:=XY (show r.length=1 by simpa using h);exact ⟨a0,a1,rfl⟩
def qoK {α:Type} {us:List α} (h:us.length=3):∃ a0 a1 a2,us=[a0,a1,a2]:=by
 obtain ⟨a0,r,rfl⟩:=List.exists_cons_of_length_pos (show 0<us.length by omega);obtain ⟨a1,a2,rfl⟩:=qfn (show r.length=2 by simpa using h);exact ⟨a0,a1,a2,rfl⟩
def qpC {α:Type} {us:List α} (h:us.length=4):∃ a0 a1 a2 a3,us=[a0,a1,a2,a3]:=by
 obtain ⟨a0,r,rfl⟩:=List.exists_cons_of_length_pos (show 0<us.length by omega);obtain ⟨a1,a2,a3,rfl⟩:=qoK (show r.length=3 by simpa using h);exact ⟨a0,a1,a2,a3,rfl⟩
def qbQ (d e:PyData):Option PyData:=match d,e with
 |.tuple xs,.tuple ys=>cif (xs.length+ys.length<=sizeLine) (some (.tuple (xs++ys))) none
 |.list xs,.list ys=>cif (xs.length+ys.length<=sizeLine) (some (.list (xs++ys))) none
 |.int i,.int j=>some (.int (i+j))
 |_,_=>none
def DQ:OpD CA:=⟨qbQ,false,λ{D G x y d e v q} hx hy hd hf k=>by
  unfold qbQ at hf;cases hx with
  | int i => cases hy <;> try (simp at hf;done)
             cases hf;exact k _ _ Ex.refl (.int _) (λz=>by cases z)
  |tup hs=>
    cases hy<;>try (simp at hf;done)
    rename_i hs2;simp only [cif] at hf;split at hf
    · rename_i c;cases hf;exact ⟨by rw [hs.length,hs2.length];exact c,k _ _ Ex.refl (.tup (hs.append hs2)) (λz=>by cases z)⟩
    · cases hf
  |lst g hs=>
    cases hy<;>try (simp at hf;done)
    rename_i g2 hs2;simp only [cif] at hf;split at hf
    · rename_i c;cases hf;simp only [CA,(qy g).2,(qy g2).2];exact ⟨by rw [hs.length,hs2.length];exact c,λp hp=>k _ _ (jD hp) (JN hd hp (hs.append hs2)) (λz=>by cases z)⟩
    · cases hf
  |_=>simp at hf⟩
def slA (d:PyData) (lo hi:Option Int):Option PyData:=match d with
 |.tuple xs=>some (.tuple (XN xs lo hi))
 |.list xs=>some (.list (XN xs lo hi))
 |_=>none
def qlD {te:TE3} {tl th:TO3} (a:PuE te) (l:PuO tl) (h:PuO th):PuE (qcP te tl th):=⟨λρ=>(a.f ρ).bind λd=>(l.f ρ).bind λlo=>(h.f ρ).bind λhi=>slA d lo hi,a.fv++(l.fv++h.fv),false,λhv hd hf k=>by
 obtain ⟨d,e1,hf⟩:=obb hf;obtain ⟨lo,e2,hf⟩:=obb hf;obtain ⟨hi,e3,hf⟩:=obb hf;refine a.ok hv.l hd e1 λx' G1 E1 D1 _=>l.ok (hv.r.l.up E1) (hd.up E1) e2 λG2 E2=>h.ok (hv.r.r.up (E1.trans E2)) (hd.up (E1.trans E2)) e3 λG3 E3=>?_;have E:=(E1.trans E2).trans E3;have D3:=(D1.up (zY E2)).up (zY E3);unfold slA at hf;cases D3 with
 |tup hs=>
  simp only at hf;cases hf;exact k _ _ E (.tup (hs.cut _ _)) (λz=>by cases z)
 |lst g hs=>
  simp only at hf;cases hf;simp only [qnd,qW (qy g).2];intro p hp;exact k _ _ (E.trans (jD hp)) (JN (hd.up E) hp (hs.cut _ _)) (λz=>by cases z)
 |_=>simp at hf⟩
def UP:DQ.f=qbQ:=id rfl
def EL:DQ.nw=false:=id rfl
def CP {te:TE3} {tl th:TO3} {a:PuE te} {l:PuO tl} {h:PuO th}:(qlD a l h).f=λρ=>(a.f ρ).bind λd=>(l.f ρ).bind λlo=>(h.f ρ).bind λhi=>slA d lo hi:=id rfl
def qjQ {xs ys:List PyData} (h:xs.length+ys.length<=16777216):qbQ (.tuple xs) (.tuple ys)=some (.tuple (xs++ys)):=za h
end Pu
namespace Pv
open PySem L2 L3 Pu
def UJ:PuS (Bk.UG):=(VD (bLc (qgN (qg (bV 2) qG)) (gN 0) bTt (CG (qg (bO (opC J1 (·*·)) (bV 0) (bV 1)) (qg (bO (opC J1 (·*·)) (bV 0) (bV 2)) qG)) ⟨rfl⟩) [none,some 0,some 1] ⟨rfl⟩))
def zn:List PyData->Option PyData:=run (UJ).f 3 3 1000000000 true
def qa8:∀ ts G q,PSp (zn) true ts G q->ts.length=3/\Bk.UG { nx:=λ_ G'=>q .non G',rt:=q } (qx ["down","along","many"] ts) G:=zr (UJ) ["down","along","many"] 3 1000000000 true
def qaO {x0 x1 x2:PyData}:zn [x0,x1,x2]=EI true ((UJ).f 1000000000 [.sh x0,.sh x1,.sh x2]):=id rfl
def jd (zn:List PyData->Option PyData):PuS (Bk.Z9 (PSp zn true)):=(YQ (qbu (bO ZF (bV 0) (ze 0)) 1 [true] ⟨rfl⟩) (YQ (sIf (bTb (bO (YO false) (bV 1) (V7 "cells"))) (VD (qA qnz (qg (bO ZF (bV 0) (ze 1)) qG))) Z3) (YQ (sIf (bTb (bO (YO false) (bV 1) (V7 "block"))) (VD (qjC (qgN (qg (bO ZF (bV 0) (ze 1)) qG)) (gN 0) bTt (qgN (qg (bO ZF (bV 2) (ze 2)) qG)) (gN 1) bTt (CG (qg (bV 0) (qg (bV 1) qG)) ⟨rfl⟩) [none,none,some 0] ⟨rfl⟩ ⟨rfl⟩ ⟨rfl⟩)) Z3) (YQ (sIf (bTb (bO (YO false) (bV 1) (V7 "step"))) (VD (qA (zk zn true) (qg (bO ZF (bV 0) (ze 1)) (qg (bO ZF (bV 0) (ze 2)) (qg (bO ZF (bV 0) (ze 3)) qG))))) Z3) (YQ (qhW (qkD zE (bV 1)) (qb2 2 (JZ (gN 2) (JZ (gN 3) qbY))) [false,true] ⟨rfl⟩) (VD (qA (zk zn true) (qg (bV 2) (qg (bV 3) (qg (bO ZF (bV 0) (ze 1)) qG))))))))))
def qH:List PyData->Option PyData:=run (jd zn).f 1 4 1000000000 true
def R0:∀ ts G q,PSp (qH) true ts G q->ts.length=1/\Bk.Z9 (PSp zn true) { nx:=λ_ G'=>q .non G',rt:=q } (qx ["walk","kind","down","along"] ts) G:=zr (jd zn) ["walk","kind","down","along"] 1 1000000000 true
def Q0 {x0:PyData}:qH [x0]=EI true ((jd zn).f 1000000000 [.sh x0,.un,.un,.un]):=id rfl
open Bk (Wk YF qF zQ lnD lnA)
def pD (p:Int×Int):PyData:=.tuple [.int p.1,.int p.2]
def Wk.d:Wk->PyData
 |.line k m=>.tuple [.str (zQ k),.int m]
 |.block h w=>.tuple [.str "block",.int h,.int w]
 |.step d a m=>.tuple [.str "step",.int d,.int a,.int m]
 |.cells ps=>.tuple [.str "cells",.tuple (ps.map pD)]
def qgL (r:List Int):PyData:=.tuple (r.map PyData.int)
def TF (G:Gp):∀ (cs:List (Int×Int)),Dqs G (cs.map Bk.pT) (cs.map pD)
 |[]=>.nil
 |p::cs=>.cons (.tup (.cons (.int _) (.cons (.int _) .nil))) (TF G cs)
def qmq (G:Gp):∀ (w:Wk),Dq G w.t (Wk.d w)
 |.line k m=>.tup (.cons (.str _) (.cons (.int _) .nil))
 |.block h v=>.tup (.cons (.str _) (.cons (.int _) (.cons (.int _) .nil)))
 |.step d a m=>.tup (.cons (.str _) (.cons (.int _) (.cons (.int _) (.cons (.int _) .nil))))
 |.cells ps=>.tup (.cons (.str _) (.cons (.tup (TF G ps)) .nil))
end Pv
namespace Pu
open PySem L2 L3
open Bk (Lf Ext)
section
variable {D:Addr->Prop} {a:Addr} {G G' G0:Gp} {n n':Nat} {fv gv:List Nat} {l:Nat} {τ:St3} {ρ:Rho}
def CV (e:Ext a G G') (h:D a):Ex (rs D G) (rs D G'):=λb o x=>by
 obtain ⟨n,x⟩:=qy x;rw [zI n];exact e b o (by rintro rfl;exact n h) x
def EA {k:Int} (h:Lf G a k):G a≠none:=by
 obtain ⟨o,c,m,e,_⟩:=h;rw [e];simp
def EV {k:Int} (hd:Dom D G) (e:Ext a G G') (lf:Lf G' a k):Dom D G':=λb hb z=>by
 by_cases h:b=a
 ·subst h;exact EA lf z
 ·cases g:G b with
  |none=>exact hd b hb g
  |some o=>rw [e b o h g] at z;cases z
def Nw.backx {x:T} {d:PyData} {k:Int} (h:Nw D G G' x d) (e:Ext a G0 G) (lf:Lf G a k):Nw D G0 G' x d:=by
 rcases h with h|⟨p,xs,ds,h1,h2,c,r⟩
 ·exact .inl h
 refine .inr ⟨p,xs,ds,h1,h2,?_,r⟩;cases z:G0 p with
 |none=>rfl
 |some o=>
  by_cases hp:p=a
  ·subst hp;exact absurd c (EA lf)
  ·rw [e p o hp z] at c;cases c
structure Ln (fv:List Nat) (l:Nat) (D:Addr->Prop) (G:Gp) (τ:St3) (ρ:Rho) (a:Addr) (n:Nat):Prop where
 v:DL fv D G τ ρ
 d:Dom D G
 da:D a
 tl:τ[l]?=some (some (.ref a))
 ul:vw ρ l=none
 lf:Lf G a n
def Ln.up (h:Ln fv l D G τ ρ a n) (e:Ext a G G') (lf:Lf G' a n'):Ln fv l D G' τ ρ a n':=
 ⟨λi hi d hd=>let ⟨t,x,y⟩:=h.v i hi d hd;⟨t,x,y.up (CV e h.da)⟩,EV h.d e lf,h.da,h.tl,h.ul,lf⟩
def Ln.fst (h:Ln (fv++gv) l D G τ ρ a n):Ln fv l D G τ ρ a n:=⟨h.v.l,h.d,h.da,h.tl,h.ul,h.lf⟩
def Ln.snd (h:Ln (fv++gv) l D G τ ρ a n):Ln gv l D G τ ρ a n:=⟨h.v.r,h.d,h.da,h.tl,h.ul,h.lf⟩
end
abbrev QD:=PyData->Nat->Prop
structure PwE (l:Nat) (t:TE3) where
 w:Rho->Nat->QD->Prop
 fv:List Nat
 nw:Bool
 mono:∀ {ρ n} {Q Q':QD},w ρ n Q->(∀ d m,Q d m->Q' d m)->w ρ n Q'
 ok:∀ {D τ ρ G a n} {q:Q3} {Q:QD},Ln fv l D G τ ρ a n->w ρ n Q->(∀ x d G' n',Q d n'->Ext a G G'->Lf G' a n'->Dq (rs D G') x d->(nw=true->Nw D G G' x d)->q x G')->t τ G q
structure PwC (l:Nat) (t:TT3) where
 w:Rho->Nat->(Bool->Nat->Prop)->Prop
 fv:List Nat
 mono:∀ {ρ n} {Q Q':Bool->Nat->Prop},w ρ n Q->(∀ d m,Q d m->Q' d m)->w ρ n Q'
 ok:∀ {D τ ρ G a n} {q:Bool->Gp->Prop} {Q:Bool->Nat->Prop},Ln fv l D G τ ρ a n->w ρ n Q->(∀ k G' n',Q k n'->Ext a G G'->Lf G' a n'->q k G')->t τ G q
structure PwA (l:Nat) (t:TA3) where
 w:Rho->Nat->(List PyData->Nat->Prop)->Prop
 fv:List Nat
 k:Nat
 mono:∀ {ρ n} {Q Q':List PyData->Nat->Prop},w ρ n Q->(∀ d m,Q d m->Q' d m)->w ρ n Q'
 ok:∀ {D τ ρ G a n} {q:List T->Gp->Prop} {Q:List PyData->Nat->Prop},Ln fv l D G τ ρ a n->w ρ n Q->(∀ x d G' n',Q d n'->d.length=k->Ext a G G'->Lf G' a n'->Dqs (rs D G') x d->q x G')->t τ G q
structure PwI (l:Nat) (t:TI3) where
 w:Rho->Nat->(List PyData->Nat->Prop)->Prop
 fv:List Nat
 nm:Bool
 mono:∀ {ρ n} {Q Q':List PyData->Nat->Prop},w ρ n Q->(∀ d m,Q d m->Q' d m)->w ρ n Q'
 ok:∀ {D τ ρ G a n} {r:List T->(Gp->Prop)->Gp->Prop} {Q:List PyData->Nat->Prop},Ln fv l D G τ ρ a n->w ρ n Q ->
  (∀ items stay ds G' n',Q ds n'->Ext a G G'->Lf G' a n'->Dqs (rs D G') items ds->(∀ G'',(nm=true\/Ex (rs D G') G'')->stay G'')->(nm=true->∃ ns:List Int,ds=ns.map PyData.int)->r items stay G')->t τ G r
structure DrD (r:List T->Gp->Q3->Prop) where
 W:List PyData->Nat->QD->Prop
 nw:Bool
 mono:∀ {ds n} {Q Q':QD},W ds n Q->(∀ d m,Q d m->Q' d m)->W ds n Q'
 ok:∀ {D:Addr->Prop} {G:Gp} {a:Addr} {n:Nat} {ts:List T} {ds:List PyData} {q:Q3} {Q:QD},Lf G a n->D a->Dom D G->Dqs (rs D G) ts ds->W ds n Q->(∀ x d G' n',Q d n'->Ext a G G'->Lf G' a n'->Dq (rs D G') x d->(nw=true->Nw D G G' x d)->q x G')->r (.ref a::ts) G q
section
variable {l:Nat}
def eOf {t:TE3} (b:PuE t):PwE l t:=⟨λρ n Q=>∃ d,b.f ρ=some d/\Q d n,b.fv,b.nw,λ⟨d,h1,h2⟩ h=>⟨d,h1,h _ _ h2⟩,λh ⟨d,h1,h2⟩ k=>
 b.ok h.v h.d h1 λx G1 E1 D1 N1=>k x d G1 _ h2 (Bk.DW E1) (h.lf.ex E1) D1 N1⟩
def cOf {t:TT3} (b:PuC t):PwC l t:=⟨λρ n Q=>∃ d,b.f ρ=some d/\Q d n,b.fv,λ⟨d,h1,h2⟩ h=>⟨d,h1,h _ _ h2⟩,λh ⟨d,h1,h2⟩ k=>
 b.ok h.v h.d h1 λG1 E1=>k d G1 _ h2 (Bk.DW E1) (h.lf.ex E1)⟩
def aOf {t:TA3} (b:PuA t):PwA l t:=⟨λρ n Q=>∃ d,b.f ρ=some d/\Q d n,b.fv,b.n,λ⟨d,h1,h2⟩ h=>⟨d,h1,h _ _ h2⟩,λh ⟨d,h1,h2⟩ k=>
 b.ok h.v h.d h1 λx G1 E1 D1=>k x d G1 _ h2 (b.ln h1) (Bk.DW E1) (h.lf.ex E1) D1⟩
def iOf {t:TI3} (b:PuI t):PwI l t:=⟨λρ n Q=>∃ d,b.f ρ=some d/\Q d n,b.fv,b.nm,λ⟨d,h1,h2⟩ h=>⟨d,h1,h _ _ h2⟩,λh ⟨d,h1,h2⟩ k=>
 b.ok h.v h.d h1 λitems stay G1 E1 D1 s nm=>k items stay d G1 _ h2 (Bk.DW E1) (h.lf.ex E1) D1 s nm⟩
def eO {r:R3} {ta tb:TE3} (R:OpD r) (a:PwE l ta) (b:PwE l tb):PwE l (o3 r ta tb):=
 ⟨λρ n Q=>a.w ρ n λx n1=>b.w ρ n1 λy n2=>∃ v,R.f x y=some v/\Q v n2,a.fv++b.fv,R.nw,λh k=>a.mono h λx n1 h=>b.mono h λy n2 ⟨v,h1,h2⟩=>⟨v,h1,k _ _ h2⟩,λh hw k=>
  a.ok h.fst hw λx dx G1 n1 h1 E1 L1 D1 _=>b.ok (h.snd.up E1 L1) h1 λy dy G2 n2 ⟨v,e,hq⟩ E2 L2 D2 _=>R.ok (D1.up (CV E2 h.da)) D2 (EV (EV h.d E1 L1) E2 L2) e λz G3 E3 D3 N3=>k z v G3 n2 hq ((E1.trans E2).trans (Bk.DW E3)) (L2.ex E3) D3 λz=>(N3 z).backx (E1.trans E2) L2⟩
def V9 {ta:TE3} {tr:TA3} (a:PwE l ta) (r:PwA l tr):PwA l (qc ta tr):=
 ⟨λρ n Q=>a.w ρ n λx n1=>r.w ρ n1 λxs n2=>Q (x::xs) n2,a.fv++r.fv,r.k+1,λh k=>a.mono h λx n1 h=>r.mono h λxs n2 h=>k _ _ h,λh hw k=>
  a.ok h.fst hw λx dx G1 n1 h1 E1 L1 D1 _=>r.ok (h.snd.up E1 L1) h1 λy dy G2 n2 hq hl E2 L2 D2=>k _ _ G2 n2 hq (by simp [hl]) (E1.trans E2) L2 (.cons (D1.up (CV E2 h.da)) D2)⟩
def qgP {t:TA3} (b:PwA l t) (hn:Tru (Nat.ble b.k 1000)):PwE l (QE t):=⟨λρ n Q=>b.w ρ n λxs n1=>Q (.tuple xs) n1,b.fv,false,λh k=>b.mono h λxs n1 h=>k _ _ h,λh hw k=>
 b.ok h hw λx dx G1 n1 h1 hl E1 L1 D1=>⟨by rw [D1.length,hl];exact few hn,k _ _ _ _ h1 E1 L1 (.tup D1) (λz=>by cases z)⟩⟩
def qe8 {r:List T->Gp->Q3->Prop} {t:TA3} (R:FnD r) (b:PwA l t):PwE l (cb3 r t):=⟨λρ n Q=>b.w ρ n λxs n1=>∃ v,R.f xs=some v/\Q v n1,b.fv,R.nw,λh k=>b.mono h λxs n1 ⟨v,h1,h2⟩=>⟨v,h1,k _ _ h2⟩,λh hw k=>
 b.ok h hw λx dx G1 n1 ⟨v,e,hq⟩ hl E1 L1 D1=>R.ok D1 (EV h.d E1 L1) e λz G3 E3 D3 N3=>k z v G3 n1 hq (E1.trans (Bk.DW E3)) (L1.ex E3) D3 λz=>(N3 z).backx E1 L1⟩
def eDr {r:List T->Gp->Q3->Prop} {t:TA3} (R:DrD r) (b:PwA l t):PwE l (cb3 r (qc (v3 l) t)):=⟨λρ n Q=>b.w ρ n λxs n1=>R.W xs n1 Q,b.fv,R.nw,λh k=>b.mono h λxs n1 h=>R.mono h k,λ{D τ ρ G a n q Q} h hw k=>by
 simp only [cb3,qc,v3,h.tl];exact b.ok h hw λx dx G1 n1 hW hl E1 L1 D1=>R.ok L1 h.da (EV h.d E1 L1) D1 hW λz d G3 n3 hq E3 L3 D3 N3=>k z d G3 n3 hq (E1.trans E3) L3 D3 λz=>(N3 z).backx E1 L1⟩
def cTb {t:TE3} (b:PwE l t):PwC l (tb3 t):=⟨λρ n Q=>b.w ρ n λd n1=>∃ k,asB d=some k/\Q k n1,b.fv,λh k=>b.mono h λd m ⟨v,h1,h2⟩=>⟨v,h1,k _ _ h2⟩,λh hw k=>b.ok h hw λx d G1 n1 ⟨v,e,hq⟩ E1 L1 D1 _=>by
 have:=DN e;subst this;cases D1;exact k _ _ _ hq E1 L1⟩
def iS {t:TE3} (b:PwE l t):PwI l (Q9 t):=⟨λρ n Q=>b.w ρ n λd n1=>∃ ds,MD d=some ds/\Q ds n1,b.fv,false,λh k=>b.mono h λxs n1 ⟨v,h1,h2⟩=>⟨v,h1,k _ _ h2⟩,λh hw k=>b.ok h hw λx dx G1 n1 ⟨ds,e,hq⟩ E1 L1 D1 _=>by
 unfold MD at e;cases D1 with
 |tup hs=>cases e;exact k _ _ _ _ _ hq E1 L1 hs (λ_ _=>trivial) (λz=>by cases z)
 |lst g hs=>
  cases e;simp only [qW (qy g).2];refine k _ _ _ _ _ hq E1 L1 hs (λG2 h=>?_) (λz=>by cases z);rcases h with h|h
  ·cases h
  ·exact qW (h _ _ g)
 |_=>simp at e⟩
end
def VA.ext {D:Addr->Prop} {a:Addr} {G G':Gp} {τ:St3} {ρ:Rho} (h:VA D G τ ρ) (e:Ext a G G') (da:D a):VA D G' τ ρ:=h.upx (CV e da)
structure RL (l:Nat) (a:Addr) (z0:Option (Option T)×Nat) (D:Addr->Prop) (G0:Gp) (A:Nat->Option Addr) (τ:St3) (ρ:Rho) (G:Gp) (n:Nat):Prop where
 r:RS D G0 A τ ρ G
 al:A l=some a
 tl:τ[l]?=some (some (.ref a))
 ul:ρ[l]?=some Sl.un
 lf:Lf G a n
 tz:τ[0]?=z0.1/\τ.length=z0.2
section
variable {l:Nat} {a:Addr} {z0:Option (Option T)×Nat} {D:Addr->Prop} {G0 G G':Gp} {A:Nat->Option Addr} {τ:St3} {ρ:Rho} {n n':Nat}
def RL.vl (h:RL l a z0 D G0 A τ ρ G n):vw ρ l=none:=by unfold vw;rw [h.ul];rfl
def RL.up (h:RL l a z0 D G0 A τ ρ G n) (e:Ext a G G') (lf:Lf G' a n'):RL l a z0 D G0 A τ ρ G' n':=by
 have X:Ex (rs (AD D A) G) (rs (AD D A) G'):=CV e (.inr ⟨l,h.al⟩);refine ⟨⟨λb o x=>e b o (by rintro rfl;rw [h.r.fr l _ h.al] at x;cases x) (h.r.ex b o x),h.r.dm,h.r.fr,λi p hp z=>?_,h.r.inj,h.r.len,λi d x=>let ⟨t,y,z⟩:=h.r.sh i d x;⟨t,y,z.up X⟩,λi ds x=>?_,λi ds x=>?_⟩,h.al,h.tl,h.ul,lf,h.tz⟩
 ·by_cases c:p=a
  ·subst c;exact EA lf z
  ·cases g:G p with
   |none=>exact h.r.da i p hp g
   |some o=>rw [e p o c g] at z;cases z
 ·obtain ⟨p,xs,y1,y2,y3,y4⟩:=h.r.ow i ds x;refine ⟨p,xs,y1,y2,e p _ ?_ y3,y4.up X⟩;rintro rfl;have:=h.r.inj i l _ y1 h.al;subst this;rw [h.ul] at x;cases x
 ·obtain ⟨p,xs,y1,y2,y3,yk,y4⟩:=h.r.dc i ds x;refine ⟨p,xs,y1,y2,e p _ ?_ y3,yk,y4.up X⟩;rintro rfl;have:=h.r.inj i l _ y1 h.al;subst this;rw [h.ul] at x;cases x
def RL.all (h:RL l a z0 D G0 A τ ρ G n) (fv:List Nat):Ln fv l (λb=>D b\/b=a) G τ ρ a n:=by
 refine ⟨λi _ d hd=>?_,λb hb=>?_,.inr rfl,h.tl,h.vl,h.lf⟩
 ·unfold vw at hd;obtain ⟨s,e,hd⟩:=obb hd;have less:Ex (rs (AD D A) G) (rs (λb=>D b\/b=a) G):=zX λb z=>by
   rcases z with z|z
   ·exact .inl z
   ·subst z;exact .inr ⟨l,h.al⟩
  cases s with
  |un=>cases hd
  |sh d'=>
   cases hd;obtain ⟨t,b,c⟩:=h.r.sh i _ e;exact ⟨t,b,c.up less⟩
  |ow ds=>
   cases hd;obtain ⟨p,xs,b,c,g,f⟩:=h.r.ow i _ e;refine ⟨_,c,.lst ?_ (f.up less)⟩;rw [zI]
   ·exact g
   ·rintro (z|z)
    ·exact h.r.nd b z
    ·subst z;have:=h.r.inj i l _ b h.al;subst this;rw [h.ul] at e;cases e
  |dc kvs=>cases hd
 ·rcases hb with hb|hb
  ·exact h.r.domD b hb
  ·subst hb;exact EA h.lf
def qoU {m:List Bool} (hm:mkb m l=false) (al:A l=some a):Ad m A l=some a:=by unfold Ad;rw [if_neg (by rw [hm];simp)];exact al
def RL.dem (h:RL l a z0 D G0 A τ ρ G n) {m:List Bool} (hm:mkb m l=false):RL l a z0 D G0 (Ad m A) τ (Pu.dm m ρ) G n:=
 ⟨h.r.dem m,qoU hm h.al,h.tl,by rw [LY,h.ul];simp [hm],h.lf,h.tz⟩
def RL.ln (h:RL l a z0 D G0 A τ ρ G n) {m:List Bool} {fv:List Nat} (hm:mkb m l=false) (hf:Tru (fv.all (mkb m))):Ln fv l (AD D (Ad m A)) G τ ρ a n:=
 ⟨h.r.viewD hf,(h.r.dem m).dom,.inr ⟨l,qoU hm h.al⟩,h.tl,h.vl,h.lf⟩
def RL.put (h:RL l a z0 D G0 A τ ρ G n) {i:Nat} (hi:i≠l) (h0:i≠0) {x:T} {d:PyData} (hx:Dq (rs (AD D A) G) x d):RL l a z0 D G0 (Er A i) (τ.set i (some x)) (ρ.set i (.sh d)) G n:=
 ⟨h.r.put i hx,by unfold Er;rw [if_neg (λz=>hi z.symm)];exact h.al,by rw [getElem?_set,if_neg hi];exact h.tl,by rw [getElem?_set,if_neg hi];exact h.ul,h.lf,⟨by rw [getElem?_set,if_neg h0];exact h.tz.1,by rw [List.length_set];exact h.tz.2⟩⟩
def RL.puts:∀ {ts:List (Nat×T)} {bs:List (Nat×PyData)} {A:Nat->Option Addr} {τ:St3} {ρ:Rho},RL l a z0 D G0 A τ ρ G n->Bd (rs (AD D A) G) ts bs->(∀ p∈bs,p.1≠l/\p.1≠0)->∃ A',RL l a z0 D G0 A' (sets τ ts) (JI ρ bs) G n
 |_,_,A,_,_,h,.nil,_=>⟨A,h⟩
 |_,_,A,_,_,h,.cons x b,hn=>by
  unfold sets JI;exact RL.puts (h.put (hn _ List.mem_cons_self).1 (hn _ List.mem_cons_self).2 x) (b.up qfJ) (λp hp=>hn p (List.mem_cons_of_mem _ hp))
def RL.putN (h:RL l a z0 D G0 A τ ρ G n) {i:Nat} (hi:i≠l) (h0:i≠0) {x:T} {d:PyData} {ds:List PyData} (hd:d=.list ds) (E:Ext a G G') (lf:Lf G' a n') (hx:Nw (AD D A) G G' x d):∃ A',RL l a z0 D G0 A' (τ.set i (some x)) (ρ.set i (.ow ds)) G' n':=by
 have h1:=h.up E lf;rcases hx with hx|⟨p,xs,ds',rfl,e',gp,gp',hs⟩
 ·rw [hd] at hx;cases hx
 rw [hd] at e';cases e';have np:∀ {j q},A j=some q->q≠p:=λe=>by rintro rfl;exact h.r.da _ _ e gp
 have X1:Ex (rs (AD D A) G) (rs (AD D (λj=>if j=i then some p else A j)) G'):=λb o e=>by
  obtain ⟨n,e⟩:=qy e;rw [zI]
  ·exact E b o (by rintro rfl;exact n (.inr ⟨l,h.al⟩)) e
  ·rintro (z|⟨j,z⟩)
   ·exact n (.inl z)
   ·simp only at z;split at z
    ·cases z;rw [gp] at e;cases e
    ·exact n (.inr ⟨j,z⟩)
 refine ⟨λj=>if j=i then some p else A j,⟨h1.r.ex,h.r.dm,λj q e=>?_,λj q e=>?_,λj k q x y=>?_,by simp [h.r.len],λj e he=>?_,λj es e=>?_,λj es e=>?_⟩,by rw [if_neg (λz=>hi z.symm)];exact h.al,by rw [getElem?_set,if_neg hi];exact h.tl,by rw [getElem?_set,if_neg hi];exact h.ul,lf,⟨by rw [getElem?_set,if_neg h0];exact h.tz.1,by rw [List.length_set];exact h.tz.2⟩⟩
 ·split at e
  ·cases e;cases z:G0 p with
   |none=>rfl
   |some o=>rw [h.r.ex _ _ z] at gp;cases gp
  ·exact h.r.fr j q e
 ·split at e
  ·cases e;rw [gp'];simp
  ·exact h1.r.da j q e
 ·split at x
  ·cases x;split at y
   ·rename_i h1 h2;rw [h1,h2]
   ·exact absurd rfl (np y)
  ·split at y
   ·cases y;exact absurd rfl (np x)
   ·exact h.r.inj j k q x y
 ·rw [getElem?_set] at he ⊢;split at he
  ·split at he<;>cases he
  ·rename_i hj;rw [if_neg hj];obtain ⟨t,b,c⟩:=h.r.sh j _ he;exact ⟨t,b,c.up X1⟩
 ·rw [getElem?_set] at e ⊢;split at e
  ·rename_i hj;subst hj;split at e
   ·rename_i hl;cases e;refine ⟨p,xs,by simp,by rw [if_pos rfl,if_pos (by rw [← h.r.len];exact hl)],gp',hs.up (zX λb z=>?_)⟩;rcases z with z|⟨j,z⟩
    ·exact .inl (.inl z)
    ·simp only at z;split at z
     ·cases z;exact .inr rfl
     ·exact .inl (.inr ⟨j,z⟩)
   ·cases e
  ·rename_i hj;rw [if_neg hj];obtain ⟨q,ys,b,c,g,f⟩:=h1.r.ow j _ e;obtain ⟨q',ys',b',c',g',f'⟩:=h.r.ow j _ e;rw [b] at b';cases b';have:G' q=some (.lst ys'):=E q _ (by rintro rfl;have:=h.r.inj j l _ b h.al;subst this;rw [h.ul] at e;cases e) g';exact ⟨q,ys',by rw [if_neg (λz=>hj z.symm)];exact b,c,this,f'.up X1⟩
 ·rw [getElem?_set] at e ⊢;split at e
  ·split at e<;>cases e
  ·rename_i hj;rw [if_neg hj];obtain ⟨q,ys,b,c,g,k,f⟩:=h.r.dc j _ e;have:G' q=some (.dct ys):=E q _ (by rintro rfl;have:=h.r.inj j l _ b h.al;subst this;rw [h.ul] at e;cases e) g;exact ⟨q,ys,by rw [if_neg (λz=>hj z.symm)];exact b,c,this,k,f.up X1⟩
def RL.wr (h:RL l a z0 D G0 A τ ρ G n) {i:Nat} {p:Addr} {xs:List T} {ds ds0:List PyData} (ho:ρ[i]?=some (Sl.ow ds0)) (hi:A i=some p) (ht:τ[i]?=some (some (.ref p))) (hs:Dqs (rs (AD D A) G) xs ds):RL l a z0 D G0 A τ (ρ.set i (.ow ds)) (gu G p (.lst xs)) n:=by
 have il:i≠l:=by rintro rfl;rw [h.ul] at ho;cases ho
 have pa:p≠a:=by rintro rfl;exact il (h.r.inj i l _ hi h.al)
 exact ⟨h.r.wr hi ht hs,h.al,h.tl,by rw [getElem?_set,if_neg il];exact h.ul,h.lf.new pa,h.tz⟩
end
abbrev QO:=Ot->Nat->Prop
def qan (l:Nat) (a:Addr) (z0:Option (Option T)×Nat) (D:Addr->Prop) (G0:Gp) (e:Ends3):Ot->Nat->Prop
 |.nx ρ,n=>∀ A τ G,RL l a z0 D G0 A τ ρ G n->e.nx τ G
 |.bk ρ,n=>∀ A τ G,RL l a z0 D G0 A τ ρ G n->e.bk τ G
 |.ct ρ,n=>∀ A τ G,RL l a z0 D G0 A τ ρ G n->e.ct τ G
 |.rt d fr,n=>∀ x G,Ex G0 G->Lf G a n->Dq (rs (λb=>D b\/b=a) G) x d->(fr=true->Nw (λb=>D b\/b=a) G0 G x d)->e.rt x G
structure PwS (l:Nat) (t:TS3) where
 w:Rho->Nat->QO->Prop
 mono:∀ {ρ n} {Q Q':QO},w ρ n Q->(∀ o m,Q o m->Q' o m)->w ρ n Q'
 ok:∀ {a z0 D G0 A τ ρ G n} {e:Ends3} {Q:QO},RL l a z0 D G0 A τ ρ G n->w ρ n Q->(∀ o m,Q o m->qan l a z0 D G0 e o m)->t e τ G
section
variable {l:Nat}
def qbU:PwS l qS:=⟨λρ n Q=>Q (.nx ρ) n,λh k=>k _ _ h,λh hw k=>k _ _ hw _ _ _ h⟩
def sqw (b:Rho->Nat->QO->Prop) (Q:QO):QO:=λo n=>match o with|.nx ρ'=>b ρ' n Q|o=>Q o n
def qbx {t u:TS3} (x:PwS l t) (y:PwS l u):PwS l (zd t u):=⟨λρ n Q=>x.w ρ n (sqw y.w Q),λh k=>x.mono h λo m h=>by
  cases o with
  |nx ρ=>exact y.mono h k
  |bk ρ=>exact k _ _ h
  |ct ρ=>exact k _ _ h
  |rt d f=>exact k _ _ h,λh hw k=>x.ok h hw λo m h=>by
  cases o with
  |nx ρ=>exact λA τ G r=>y.ok r h k
  |bk ρ=>exact k _ _ h
  |ct ρ=>exact k _ _ h
  |rt d f=>exact k _ _ h⟩
def wIf {c:TT3} {t u:TS3} (pc:PwC l c) (x:PwS l t) (y:PwS l u):PwS l (jx c t u):=⟨λρ n Q=>pc.w ρ n λk n1=>if k then x.w ρ n1 Q else y.w ρ n1 Q,λh k=>pc.mono h λj m h=>by
  cases j with
  |true=>rw [if_pos rfl] at h ⊢;exact x.mono h k
  |false=>exact y.mono h k,λh hw k=>pc.ok (h.all _) hw λj G1 n1 hj E1 L1=>by
  cases j with
  |true=>rw [if_pos rfl] at hj ⊢;exact x.ok (h.up E1 L1) hj k
  |false=>exact y.ok (h.up E1 L1) hj k⟩
def qgF {a:Addr} {z0:Option (Option T)×Nat} {D:Addr->Prop} {G0 G G':Gp} {A:Nat->Option Addr} {τ:St3} {ρ:Rho} {n:Nat} (h:RL l a z0 D G0 A τ ρ G n) (e:Ext a G G'):Ex G0 G':=λb o x=>e b o (by rintro rfl;rw [h.r.fr l _ h.al] at x;cases x) (h.r.ex b o x)
def qh4 {t:TE3} (x:PwE l t):PwS l (zh t):=⟨λρ n Q=>x.w ρ n λd n1=>Q (.rt d x.nw) n1,λh k=>x.mono h λd m h=>k _ _ h,λh hw k=>x.ok (h.all _) hw λy d G1 n1 hq E1 L1 D1 N1=>k _ _ hq y G1 (qgF h E1) L1 D1 λz=>(N1 z).back h.r.ex⟩
def qfr {t:TE3} (x:PwE l t) (i:Nat) (m:List Bool) (hm:Tru (x.fv.all (mkb m))) (hl:Tru (!mkb m l&&(i != l&&i != 0))):PwS l (jc t (gn3 i)):=⟨λρ n Q=>x.w ρ n λd n1=>Q (.nx (KW m x.nw i d ρ)) n1,λh k=>x.mono h λd m h=>k _ _ h,λ{a z0 D G0 A τ ρ G n e Q} h hw k=>by
 have hl':mkb m l=false/\i≠l/\i≠0:=by simpa using hl.h
 refine x.ok (h.ln hl'.1 hm) hw λy d G1 n1 hq E1 L1 D1 N1=>?_;have k:=k _ _ hq;unfold KW at k;show e.nx (τ.set i (some y)) G1;split at k
 ·rename_i hs;exact k _ _ _ ((h.up E1 L1).put hl'.2.1 hl'.2.2 (DP D1 hs))
 ·split at k
  ·rename_i hn;have N:=N1 hn;rcases id N with h2|⟨p,xs,ds,h1,h2,_⟩
   ·exact absurd h2 (by assumption)
   subst h2;obtain ⟨A',r⟩:=(h.dem hl'.1).putN hl'.2.1 hl'.2.2 rfl E1 L1 N;exact k _ _ _ r
  ·exact k _ _ _ (((h.dem hl'.1).up E1 L1).put hl'.2.1 hl'.2.2 D1)⟩
def qol {t:TA3} (x:PwA l t) (i j:Nat) (m:List Bool) (hm:Tru (x.fv.all (mkb m))) (hl:Tru (!mkb m l&&((i != l&&i != 0)&&(j != l&&j != 0)))):PwS l (NK i j t):=⟨λρ n Q=>x.w ρ n λds n1=>∃ o,qn7 i j m ds ρ=some o/\Q o n1,λh k=>x.mono h λd m ⟨bs,h1,h2⟩=>⟨bs,h1,k _ _ h2⟩,λ{a z0 D G0 A τ ρ G n e Q} h hw k=>by
 have hl':mkb m l=false/\(i≠l/\i≠0)/\j≠l/\j≠0:=by simpa using hl.h
 refine x.ok (h.ln hl'.1 hm) hw λy d G1 n1 ⟨o,e2,hq⟩ hlen E1 L1 D1=>?_;unfold qn7 at e2;split at e2
 ·cases D1 with
  |cons x1 b=>cases b with
   |cons x2 c=>
    cases c;split at e2
    ·rename_i hs;cases e2;rw [Bool.and_eq_true] at hs;exact k _ _ hq _ _ _ (((h.up E1 L1).put hl'.2.1.1 hl'.2.1.2 (DP x1 hs.1)).put hl'.2.2.1 hl'.2.2.2 (DP x2 hs.2))
    ·cases e2;exact k _ _ hq _ _ _ ((((h.dem hl'.1).up E1 L1).put hl'.2.1.1 hl'.2.1.2 x1).put hl'.2.2.1 hl'.2.2.2 (x2.up qfJ))
 ·cases e2⟩
def RL.evalS {a:Addr} {z0:Option (Option T)×Nat} {D:Addr->Prop} {G0 G:Gp} {A:Nat->Option Addr} {τ:St3} {ρ:Rho} {n:Nat} (h:RL l a z0 D G0 A τ ρ G n) {t:TE3} (x:PwE l t) (m:List Bool) (hm:Tru (x.fv.all (mkb m))) (hl:mkb m l=false) {Q:QD} (hw:x.w ρ n Q) (q:Q3) (k:∀ y d G' n' A1,Q d n'->RL l a z0 D G0 A1 τ (dmS m d ρ) G' n'->Ext a G G'->Dq (rs (AD D A1) G') y d->q y G'):t τ G q:=by
 refine x.ok (h.ln hl hm) hw λy d G1 n1 hq E1 L1 D1 _=>?_;by_cases hs:qcM d=true
 ·exact k y d G1 n1 A hq (by unfold dmS;rw [if_pos hs];exact h.up E1 L1) E1 (DP D1 hs)
 ·exact k y d G1 n1 _ hq (by unfold dmS;rw [if_neg hs];exact (h.dem hl).up E1 L1) E1 D1
def qcU (gf:PyData->Option (List (Nat×PyData))) (bw:Rho->Nat->QO->Prop):List PyData->Rho->Nat->QO->Prop
 |[],ρ,n,Q=>Q (.nx ρ) n
 |d::r,ρ,n,Q=>∃ bs,gf d=some bs/\bw (JI ρ bs) n λo n1=>match o with
  |.nx ρ'=>qcU gf bw r ρ' n1 Q
  |.ct ρ'=>qcU gf bw r ρ' n1 Q
  |.bk ρ'=>Q (.nx ρ') n1
  |.rt d b=>Q (.rt d b) n1
def ED {g:TG3} {tb:TS3} (pg:PuG g) (pb:PwS l tb):∀ {ds:List PyData} {ρ:Rho} {n:Nat} {Q Q':QO},qcU pg.f pb.w ds ρ n Q->(∀ o m,Q o m->Q' o m)->qcU pg.f pb.w ds ρ n Q'
 |[],_,_,_,_,h,k=>k _ _ h
 |d::r,_,_,_,_,⟨bs,e,h⟩,k=>⟨bs,e,pb.mono h λo m h=>by
   cases o with
   |nx ρ=>exact ED pg pb h k
   |ct ρ=>exact ED pg pb h k
   |bk ρ=>exact k _ _ h
   |rt d b=>exact k _ _ h⟩
def WX {stay:Gp->Prop} {g:TG3} {tb:TS3} {e:Ends3} (pg:PuG g) (pb:PwS l tb) {a:Addr} {z0:Option (Option T)×Nat} {D:Addr->Prop} {G0:Gp} {Q:QO} (hl:∀ i∈pg.tg,i≠l/\i≠0) (hs:∀ A τ ρ G n,RL l a z0 D G0 A τ ρ G n->stay G) (k:∀ o m,Q o m->qan l a z0 D G0 e o m) :
  ∀ (ds:List PyData) (items:List T),(∀ A τ ρ G n,RL l a z0 D G0 A τ ρ G n->Dqs (rs (AD D A) G) items ds)->∀ A τ ρ G n,RL l a z0 D G0 A τ ρ G n->qcU pg.f pb.w ds ρ n Q->WJ stay g tb e items τ G
 |[],items,hi,A,τ,ρ,G,n,h,hw=>by
  have:=hi _ _ _ _ _ h;cases this;exact ⟨hs _ _ _ _ _ h,k _ _ hw _ _ _ h⟩
 |d::ds,items,hi,A,τ,ρ,G,n,h,⟨bs,e1,hw⟩=>by
  have hh:=hi _ _ _ _ _ h;cases hh with
  |cons hx hr=>
   rename_i x items;obtain ⟨ts,bd,kg⟩:=pg.ok hx e1;refine ⟨hs _ _ _ _ _ h,kg _ _ _ ?_⟩;obtain ⟨A',h'⟩:=h.puts bd λp hp=>hl _ (pg.at' e1 p hp);have hi':∀ A τ ρ G n,RL l a z0 D G0 A τ ρ G n->Dqs (rs (AD D A) G) items ds:=λA τ ρ G n h=>by
    have:=hi _ _ _ _ _ h;cases this with
    |cons a b=>exact b
   refine pb.ok h' hw λo m hq=>?_;cases o with
   |nx ρ'=>exact λA2 τ2 G2 h2=>WX pg pb hl hs k ds items hi' _ _ _ _ _ h2 hq
   |ct ρ'=>exact λA2 τ2 G2 h2=>WX pg pb hl hs k ds items hi' _ _ _ _ _ h2 hq
   |bk ρ'=>exact k _ _ hq
   |rt d fr=>exact k _ _ hq
def RL.base {a:Addr} {z0:Option (Option T)×Nat} {D:Addr->Prop} {G0 Gb G:Gp} {A:Nat->Option Addr} {τ:St3} {ρ:Rho} {n:Nat} (h:RL l a z0 D Gb A τ ρ G n) (e:Ex G0 Gb) (hd:Dom D G0):RL l a z0 D G0 A τ ρ G n:=⟨h.r.base e hd,h.al,h.tl,h.ul,h.lf,h.tz⟩
def qan.base {a:Addr} {z0:Option (Option T)×Nat} {D:Addr->Prop} {G0 Gb:Gp} {e:Ends3} {o:Ot} {n:Nat} (h:qan l a z0 D G0 e o n) (x:Ex G0 Gb) (hd:Dom D G0):qan l a z0 D Gb e o n:=by
 cases o with
 |nx ρ=>exact λA τ G r=>h A τ G (r.base x hd)
 |bk ρ=>exact λA τ G r=>h A τ G (r.base x hd)
 |ct ρ=>exact λA τ G r=>h A τ G (r.base x hd)
 |rt d fr=>exact λy G p q r z=>h y G (x.trans p) q r λw=>(z w).back x
def qmw {wi:TI3} {g:TG3} {tb:TS3} (pi:PwI l wi) (pg:PuG g) (pb:PwS l tb) (m:List Bool) (hm:Tru (pi.fv.all (mkb m))) (hl:Tru (!mkb m l&&pg.tg.all (λi=>i != l&&i != 0))):PwS l (C6 wi g tb):=⟨λρ n Q=>pi.w ρ n λds n1=>qcU pg.f pb.w ds (if pi.nm then ρ else dm m ρ) n1 Q,λh k=>pi.mono h λd m h=>ED pg pb h k,λ{a z0 D G0 A τ ρ G n e Q} h hw k=>by
 have hl':mkb m l=false/\∀ i∈pg.tg,i≠l/\i≠0:=by simpa using hl.h
 refine pi.ok (h.ln hl'.1 hm) hw λitems stay ds G1 n1 hq E1 L1 D1 hs hnm=>?_;cases hb:pi.nm with
 |true=>
  rw [hb,if_pos rfl] at hq;obtain ⟨ns,rfl⟩:=hnm hb;have:=D1.ints;subst this;exact WX pg pb hl'.2 (λ_ _ _ _ _ _=>hs _ (.inl hb)) k _ _ (λA τ ρ G _ _=>Dqs.ofInts _) _ _ _ _ _ (h.up E1 L1) hq
 |false=>
  rw [hb,if_neg Bool.false_ne_true] at hq;have h1:=(h.dem hl'.1).up E1 L1;have b1:Ex G0 (rs (λb=>∃ i,Ad m A i=some b) G1):=λb o e=>by
   rw [zI]
   ·exact h1.r.ex _ _ e
   ·rintro ⟨i,z⟩;rw [h1.r.fr i _ z] at e;cases e
  have h2:RL l a z0 D (rs (λb=>∃ i,Ad m A i=some b) G1) (Ad m A) τ (dm m ρ) G1 n1:=⟨⟨JK,h.r.dm.up b1,λi p z=>by unfold rs;exact za ⟨i,z⟩,h1.r.da,h1.r.inj,h1.r.len,h1.r.sh,h1.r.ow,h1.r.dc⟩,h1.al,h1.tl,h1.ul,h1.lf,h1.tz⟩
  have X:∀ A2 τ2 ρ2 G2,RS D (rs (λb=>∃ i,Ad m A i=some b) G1) A2 τ2 ρ2 G2->Ex (rs (AD D (Ad m A)) G1) (rs (AD D A2) G2):=λA2 τ2 ρ2 G2 r b o e=>by
   obtain ⟨n1,e⟩:=qy e;have eb:rs (λb=>∃ i,Ad m A i=some b) G1 b=some o:=by rw [zI (λz=>n1 (.inr z))];exact e
   rw [zI]
   ·exact r.ex _ _ eb
   ·rintro (z|⟨i,z⟩)
    ·exact n1 (.inl z)
    ·rw [r.fr i _ z] at eb;cases eb
  exact WX pg pb hl'.2 (λA2 τ2 ρ2 G2 n2 r=>hs _ (.inr ((X _ _ _ _ r.r).trans JK))) (λo m hq=>(k o m hq).base b1 h.r.dm) _ _ (λA2 τ2 ρ2 G2 n2 r=>D1.up (X _ _ _ _ r.r)) _ _ _ _ _ h2 hq⟩
end
def DSp (W:List PyData->Nat->QD->Prop) (fr:Bool):Sp3:=λts G q=>∃ (D:Addr->Prop) (a:Addr) (n:Nat) (ts':List T) (ds:List PyData) (Q:QD),ts=.ref a::ts'/\Lf G a n/\D a/\Dom D G/\Dqs (rs D G) ts' ds/\W ds n Q/\∀ x d G' n',Q d n'->Ext a G G'->Lf G' a n'->Dq (rs D G') x d->(fr=true->Nw D G G' x d)->q x G'
structure Wm where
 W:List PyData->Nat->QD->Prop
 mono:∀ {ds n} {Q Q':QD},W ds n Q->(∀ d m,Q d m->Q' d m)->W ds n Q'
def dSp (w:Wm) (fr:Bool):DrD (DSp w.W fr):=⟨w.W,fr,w.mono,λ{D G a n ts ds q Q} lf da hd hs hw k=>⟨D,a,n,ts,ds,Q,rfl,lf,da,hd,hs,hw,k⟩⟩
def qmX (fr:Bool) (Q:QD):QO:=λo n=>match o with
 |.rt d b=>(fr=true->b=true)/\∃ m,n<=m/\Q d m
 |.nx _=>fr=false/\∃ m,n<=m/\Q .none m
 |_=>False
def qoT {t:TS3} (b:PwS 0 t) (k N:Nat) (fr:Bool):Wm:=⟨λds n Q=>ds.length+1=k/\b.w (.un::(ds.map Sl.sh++List.replicate (N-(ds.length+1)) .un)) n (qmX fr Q),λ⟨h1,h2⟩ k=>⟨h1,b.mono h2 λo m h=>by
 cases o with
 |rt d f=>obtain ⟨h1,m,h2,h3⟩:=h;exact ⟨h1,m,h2,k _ _ h3⟩
 |nx ρ=>obtain ⟨h1,m,h2,h3⟩:=h;exact ⟨h1,m,h2,k _ _ h3⟩
 |bk ρ=>exact h
 |ct ρ=>exact h⟩⟩
def qfL {t:TS3} (b:PwS 0 t) (N:List Str) (k:Nat) (fr:Bool):∀ ts G q,DSp (qoT b k N.length fr).W fr ts G q->ts.length=k/\t { nx:=λ_ G'=>q .non G',rt:=q } (qx N ts) G:=by
 rintro ts G q ⟨D,a,n,ts',ds,Q,rfl,lf,da,hd,hs,⟨hk,hw⟩,h⟩;refine ⟨by simp [hs.length];omega,?_⟩;have DD:∀ b,(D b/\b≠a)\/b=a↔D b:=λb=>by
  by_cases e:b=a
  ·subst e;simp [da]
  ·simp [e]
 have rr:∀ H,rs (λb=>(D b/\b≠a)\/b=a) H=rs D H:=λH=>by
  have:(λb=>(D b/\b≠a)\/b=a)=D:=funext λb=>propext (DD b);rw [this]
 have ad:AD (λb=>D b/\b≠a) (λi=>if i=0 then some a else none)=D:=funext λb=>propext ⟨(λz=>by
   rcases z with z|⟨i,z⟩
   ·exact z.1
   ·simp only at z;split at z
    ·cases z;exact da
    ·cases z),(λz=>by
   by_cases e:b=a
   ·subst e;exact .inr ⟨0,rfl⟩
   ·exact .inl ⟨z,e⟩)⟩
 have ga:G a≠none:=EA lf;have r:RL 0 a (some (some (.ref a)),(qx N (.ref a::ts')).length) (λb=>D b/\b≠a) (rs (λb=>b=a) G) (λi=>if i=0 then some a else none) (qx N (.ref a::ts')) (.un::(ds.map Sl.sh++List.replicate (N.length-(ds.length+1)) .un)) G n:=by
  refine ⟨⟨JK,λb hb=>by rw [zI (D:=λb=>b=a) hb.2];exact hd b hb.1,λi p e=>?_,λi p e=>?_,λi j p e e'=>?_,by simp [qx,hs.length],λi d' e=>?_,λi es e=>?_,λi es e=>?_⟩,rfl,by simp [qx],rfl,lf,⟨by simp [qx],rfl⟩⟩
  ·split at e
   ·cases e;unfold rs;exact za rfl
   ·cases e
  ·split at e
   ·cases e;exact ga
   ·cases e
  ·split at e
   ·split at e'
    ·rename_i h1 h2;rw [h1,h2]
    ·cases e'
   ·cases e
  ·rw [ad];cases i with
   |zero=>cases e
   |succ i=>
    rw [getElem?_cons_succ] at e;by_cases hi:i<ds.length
    ·rw [List.getElem?_append_left (by simpa using hi),getElem?_map] at e;obtain ⟨d2,e3,e4⟩:=Option.map_eq_some_iff.mp e;cases e4;obtain ⟨x,e5,hx⟩:=hs.get e3;refine ⟨x,?_,hx⟩;unfold qx;rw [List.getElem?_append_left (by simp [hs.length];exact hi),getElem?_map,getElem?_cons_succ,e5];rfl
    ·rw [List.getElem?_append_right (by simpa using hi),List.getElem?_replicate] at e;split at e<;>cases e
  ·cases i with
   |zero=>cases e
   |succ i=>
    rw [getElem?_cons_succ] at e;by_cases hi:i<ds.length
    ·rw [List.getElem?_append_left (by simpa using hi),getElem?_map] at e;obtain ⟨d2,e3,e4⟩:=Option.map_eq_some_iff.mp e;cases e4
    ·rw [List.getElem?_append_right (by simpa using hi),List.getElem?_replicate] at e;split at e<;>cases e
  ·cases i with
   |zero=>cases e
   |succ i=>
    rw [getElem?_cons_succ] at e;by_cases hi:i<ds.length
    ·rw [List.getElem?_append_left (by simpa using hi),getElem?_map] at e;obtain ⟨d2,e3,e4⟩:=Option.map_eq_some_iff.mp e;cases e4
    ·rw [List.getElem?_append_right (by simpa using hi),List.getElem?_replicate] at e;split at e<;>cases e
 have xe:∀ {G'},Ex (rs (λb=>b=a) G) G'->Ext a G G':=λe b o n x=>e b o (by rw [zI (D:=λb=>b=a) n];exact x);refine b.ok r hw λo m hq=>?_;cases o with
 |rt d f=>
  intro x G' E L Dx0 N;have Dx:=Dx0;rw [rr] at Dx;obtain ⟨hq1,m2,hm,hq2⟩:=hq;refine h x d G' m2 hq2 (xe E) (L.mono (by omega)) Dx λz=>?_;rcases N (hq1 z) with h2|⟨p,xs,ds',h1,h2,c,g,f'⟩
  ·exact .inl h2
  have np:p≠a:=by
   rintro rfl;rw [h1] at Dx0;cases Dx0 with
   |lst g0 _=>exact (qy g0).1 (.inr rfl)
  refine .inr ⟨p,xs,ds',h1,h2,by rw [zI (D:=λb=>b=a) np] at c;exact c,g,f'.up (zX λb z=>?_)⟩;rcases z with z|z
  ·exact .inl ((DD b).mpr z)
  ·exact .inr z
 |nx ρ=>
  obtain ⟨hq1,m2,hm,hq2⟩:=hq;exact λA τ G' r'=>h .non .none G' m2 hq2 (xe r'.r.ex) (r'.lf.mono (by omega)) .non λz=>by rw [hq1] at z;cases z
 |bk ρ=>exact hq.elim
 |ct ρ=>exact hq.elim
end Pu
namespace Pu
open PySem L2 L3
open Bk (Lf Ext Wk)
def okW:QO:=λo _=>match o with|.nx _=>True|.ct _=>True|_=>False
def qow (K:Int):TE3:=o3 jX (c3 (.int 1)) (cb3 qh7 (qc (c3 (.int K)) (qc (cb3 U8 (qc (v3 0) qk)) qk)))
def qjR {i:Nat} {τ:St3} {t:T} {G:Gp} {q:Q3} (h:τ[i]?=some (some t)):v3 i τ G q=q t G:=by unfold v3;rw [h]
def qop (K:Int) (R:TS3):TS3:=zd (C6 (VQ (qc (qow K) qk)) (gn3 1) (zd (jc (cb3 Bk.QX (qc (v3 0) (qc (v3 1) qk))) (gn3 2)) R)) (zh (c3 (.bl true)))
def qcz {R:TS3} (b:PwS 2 R) (N:List Str) (K:Int) (M:Nat) (hK:0<=K/\K<=60) (hN:N.length=M+3) (h:∀ k:Nat,k<=60->b.w ([.un,.sh (.int k),.un]++List.replicate M .un) 0 okW):∀ ts G q,WB ts G q->ts.length=1/\qop K R { nx:=λ_ G'=>q .non G',rt:=q } (qx N ts) G:=by
 rintro ts G q ⟨a,ns,rfl,hG,hl,hq⟩;refine ⟨rfl,?_⟩;have s0:(qx N [T.ref a])[0]?=some (some (.ref a)):=by simp [qx]
 have gl:getL G a=some (ns.map T.int):=by unfold getL;rw [hG]
 simp only [qop,zd,C6,VQ,qow,qc,qk,o3,c3,cb3,v3,s0,U8,gl,qh7,jX,length_map];have cnt:((1+(if ((ns.length:Nat):Int)<K then ((ns.length:Nat):Int) else K)).toNat)<=61:=by split<;>omega
 refine ⟨⟨by split<;>omega,by split<;>omega⟩,?_⟩;refine UX _ (λ_ τ G'=>G' a=some (.frz (ns.map T.int))/\τ[0]?=some (some (.ref a))/\τ.length=M+3) ⟨hG,s0,by simp [qx,hN]⟩ (λ_ _ _ _ _=>True.intro) ?_ ?_
 ·rintro i z τ G' nx hz ⟨gA,t0,tl⟩ hn;obtain ⟨hi,rfl⟩:=qaR hz;have hi2:i<=60:=by omega
  have t1:(τ.set 1 (some (T.int (0+(i:Int)))))[0]?=some (some (.ref a)):=by rw [getElem?_set,if_neg (by omega)];exact t0
  have t2:(τ.set 1 (some (T.int (0+(i:Int)))))[1]?=some (some (T.int (0+(i:Int)))):=by rw [getElem?_set,if_pos rfl,if_pos (by omega)]
  show v3 0 (τ.set 1 (some (T.int (0+(i:Int))))) G' (λx G1=>v3 1 (τ.set 1 (some (T.int (0+(i:Int))))) G1 λy G2=>Bk.QX [x,y] G2 λz G3=>R _ ((τ.set 1 (some (T.int (0+(i:Int))))).set 2 (some z)) G3);rw [qjR t1,qjR t2];refine ⟨a,_,ns,rfl,gA,hl,by omega,by omega,λp o c hp ho=>?_⟩;have pa:a≠p:=by rintro rfl;rw [gA] at hp;cases hp
  have r:RL 2 p (some (some (.ref a)),M+3) (λ_=>False) G' (λj=>if j=2 then some p else none) ((τ.set 1 (some (T.int (0+(i:Int))))).set 2 (some (.ref p))) ([.un,.sh (.int i),.un]++List.replicate M .un) (gu G' p (.lst [.int o,.int c,.int 0])) 0:=by
   refine ⟨⟨jD hp,λb z=>z.elim,λj q e=>?_,λj q e=>?_,λj k q e e'=>?_,by simp [tl],λj d e=>?_,λj ds e=>?_,λj ds e=>?_⟩,rfl,by rw [getElem?_set,if_pos rfl,if_pos (by simp;omega)],rfl,⟨o,c,0,qz,ho,by omega,by omega⟩,⟨by rw [getElem?_set,if_neg (by omega)];exact t1,by simp [tl]⟩⟩
   ·split at e
    ·cases e;exact hp
    ·cases e
   ·split at e
    ·cases e;rw [qz];simp
    ·cases e
   ·split at e
    ·split at e'
     ·rename_i h1 h2;rw [h1,h2]
     ·cases e'
    ·cases e
   ·match j,e with
    |0,e=>cases e
    |1,e=>
     cases e;refine ⟨.int (0+(i:Int)),by rw [getElem?_set,if_neg (by omega)];exact t2,?_⟩;rw [Int.zero_add];exact .int _
    |2,e=>cases e
    |j+3,e=>
     simp only [cons_append,List.nil_append,getElem?_cons_succ,List.getElem?_replicate] at e;split at e<;>cases e
   ·match j,e with
    |0,e=>cases e
    |1,e=>cases e
    |2,e=>cases e
    |j+3,e=>
     simp only [cons_append,List.nil_append,getElem?_cons_succ,List.getElem?_replicate] at e;split at e<;>cases e
   ·match j,e with
    |0,e=>cases e
    |1,e=>cases e
    |2,e=>cases e
    |j+3,e=>
     simp only [cons_append,List.nil_append,getElem?_cons_succ,List.getElem?_replicate] at e;split at e<;>cases e
  refine b.ok r (h i hi2) λo' m ho'=>?_;cases o' with
  |nx ρ'=>exact λA τ' G2 r2=>hn _ _ ⟨r2.r.ex _ _ gA,r2.tz.1,r2.tz.2⟩
  |ct ρ'=>exact λA τ' G2 r2=>hn _ _ ⟨r2.r.ex _ _ gA,r2.tz.1,r2.tz.2⟩
  |bk ρ'=>exact ho'.elim
  |rt d f=>exact ho'.elim
 ·rintro τ G' ⟨gA,t0,tl⟩;exact hq G'
def qeV {G:Gp} {ts:List T} (h:Dqs G ts []):ts=[]:=by cases h;rfl
def qn2 {G:Gp} {ts:List T} {i:Int} (h:Dqs G ts [.int i]):ts=[.int i]:=by
 cases h with
 |cons a b=>cases b;cases a;rfl
def lfc {G:Gp} {a:Addr} {n c:Nat} (h:Lf G a ((n:Int)+(c:Int))):Lf G a ((n+c:Nat):Int):=by rw [Int.natCast_add];exact h
def X7:DrD Bk.qV:=⟨λds n Q=>∃ m:Int,ds=[.int m]/\(1<=m/\m<1073741824)/\n<1000000000/\∀ d:Int,0<=d->d<m->Q (.int d) (n+1),false,
 λ⟨m,h1,h2,h3,h4⟩ k=>⟨m,h1,h2,h3,λd x y=>k _ _ (h4 d x y)⟩,λ{D G a n ts ds q Q} lf da hd hs ⟨m,h1,h2,h3,h4⟩ k=>by
 subst h1;have:=qn2 hs;subst this;exact ⟨a,n,m,rfl,h2.1,h2.2,lf,by omega,λd G' x y L E=>k _ _ G' (n+1) (h4 d x y) E (lfc (c:=1) L) (.int d) (λz=>by cases z)⟩⟩
def qlj (n:Nat):FnD (Bk.ja (n+1)):=⟨λds=>match ds with|[d,e]=>cif (d=e/\Bk.U5 n d) (some (.bool true)) none|_=>none,false,λ{D G xs ds v q} hx hd hf k=>by
 split at hf
 ·unfold cif at hf;split at hf
  ·rename_i c;cases hf;obtain ⟨rfl,c⟩:=c;cases hx with
   |cons x b=>cases b with
    |cons y b=>
     cases b;exact ⟨_,_,_,rfl,(x.up JK).dp,(y.up JK).dp,c,λG' E=>k _ _ E (.bl true) (λz=>by cases z)⟩
  ·cases hf
 ·cases hf⟩
def qfN {n:Nat} {d:PyData} (h:Bk.U5 n d):(qlj n).f [d,d]=some (.bool true):=za ⟨rfl,h⟩
def qkq {l:Nat} {t:TE3} {b:PuE t}:(eOf (l:=l) b).w=λρ n Q=>∃ d,b.f ρ=some d/\Q d n:=id rfl
def qid {l:Nat} {t:TT3} {b:PuC t}:(cOf (l:=l) b).w=λρ n Q=>∃ d,b.f ρ=some d/\Q d n:=id rfl
def qkr {l:Nat} {t:TA3} {b:PuA t}:(aOf (l:=l) b).w=λρ n Q=>∃ d,b.f ρ=some d/\Q d n:=id rfl
def qhe {l:Nat} {t:TI3} {b:PuI t}:(iOf (l:=l) b).w=λρ n Q=>∃ d,b.f ρ=some d/\Q d n:=id rfl
def qoI {l:Nat} {r:R3} {ta tb:TE3} {R:OpD r} {a:PwE l ta} {b:PwE l tb}:(eO R a b).w=λρ n Q=>a.w ρ n λx n1=>b.w ρ n1 λy n2=>∃ v,R.f x y=some v/\Q v n2:=id rfl
def qaz {l:Nat} {ta:TE3} {tr:TA3} {a:PwE l ta} {r:PwA l tr}:(V9 a r).w=λρ n Q=>a.w ρ n λx n1=>r.w ρ n1 λxs n2=>Q (x::xs) n2:=id rfl
def qep {l:Nat} {t:TA3} {b:PwA l t} {hn:Tru (Nat.ble b.k 1000)}:(qgP b hn).w=λρ n Q=>b.w ρ n λxs n1=>Q (.tuple xs) n1:=id rfl
def MP {l:Nat} {r:List T->Gp->Q3->Prop} {t:TA3} {R:FnD r} {b:PwA l t}:(qe8 R b).w=λρ n Q=>b.w ρ n λxs n1=>∃ v,R.f xs=some v/\Q v n1:=id rfl
def qg1 {l:Nat} {r:List T->Gp->Q3->Prop} {t:TA3} {R:DrD r} {b:PwA l t}:(eDr R b).w=λρ n Q=>b.w ρ n λxs n1=>R.W xs n1 Q:=id rfl
def qjN {l:Nat} {t:TE3} {b:PwE l t}:(cTb b).w=λρ n Q=>b.w ρ n λd n1=>∃ k,asB d=some k/\Q k n1:=id rfl
def qoO {l:Nat} {t:TE3} {b:PwE l t}:(iS b).w=λρ n Q=>b.w ρ n λd n1=>∃ ds,MD d=some ds/\Q ds n1:=id rfl
def qgV {l:Nat} {t:TE3} {b:PwE l t}:(iS b).nm=false:=id rfl
def qei {l:Nat} {t:TI3} {b:PuI t}:(iOf (l:=l) b).nm=b.nm:=id rfl
def qdt {l:Nat} {t:TE3} {b:PuE t}:(eOf (l:=l) b).nw=b.nw:=id rfl
def qjJ {l:Nat} {r:R3} {ta tb:TE3} {R:OpD r} {a:PwE l ta} {b:PwE l tb}:(eO R a b).nw=R.nw:=id rfl
def MG {l:Nat} {t:TA3} {b:PwA l t} {hn:Tru (Nat.ble b.k 1000)}:(qgP b hn).nw=false:=id rfl
def S5 {l:Nat} {r:List T->Gp->Q3->Prop} {t:TA3} {R:FnD r} {b:PwA l t}:(qe8 R b).nw=R.nw:=id rfl
def NZ {l:Nat}:(qbU (l:=l)).w=λρ n Q=>Q (.nx ρ) n:=id rfl
def qaU {b:Rho->Nat->QO->Prop} {Q:QO} {ρ:Rho} {n:Nat}:sqw b Q (.nx ρ) n=b ρ n Q:=id rfl
def qdW {b:Rho->Nat->QO->Prop} {Q:QO} {d:PyData} {f:Bool} {n:Nat}:sqw b Q (.rt d f) n=Q (.rt d f) n:=id rfl
def qhN {l:Nat} {c:TT3} {t u:TS3} {pc:PwC l c} {x:PwS l t} {y:PwS l u}:(wIf pc x y).w=λρ n Q=>pc.w ρ n λk n1=>if k then x.w ρ n1 Q else y.w ρ n1 Q:=id rfl
def qda {l:Nat} {t:TE3} {x:PwE l t}:(qh4 x).w=λρ n Q=>x.w ρ n λd n1=>Q (.rt d x.nw) n1:=id rfl
def qeJ {l:Nat} {t:TE3} {x:PwE l t} {i:Nat} {m:List Bool} {hm:Tru (x.fv.all (mkb m))} {hl:Tru (!mkb m l&&(i != l&&i != 0))}:(qfr x i m hm hl).w=λρ n Q=>x.w ρ n λd n1=>Q (.nx (KW m x.nw i d ρ)) n1:=id rfl
def qdA {l:Nat} {t:TA3} {x:PwA l t} {i j:Nat} {m:List Bool} {hm:Tru (x.fv.all (mkb m))} {hl:Tru (!mkb m l&&((i != l&&i != 0)&&(j != l&&j != 0)))}:(qol x i j m hm hl).w=λρ n Q=>x.w ρ n λds n1=>∃ o,qn7 i j m ds ρ=some o/\Q o n1:=id rfl
def qew {l:Nat} {wi:TI3} {g:TG3} {tb:TS3} {pi:PwI l wi} {pg:PuG g} {pb:PwS l tb} {m:List Bool} {hm:Tru (pi.fv.all (mkb m))} {hl:Tru (!mkb m l&&pg.tg.all (λi=>i != l&&i != 0))}:(qmw pi pg pb m hm hl).w=λρ n Q=>pi.w ρ n λds n1=>qcU pg.f pb.w ds (if pi.nm then ρ else dm m ρ) n1 Q:=id rfl
def MU {ds:List PyData} {n:Nat} {Q:QD}:X7.W ds n Q=(∃ m:Int,ds=[.int m]/\(1<=m/\m<1073741824)/\n<1000000000/\∀ d:Int,0<=d->d<m->Q (.int d) (n+1)):=id rfl
def qg9 {w:Wm} {fr:Bool}:(dSp w fr).W=w.W:=id rfl
def NE {Q:QD} {d:PyData} {b:Bool} {n:Nat}:qmX false Q (.rt d b) n=∃ m,n<=m/\Q d m:=propext ⟨λh=>h.2,λh=>⟨λz=>(Bool.false_ne_true z).elim,h⟩⟩
def qeB {ρ:Rho} {n:Nat}:okW (.nx ρ) n=True:=id rfl
def qkT {α:Type} {v:α} {P:α->Prop}:(∃ d,some v=some d/\P d)=P v:=propext ⟨λ⟨d,h1,h2⟩=>by cases h1;exact h2,λh=>⟨v,rfl,h⟩⟩
def qdl {v:Int} {P:Int->Prop}:(∃ m:Int,[PyData.int v]=[.int m]/\P m)=P v:=propext ⟨λ⟨d,h1,h2⟩=>by cases h1;exact h2,λh=>⟨v,rfl,h⟩⟩
def qc5 {m:List Bool} {nw:Bool} {i:Nat} {w:Wk} {ρ:Rho}:KW m nw i (Pv.Wk.d w) ρ=(dm m ρ).set i (.sh (Pv.Wk.d w)):=by cases w<;>exact qfg
def WQ {l:Nat} {t u:TS3} {x:PwS l t} {y:PwS l u} {ρ:Rho} {n:Nat} {Q:QO} (h:∀ Y:Rho->Nat->QO->Prop,Y=y.w->x.w ρ n (sqw Y Q)):(qbx x y).w ρ n Q:=h _ rfl
structure Mn (bw:Rho->Nat->QO->Prop):Prop where
 h:∀ ρ n (Q Q':QO),bw ρ n Q->(∀ o m,Q o m->Q' o m)->bw ρ n Q'
def PwS.mn {l:Nat} {t:TS3} (b:PwS l t):Mn b.w:=⟨λ_ _ _ _ h k=>b.mono h k⟩
section
variable {l:Nat} {g:TG3} {tb:TS3}
def KH {gf:PyData->Option (List (Nat×PyData))} {bw:Rho->Nat->QO->Prop} {α:Type} {f:α->PyData} (xs:List α) (mono:Mn bw) (I:Nat->Rho->Nat->Prop) {ρ:Rho} {n:Nat} {Q:QO} (h0:I 0 ρ n)
  (hs:∀ i x ρ n,xs[i]?=some x->I i ρ n->∃ bs,gf (f x)=some bs/\bw (JI ρ bs) n λo m=>match o with|.nx ρ'=>I (i+1) ρ' m|.ct ρ'=>I (i+1) ρ' m|.bk ρ'=>Q (.nx ρ') m|.rt d b=>Q (.rt d b) m)
  (k:∀ ρ n,I xs.length ρ n->Q (.nx ρ) n):qcU gf bw (xs.map f) ρ n Q:=by
 have key:∀ (r:List α) (i:Nat) (ρ:Rho) (n:Nat),xs.drop i=r->i<=xs.length->I i ρ n->qcU gf bw (r.map f) ρ n Q:=by
  intro r;induction r with
  |nil=>
   intro i ρ n e hi h;have:i=xs.length:=by
    have:=congrArg List.length e;simp at this;omega
   subst this;exact k ρ n h
  |cons x r ih=>
   intro i ρ n e hi h;have hl:i<xs.length:=by
    have:=congrArg List.length e;simp at this;omega
   have e':=List.drop_eq_getElem_cons hl;rw [e] at e';injection e' with e1 e2;obtain ⟨bs,h1,h2⟩:=hs i x ρ n (by rw [getElem?_eq_getElem hl,e1]) h;refine ⟨bs,h1,mono.h _ _ _ _ h2 λo m h=>?_⟩;cases o with
   |nx ρ'=>exact ih (i+1) ρ' m e2.symm hl h
   |ct ρ'=>exact ih (i+1) ρ' m e2.symm hl h
   |bk ρ'=>exact h
   |rt d b=>exact h
 exact key xs 0 ρ n (by simp) (Nat.zero_le _) h0
end
def qaA {α β:Type} {x:α} {f:α->Option β}:(some x).bind f=f x:=id rfl
def qeE {α β:Type} {x:α} {f:α->β}:(some x).map f=some (f x):=id rfl
def qlw {α:Type} {x:α} {r:List α}:(x::r).length=r.length+1:=id rfl
def qkW {α:Type}:([]:List α).length=0:=id rfl
def qjB {α:Type} {x y:α} {r:List α}:(x::r).set 0 y=y::r:=id rfl
def qg5 {α:Type} {x y:α} {r:List α} {i:Nat}:(x::r).set (i+1) y=x::r.set i y:=id rfl
def qk8 {α:Type} {r:List α}:r++[]=r:=List.append_nil r
def qhz {α:Type} {x:α} {r s:List α}:(x::r)++s=x::(r++s):=id rfl
def qjV {α:Type} {s:List α}:[]++s=s:=id rfl
def qln {n:Nat}:0+n=n:=Nat.zero_add n
def qit {p:Prop}:(True/\p)=p:=true_and p
def qk6 {α:Type} {a b:α} {i:Decidable True}:@ite α True i a b=a:=if_pos trivial
def qiG {α:Type} {a b:α} {i:Decidable False}:@ite α False i a b=b:=if_neg not_false
def qkC:(false=true)=False:=Bool.false_eq_true
def qlr:(!true)=false:=id rfl
def qhF:(!false)=true:=id rfl
def qkt {i:Decidable True}:@decide True i=true:=decide_true i
def qiV {i:Decidable False}:@decide False i=false:=decide_false i
def ai{a b:Prop}(x:a)(y:b):a/\b:=⟨x,y⟩
def pwA:=(ai (ai (ai (ai (ai (ai (ai @Pu.qkq @Pu.qid) (ai @Pu.qkr (ai @Pu.qhe @Pu.qoI))) (ai (ai @Pu.qaz (ai @Pu.qep @Pu.MP)) (ai @Pu.qg1 (ai @Pu.qjN @Pu.qoO)))) (ai (ai (ai @Pu.qgV @Pu.qei) (ai @Pu.qdt (ai @Pu.qjJ @Pu.MG))) (ai (ai @Pu.S5 (ai @Pu.NZ @Pu.qaU)) (ai @Pu.qdW (ai @Pu.qhN @Pu.qda))))) (ai (ai (ai (ai @Pu.qeJ @Pu.qdA) (ai @Pu.qew (ai @Pu.MU @Pu.qg9))) (ai (ai @Pu.NE (ai @Pu.qeB @Pu.qdl)) (ai @Pu.qc5 (ai @Pu.qlp @Pu.qoA)))) (ai (ai (ai @Pu.qdL @Pu.qhm) (ai @Pu.qdF (ai @Pu.qom @Pu.qdo))) (ai (ai @Pu.N8 (ai @Pu.qc9 @Pu.qds)) (ai @Pu.qax (ai @Pu.qjL @Pu.qj0)))))) (ai (ai (ai (ai (ai @Pu.qdP @Pu.qhE) (ai @Pu.qa6 (ai @Pu.qeP @Pu.qaN))) (ai (ai @Pu.qhZ (ai @Pu.qdk @Pu.qh0)) (ai @Pu.qeO (ai @Pu.qhO @Pu.qk9)))) (ai (ai (ai @Pu.qhP @Pu.qaj) (ai @Pu.qeF (ai @Pu.qkY @Pu.qc1))) (ai (ai @Pu.qes (ai @Pu.qdi @Pu.qdC)) (ai @Pu.qek (ai @Pu.qdB @Pu.NY))))) (ai (ai (ai (ai @Pu.qha @Pu.qiu) (ai @Pu.qho (ai @Pu.qdr @Pu.qaC))) (ai (ai @Pu.qdG (ai @Pu.N5 @Pu.qde)) (ai @Pu.qc8 (ai @Pu.qaQ @Pu.TM)))) (ai (ai (ai @Pu.MM @Pu.qoC) (ai @Pu.qeQ (ai @Pu.qbj @Pu.qez))) (ai (ai @Pu.qbp (ai @Pu.qdp @Pu.qil)) (ai @Pu.qer (ai @Pu.ME @Pu.qdO))))))) (ai (ai (ai (ai (ai (ai @Pu.qap @Pu.qeA) (ai @Pu.qex (ai @Pu.qiq @Pu.NJ))) (ai (ai @Pu.MI (ai @Pu.T1 @Pu.KJ)) (ai @Pu.KA (ai @Pu.qdu @Pu.qeq)))) (ai (ai (ai @Pu.qbk @Pu.qai) (ai @Pu.NC (ai @Pu.qay @Pu.qas))) (ai (ai @Pu.KG (ai @Pu.NS @Pu.qoD)) (ai @Pu.qoF (ai @Pu.qis @Pu.qhl))))) (ai (ai (ai (ai @Pu.N9 @Pu.qac) (ai @Pu.qd2 (ai @Pu.qg7 @Pu.qjK))) (ai (ai @Pu.at0 (ai @Pu.at1 @Pu.at2)) (ai @Pu.at3 (ai @Pu.eqS @Pu.eqI)))) (ai (ai (ai @Pu.qoS @Pu.qev) (ai @Pu.qeg (ai @Pu.qdI @Pu.qba))) (ai (ai @Pu.qeR (ai @Pu.qjA @Pu.qko)) (ai @Pu.qk3 (ai @Pu.qeG @Pu.qdy)))))) (ai (ai (ai (ai (ai @Pu.qd9 @Pu.qdb) (ai @Pu.DM (ai @Pu.qc3 @Pu.qd0))) (ai (ai @Pu.qjd (ai @Pu.qg3 @Pu.qla)) (ai @Pu.qd4 (ai @Pu.qjx @Pu.qhd)))) (ai (ai (ai @Pu.qfg @Pu.qc2) (ai @Pu.qem (ai @Pu.qoP @Pu.qon))) (ai (ai @Pu.qor (ai @Pu.qii @Pu.qjw)) (ai @Pu.qlu (ai @Pu.qhS @Pu.qj6))))) (ai (ai (ai (ai @Pu.qoG @Pu.qee) (ai @Pu.qeH (ai @Pu.qd1 @Pu.qkT))) (ai (ai @Pu.qaA (ai @Pu.qeE @Pu.qlw)) (ai @Pu.qkW (ai @Pu.qjB @Pu.qg5)))) (ai (ai (ai @Pu.qk8 (ai @Pu.qhz @Pu.qjV)) (ai @Pu.qln (ai @Pu.qit @Pu.qk6))) (ai (ai @Pu.qiG (ai @Pu.qkC @Pu.qlr)) (ai @Pu.qhF (ai @Pu.qkt @Pu.qiV))))))))
end Pu
namespace Bk
open PySem L2 L3
def nzW:Wk->Prop
 |.step d a _=>d≠0\/a≠0
 |_=>True
def j9:Sp3:=λts G q=>∃ a n,ts=[.ref a]/\Lf G a n/\n<1000000/\∀ (w:Wk) G',w.Ok->nzW w->Lf G' a (n+60)->Ext a G G'->q w.t G'
def CY:∀ ts G q,j9 ts G q->ts.length=1/\Z8 qV JW (qgO q) (qx ["_law_left_here","_law_way","_law_lying","_law_high","_law_wide","_law_down","_law_along","_law_pairs","_law_far","_law_turn","_law_pair"] ts) G:=by
 rintro ts G q ⟨a,n,rfl,hL,hn,h⟩;refine ⟨rfl,?_⟩;unfold Z8;refine Q1 λnx1 q1=>?_;simp only [jc,cb3,qc,v3,qx,map_cons,List.map_nil,length_cons,length_nil,Nat.zero_add,Nat.reduceAdd,Nat.add_one_sub_one,List.reduceReplicate,cons_append,List.nil_append,Nat.zero_lt_succ,getElem?_pos,getElem_cons_zero,c3,qk,gn3,set_cons_succ,set_cons_zero];refine QQ hL (by omega) (by omega) (by omega) λway G1 w0 w1 L1 E1=>?_
 try simp
 rw [q1];clear q1;refine Q1 λnx2 q2=>?_;by_cases lt:way<4
 ·simp only [jx,tb3,o3,v3,length_cons,length_nil,Nat.zero_add,Nat.reduceAdd,Nat.reduceLT,getElem?_pos,getElem_cons_succ,getElem_cons_zero,c3,iB,lt,decide_true,↓reduceIte,zh,QE,qc,VX,qk,sizeLine_eq,Nat.reduceLeDiff,cb3,Nat.zero_lt_succ,true_and,ixR];intro p hp;have np:=L1.ne hp;have L3':=L1.new np (ob:=.lst [.str "row",.str "column",.str "slant",.str "back"]);obtain ⟨k,rfl⟩:=Int.eq_ofNat_of_zero_le w0;have hk:k<4:=by omega
  have e1:L2.atI [T.str (Str.ofString "row"),.str (Str.ofString "column"),.str (Str.ofString "slant"),.str (Str.ofString "back")] (k:Int)=some (.str (zQ k)):=by
   rcases k with _|_|_|_|k
   ·rfl
   ·rfl
   ·rfl
   ·rfl
   ·omega
  simp only [L3.ixR,QY qz,e1];refine ⟨a,_,rfl,L3',by omega,λm G2 m1 m2 L4 E4=>?_⟩;exact h (.line k m) _ ⟨hk,m1,m2⟩ trivial (L4.mono (by omega)) (E1.trans ((UZ hp).trans E4))
 simp only [jx,tb3,o3,v3,c3,iB,getElem?_cons_zero,getElem?_cons_succ,lt,decide_false,Bool.false_eq_true,if_false,qS];rw [q2];clear q2;refine Q1 λnx3 q3=>?_;by_cases lt6:way<6
 ·simp only [jx,tb3,o3,v3,c3,iB,getElem?_cons_zero,getElem?_cons_succ,lt6,decide_true,if_true];refine Q1 λnx4 q4=>?_;simp only [NK,qc,cb3,v3,length_cons,length_nil,Nat.zero_add,Nat.reduceAdd,Nat.zero_lt_succ,getElem?_pos,getElem_cons_zero,c3,qk,o3,jX,ne_eq,sizeLine_eq,set_cons_succ,set_cons_zero];refine QQ L1 (by omega) (by omega) (by omega) λly G2 y0 y1 L2' E2=>?_
  try simp
  refine QQ L2' (by omega) (by omega) (by omega) λhi G3 h0 h1 L3' E3=>?_
  try simp
  rw [q4];clear q4;obtain ⟨hh,rfl⟩:=Int.eq_ofNat_of_zero_le h0;refine Q1 λnx5 q5=>?_;simp only [jc,o3,c3,cb3,qc,v3,length_cons,length_nil,Nat.zero_add,Nat.reduceAdd,Nat.zero_lt_succ,getElem?_pos,getElem_cons_zero,Nat.reduceLT,getElem_cons_succ,iC,qk,jX,ne_eq,sizeLine_eq,gn3,set_cons_succ,set_cons_zero];have dv:1<=(16:Int)/(1+(hh:Int))/\(16:Int)/(1+(hh:Int))<=16:=by
   have:hh=0\/hh=1\/hh=2\/hh=3:=by omega
   rcases this with rfl|rfl|rfl|rfl<;>decide
  refine ⟨⟨by omega,by omega⟩,QQ L3' (by omega) (by omega) (by omega) λwi G4 u0 u1 L4 E4=>?_⟩
  try simp
  rw [q5];clear q5;obtain ⟨ww,rfl⟩:=Int.eq_ofNat_of_zero_le u0;have pr:(hh+1)*(ww+1)<=16:=by
   have:hh=0\/hh=1\/hh=2\/hh=3:=by omega
   rcases this with rfl|rfl|rfl|rfl<;>simp at u1<;>omega
  simp only [zh,o3,VX,qc,QE,c3,v3,length_cons,length_nil,Nat.zero_add,Nat.reduceAdd,Nat.reduceLT,getElem?_pos,getElem_cons_succ,getElem_cons_zero,qk,sizeLine_eq,Nat.reduceLeDiff,ixR,true_and];intro p hp;have np:=L4.ne hp;have X4:=E1.trans (E2.trans (E3.trans E4));have z1:(1:Int)+(hh:Int)=((hh+1:Nat):Int):=by omega
  have z2:(1:Int)+(ww:Int)=((ww+1:Nat):Int):=by omega
  rw [z1,z2];have hl:ly=0\/ly=1:=by omega
  rcases hl with rfl|rfl
  ·simp only [L3.ixR,QY qz,qmZ];exact h (.block (hh+1) (ww+1)) _ ⟨by omega,by omega,by omega,by omega,pr⟩ trivial ((L4.new np).mono (by omega)) (X4.trans (UZ hp))
  ·simp only [L3.ixR,QY qz,ql7];exact h (.block (ww+1) (hh+1)) _ ⟨by omega,by omega,by omega,by omega,by rw [Nat.mul_comm];exact pr⟩ trivial ((L4.new np).mono (by omega)) (X4.trans (UZ hp))
 simp only [jx,tb3,o3,v3,c3,iB,getElem?_cons_zero,getElem?_cons_succ,lt6,decide_false,Bool.false_eq_true,if_false,qS];rw [q3];clear q3;refine Q1 λnx4 q4=>?_;by_cases lt8:way<8
 ·simp only [jx,tb3,o3,v3,c3,iB,getElem?_cons_zero,getElem?_cons_succ,lt8,decide_true,if_true];refine Q1 λnx5 q5=>?_;simp only [NK,qc,o3,cb3,v3,length_cons,length_nil,Nat.zero_add,Nat.reduceAdd,Nat.zero_lt_succ,getElem?_pos,getElem_cons_zero,c3,qk,iI,set_cons_succ,set_cons_zero];refine QQ L1 (by omega) (by omega) (by omega) λd G2 d0 d1 L2' E2=>?_
  try simp
  refine QQ L2' (by omega) (by omega) (by omega) λal G3 a0 a1 L3' E3=>?_
  try simp
  rw [q5];clear q5;obtain ⟨D,hD⟩:∃ D,D=d-3:=⟨_,rfl⟩
  obtain ⟨A,hA⟩:∃ A,A=al-4:=⟨_,rfl⟩
  rw [← hD,← hA];refine Q1 λnx6 q6=>?_;simp only [jx,tb3,o3,cb3,qc,v3,length_cons,length_nil,Nat.zero_add,Nat.reduceAdd,Nat.zero_lt_succ,getElem?_pos,getElem_cons_zero,c3,qk,zK,ZK,Bool.false_eq_true,↓reduceIte,zh,QE,Nat.reduceLT,getElem_cons_succ,iC,jy,decide_eq_true_eq,KQ,jX,ne_eq,sizeLine_eq,Nat.reduceLeDiff,true_and,Int.add_zero,qS,exists_and_left,Bool.exists_bool];refine QQ L3' (by omega) (by omega) (by omega) λsix G4 s0 s1 L4 E4=>?_;have X4:=E1.trans (E2.trans (E3.trans E4));by_cases k0:six=0
  ·subst k0;simp only [decide_true,↓reduceIte];refine ⟨cm (by omega) (by omega),cm (by omega) (by omega),?_⟩;have fin:∀ e:Int,0<=e->e<=1->(D≠0\/3*A+e≠0/\A+e≠0)->qV [.ref a,.int 4] G4 λx G'=>(match T.int 1,x with|.int i,.int j=>q (.tup [.str (Str.ofString "step"),.int (5*D),.int (3*A+e),.int (i+j)]) G'|_,_=>False):=by
    intro e e0 e1 e2;refine QQ L4 (by omega) (by omega) (by omega) λm G5 m0 m1 L5 E5=>?_;obtain ⟨m',rfl⟩:=Int.eq_ofNat_of_zero_le m0;have:=h (.step (5*D) (3*A+e) (m'+1)) G5 ⟨⟨by omega,by omega⟩,⟨by omega,by omega⟩,by omega,by omega⟩ (by simp only [nzW];omega) (L5.mono (by omega)) (X4.trans E5);simp only [Wk.t] at this;rw [show ((m'+1:Nat):Int)=1+(m':Int) by omega] at this;exact this
   by_cases hD0:D=0
   ·by_cases hA0:A=0
    ·have:=fin 1 (by omega) (by omega) (by omega);simp only [hD0,Int.mul_zero,hA0,Int.zero_add,↓reduceIte] at this ⊢;exact this
    ·have:=fin 0 (by omega) (by omega) (by omega);simp only [hD0,Int.mul_zero,Int.add_zero,↓reduceIte,hA0] at this ⊢;exact this
   ·have:=fin 0 (by omega) (by omega) (by omega);simp only [Int.add_zero,hD0,↓reduceIte] at this ⊢;exact this
  ·simp [k0];rw [q6];clear q6;have fin:∀ e:Int,0<=e->e<=1->(D≠0\/3*A+e≠0/\A+e≠0)->JW [.ref a] G4 λx G'=>q (.tup [.str (Str.ofString "step"),.int D,.int (A+e),x]) G':=by
    intro e e0 e1 e2;refine ⟨a,_,rfl,L4,by omega,λm G5 m0 m1 L5 E5=>?_⟩;exact h (.step D (A+e) m) G5 ⟨⟨by omega,by omega⟩,⟨by omega,by omega⟩,by omega,by omega⟩ (by simp only [nzW];omega) (L5.mono (by omega)) (X4.trans E5)
   by_cases hD0:D=0
   ·by_cases hA0:A=0
    ·have:=fin 1 (by omega) (by omega) (by omega);simp only [hD0,hA0,Int.zero_add,zh,QE,qc,c3,v3,length_cons,length_nil,Nat.zero_add,Nat.reduceAdd,Nat.reduceLT,getElem?_pos,getElem_cons_succ,getElem_cons_zero,o3,cb3,jy,zK,ZK,decide_true,Bool.false_eq_true,↓reduceIte,qk,KQ,jX,Nat.zero_lt_succ,sizeLine_eq,Nat.reduceLeDiff,true_and] at this ⊢;exact this
    ·have:=fin 0 (by omega) (by omega) (by omega);simp only [hD0,Int.add_zero,zh,QE,qc,c3,v3,length_cons,length_nil,Nat.zero_add,Nat.reduceAdd,Nat.reduceLT,getElem?_pos,getElem_cons_succ,getElem_cons_zero,o3,cb3,jy,zK,ZK,decide_true,Bool.false_eq_true,↓reduceIte,hA0,decide_false,qk,KQ,jX,Nat.zero_lt_succ,sizeLine_eq,Nat.reduceLeDiff,true_and] at this ⊢;exact this
   ·have:=fin 0 (by omega) (by omega) (by omega);simp only [Int.add_zero,zh,QE,qc,c3,v3,length_cons,length_nil,Nat.zero_add,Nat.reduceAdd,Nat.reduceLT,getElem?_pos,getElem_cons_succ,getElem_cons_zero,o3,cb3,jy,zK,ZK,hD0,decide_false,Bool.false_eq_true,↓reduceIte,qk,KQ,jX,Nat.zero_lt_succ,sizeLine_eq,Nat.reduceLeDiff,true_and] at this ⊢;exact this
 simp only [jx,tb3,o3,v3,c3,iB,getElem?_cons_zero,getElem?_cons_succ,lt8,decide_false,Bool.false_eq_true,if_false,qS];rw [q4];clear q4;refine Q1 λnx5 q5=>?_;simp only [NK,qc,VX,qk,length_nil,sizeLine_eq,Nat.zero_le,o3,c3,cb3,v3,length_cons,Nat.zero_add,Nat.reduceAdd,Nat.zero_lt_succ,getElem?_pos,getElem_cons_zero,zK,ZK,KQ,iC,Bool.false_eq_true,↓reduceIte,jX,set_cons_succ,set_cons_zero,ne_eq,exists_and_left,Bool.exists_bool,Int.mul_zero,Int.add_zero,Int.mul_one,Int.reduceAdd,true_and];intro pp hpp;have npp:=L1.ne hpp;have Lp:=L1.new npp (ob:=.lst []);refine QQ Lp (by omega) (by omega) (by omega) λfv G2 f0 f1 L2' E2=>?_;have gp2:=E2 _ _ npp qz;have X2:Ext a G G2:=E1.trans ((UZ hpp).trans E2);have hf:∃ far:Int,(far=1\/far=5)/\nx5=nx5:=⟨1,.inl rfl,rfl⟩
 clear hf;have fin:∀ far:Int,far=1\/far=5->nx5 [some (.ref a),some (.int way),none,none,none,none,none,some (.ref pp),some (.int far),none,none] G2:=by
  intro far hfar;rw [q5];clear q5;refine Q1 λnx6 q6=>?_;simp only [C6,VQ,cb3,qc,qk,v3,getElem?_cons_zero,getElem?_cons_succ];refine ⟨a,_,rfl,L2',by omega,λm G3 m1 m2 L3' E3=>?_⟩;have gp3:=E3 _ _ npp gp2;refine ⟨⟨by omega,by omega⟩,?_⟩;rw [Int.toNat_natCast];refine UX _ (λi τ G'=>∃ ps:List (Int×Int),G' pp=some (.lst (ps.map pT))/\(1<=i->1<=ps.length)/\ps.length<=i/\ps.Nodup/\(∀ p∈ps,(-16<=p.1/\p.1<=16)/\(-16<=p.2/\p.2<=16))/\Lf G' a (n+5+2*i)/\Ext a G G'/\∃ x9 x10,τ=[some (.ref a),some (.int way),none,none,none,none,none,some (.ref pp),some (.int far),x9,x10])
   ⟨[],gp3,by omega,by simp,by simp,(by intro p hp;cases hp),by simpa using L3'.mono (by omega),X2.trans E3,none,none,rfl⟩ (λ_ _ _ _ _=>True.intro) ?_ ?_
  ·rintro i z τ G' nx hz ⟨ps,gp,i1,pl,nd,bd,L,E,x9,x10,rfl⟩ hnx;obtain ⟨hi,rfl⟩:=qaR hz;simp only [gn3,set_cons_succ,set_cons_zero];refine Q1 λnx7 q7=>?_;simp only [jc,QE,qc,o3,v3,Int.zero_add,length_cons,length_nil,Nat.zero_add,Nat.reduceAdd,Nat.reduceLT,getElem?_pos,getElem_cons_succ,getElem_cons_zero,cb3,Nat.zero_lt_succ,c3,qk,iI,iC,sizeLine_eq,Nat.reduceLeDiff,gn3,set_cons_succ,set_cons_zero,true_and];refine QQ L (by omega) (by omega) (by omega) λu G4 u0 u1 L4 E4=>?_
   try simp
   refine ⟨cm (by omega) (by omega),QQ L4 (by omega) (by omega) (by omega) λv G5 v0 v1 L5 E5=>?_⟩
   try simp
   refine ⟨cm (by omega) (by omega),?_⟩;rw [q7];clear q7;have gp5:=E5 _ _ npp (E4 _ _ npp gp);have X5:=E.trans (E4.trans E5);have pe:T.tup [.int (far*(u-2)),.int (far*(v-2))]=pT (far*(u-2),far*(v-2)):=rfl;rw [pe];have pb:(-16<=far*(u-2)/\far*(u-2)<=16)/\(-16<=far*(v-2)/\far*(v-2)<=16):=by rcases hfar with rfl|rfl<;>omega
   generalize hP:(far*(u-2),far*(v-2))=P at *;have pb':(-16<=P.1/\P.1<=16)/\(-16<=P.2/\P.2<=16):=by rw [← hP];exact pb
   simp only [jx,tb3,o3,v3,getElem?_cons_zero,getElem?_cons_succ];refine ⟨_,_,_,_,QY gp5,qh1 _ _,qdJ _ _,pIn _ _,λd hd=>?_,?_⟩
   ·obtain ⟨p,_,rfl⟩:=mem_map.mp hd;exact qiS p
   ·by_cases hm:P∈ps
    ·simp only [↓reduceIte,hm,decide_true,Bool.not_true,Bool.false_eq_true,qS];exact hnx _ _ ⟨ps,gp5,λ_=>List.length_pos_of_mem hm,by omega,nd,bd,L5.mono (by omega),X5,_,_,rfl⟩
    ·simp only [↓reduceIte,hm,decide_false,Bool.not_false,E6,bm3,v3,length_cons,length_nil,Nat.zero_add,Nat.reduceAdd,Nat.reduceLT,getElem?_pos,getElem_cons_succ,getElem_cons_zero,qc,Nat.lt_add_one,qk,MC,gp5,length_map,sizeLine_eq];refine ⟨by rw [QY gp5];rfl,by omega,?_⟩;refine hnx _ _ ⟨ps++[P],by rw [qz];simp,λ_=>by simp,by simp;omega,?_,λp hp=>?_,L5.new npp |>.mono (by omega),λb o hb eb=>?_,_,_,rfl⟩
     ·rw [List.nodup_append];exact ⟨nd,by simp,λx hx y hy=>by simp at hy;subst hy;rintro rfl;exact hm hx⟩
     ·rcases List.mem_append.mp hp with hp|hp
      ·exact bd p hp
      ·simp at hp;subst hp;exact pb'
     ·have:b≠pp:=by
       rintro rfl;have:=E1 _ _ hb eb;rw [hpp] at this;cases this
      rw [zm this];exact X5 _ _ hb eb
  ·rintro τ G' ⟨ps,gp,i1,pl,nd,bd,L,E,x9,x10,rfl⟩;rw [qgx] at i1 pl L;show nx6 _ _;rw [q6];simp only [zh,QE,qc,c3,cb3,v3,length_cons,length_nil,Nat.zero_add,Nat.reduceAdd,Nat.reduceLT,getElem?_pos,getElem_cons_succ,getElem_cons_zero,qk,JM,QY gp,sizeLine_eq,Nat.reduceLeDiff,true_and];exact h (.cells ps) G' ⟨i1 m1,by omega,nd,bd⟩ trivial (L.mono (by omega)) E
 by_cases k0:fv=0
 ·have:=fin 5 (.inr rfl);simp only [k0,decide_true,↓reduceIte,Int.mul_one,Int.reduceAdd];exact ⟨cm (by omega) (by omega),this⟩
 ·have:=fin 1 (.inl rfl);simp only [k0,decide_false,Bool.false_eq_true,↓reduceIte,Int.mul_zero,Int.add_zero];exact ⟨cm (by omega) (by omega),this⟩
end Bk
namespace Pu
open PySem L2 L3
open Bk (Wk)
def TY:DrD Bk.j9:=⟨λds n Q=>ds=[]/\n<1000000/\∀ w:Wk,w.Ok->Bk.nzW w->Q (Pv.Wk.d w) (n+60),false,
 λ⟨h1,h3,h4⟩ k=>⟨h1,h3,λw x y=>k _ _ (h4 w x y)⟩,λ{D G a n ts ds q Q} lf da hd hs ⟨h1,h3,h4⟩ k=>by
 subst h1;have:=qeV hs;subst this;exact ⟨a,n,rfl,lf,by omega,λw G' x y L E=>k _ _ G' (n+60) (h4 w x y) E (lfc (c:=60) L) (Pv.qmq _ w) (λz=>by cases z)⟩⟩
def qcg {ds:List PyData} {n:Nat} {Q:QD}:TY.W ds n Q=(ds=[]/\n<1000000/\∀ w:Wk,w.Ok->Bk.nzW w->Q (Pv.Wk.d w) (n+60)):=id rfl
def qaS:TY.nw=false:=id rfl
end Pu
namespace Pu
open PySem L2 L3
open Bk (Lf Ext Wk)
def the (S:PyData->Prop):Option PyData:=@dite _ (∃ v,S v) (Classical.propDecidable _) (λh=>some (Classical.choose h)) λ_=>none
end Pu
namespace Pu
open PySem L2 L3
open Bk (Lf Ext Wk SD SDs j7 qZ ZL JO DY W8)
end Pu
namespace Pu
open PySem L2 L3
def CB (st:Bool):List PyData->Option PyData
 |[.none]=>some (.str "None")
 |[.bool b]=>some (.str (if b=true then Str.ofString "True" else Str.ofString "False"))
 |[.int i]=>cif (i.natAbs.log2<1920) (some (.str (Str.ofString (toString i)))) none
 |[.str x]=>match st with
  |true=>some (.str x)
  |false=>cif ((reprText x).length<=sizeLine) (some (.str (reprText x))) none
 |[.list ds]=>cif (ShW (.list ds)) (some (.str (PyData.list ds).shown)) none
 |[.tuple ds]=>cif (ShW (.tuple ds)) (some (.str (PyData.tuple ds).shown)) none
 |_=>none
def ZC {α:Type} {c:Prop} {x:α} {d:α} (h:cif c (some x) none=some d):c/\x=d:=by
 unfold cif at h;split at h
 ·rename_i z;exact ⟨z,Option.some.inj h⟩
 ·cases h
def EF (st:Bool):FnD (UB st):=⟨CB st,false,λ{D G xs ds v q} hx hd hf k=>by
 cases hx with
 |nil=>cases hf
 |cons a b=>
  cases b with
  |cons b1 b2=>cases a<;>cases hf
  |nil=>
   have dp:=(a.up JK).dp;have fin:∀ (x:Str) {w:PyData},w=v->w=.str x->q (.str x) G:=λx w e1 e2=>k _ _ Ex.refl (by rw [← e1,e2];exact .str _) (λz=>by cases z);cases a with
   |non=>exact fin _ (Option.some.inj hf) rfl
   |bl b=>exact fin _ (Option.some.inj hf) rfl
   |int i=>exact ⟨(ZC hf).1,fin _ (ZC hf).2 rfl⟩
   |str x=>
    cases st with
    |true=>exact fin _ (Option.some.inj hf) rfl
    |false=>exact ⟨(ZC hf).1,fin _ (ZC hf).2 rfl⟩
   |tup hs=>exact ⟨_,dp,(ZC hf).1,fin _ (ZC hf).2 rfl⟩
   |lst g hs=>exact ⟨_,dp,(ZC hf).1,fin _ (ZC hf).2 rfl⟩⟩
def ZU {st:Bool}:(EF st).f=CB st:=id rfl
def qif {st:Bool} {ds:List PyData} (h:ShW (.tuple ds)):CB st [.tuple ds]=some (.str (PyData.tuple ds).shown):=za h
def log2_lt {n k:Nat} (h:n<2 ^ k) (hk:0<k):n.log2<k:=by
 rcases Nat.eq_zero_or_pos n with z|z
 ·subst z;simpa using hk
 ·exact (Nat.log2_lt (by omega)).mpr h
def S7 {st:Bool} {i:Int} (h:-1000000000<=i/\i<=1000000000):CB st [.int i]=some (.str (Str.ofString (toString i))):=za (Nat.lt_of_lt_of_le (log2_lt (k:=30) (by omega) (by decide)) (by decide))
def qj1 {x:Str}:CB true [.str x]=some (.str x):=id rfl
def qfM {α:Type} (g:α->PyData) (xs:List α):∀ k,enD k (xs.map g)=(xs.zipIdx k).map λp=>PyData.tuple [.int (p.2:Int),g p.1]:=by
 induction xs with
 |nil=>intro k;rfl
 |cons x xs ih=>intro k;simp only [map_cons,enD,List.zipIdx_cons,ih (k+1)]
def K5 {α:Type} {xs:List α} {i n:Nat} {x:α} (h:(xs.zipIdx 0)[i]?=some (x,n)):xs[i]?=some x/\n=i/\i<xs.length:=by
 rw [List.getElem?_zipIdx] at h;obtain ⟨c,hc,e⟩:=Option.map_eq_some_iff.mp h;simp only [Nat.zero_add,Prod.mk.injEq] at e;obtain ⟨rfl,rfl⟩:=e;exact ⟨hc,rfl,(List.getElem?_eq_some_iff.mp hc).1⟩
def qen:List PyData->Option (List (List Int))
 |[]=>some []
 |.tuple ys::r=>(match V6 ys,qen r with|some k,some ks=>some (k::ks)|_,_=>none)
 |_=>none
def qeL {G:Gp}:∀ {xs:List T} {ds:List PyData} {ks:List (List Int)},Dqs G xs ds->qen ds=some ks->qbR xs=some ks
 |_,[],ks,h,e=>by cases h;simpa [qen,qbR] using e
 |_,d::ds,ks,h,e=>by
  cases h with
  |cons a b=>
   cases d<;>try (simp only [qen] at e;cases e;done)
   case tuple ys=>
    simp only [qen] at e;split at e
    ·rename_i k ks' e1 e2;cases e;cases a with
     |tup hs=>
      have:=TZ e1;subst this;have:=hs.ints;subst this;simp only [qbR,qav,qeL b e2]
    ·cases e
def X9 (d:PyData):Option PyData:=match d with
 |.tuple ds=>(qen ds).bind λks=>cif (ks.length<=306) (some (.int (Tb8.cnt (kAt ks) ks.length))) none
 |_=>none
def qdR {te:TE3} (a:PuE te):PuE (qao te):=⟨λρ=>(a.f ρ).bind X9,a.fv,false,λhv hd hf k=>by
 obtain ⟨d,e1,hf⟩:=obb hf;refine a.ok hv hd e1 λx' G1 E1 D1 _=>?_;unfold X9 at hf;cases D1 with
 |tup hs=>
  simp only at hf;obtain ⟨ks,en,hf⟩:=obb hf;unfold cif at hf;split at hf
  ·rename_i hl;cases hf;simp only [qeL hs en];exact ⟨hl,k _ _ E1 (.int _) (λz=>by cases z)⟩
  ·cases hf
 |_=>simp at hf⟩
def qcy {te:TE3} {a:PuE te}:(qdR a).f=λρ=>(a.f ρ).bind X9:=id rfl
def qhx (ps:List (Int×Int)):Nat:=Tb8.cnt (kAt (ps.map λp=>[p.1,p.2])) ps.length
def qh3:∀ ps:List (Int×Int),qen (ps.map λp=>.tuple [.int p.1,.int p.2])=some (ps.map λp=>[p.1,p.2])
 |[]=>rfl
 |p::ps=>by simp only [map_cons,qen,V6,qh3 ps];rfl
def qgB {ps:List (Int×Int)} (h:ps.length<=306):X9 (.tuple (ps.map λp=>.tuple [.int p.1,.int p.2]))=some (.int (qhx ps)):=by
 simp only [X9,qh3,Option.bind_some];rw [za (by simpa using h)];simp [qhx]
def MF {key:Nat->List Int}:∀ {n:Nat},Tb8.cnt key n=n↔∀ i j,i<j->j<n->key i≠key j
 |0=>⟨λ_ i j _ h=>absurd h (Nat.not_lt_zero j),λ_=>rfl⟩
 |n+1=>by
  have ih:=MF (key:=key) (n:=n);have le:=Tb8.T5 key n;unfold Tb8.cnt;constructor
  ·intro h;split at h
   ·omega
   ·rename_i c;intro i j hij hj e;rcases Nat.lt_or_ge j n with z|z
    ·exact ih.mp (by omega) i j hij z e
    ·obtain rfl:j=n:=by omega
     exact c ⟨i,hij,e⟩
  ·intro h;rw [if_neg (λ⟨i,hi,e⟩=>h i n hi (by omega) e),ih.mpr λi j hij hj=>h i j hij (by omega)]
def qcR {ps:List (Int×Int)}:qhx ps=ps.length↔ps.Nodup:=by
 unfold qhx;rw [MF,List.nodup_iff_pairwise_ne,List.pairwise_iff_getElem];have k:∀ i (h:i<ps.length),kAt (ps.map λp=>[p.1,p.2]) i=[ps[i].1,ps[i].2]:=λi h=>by
  unfold kAt;rw [getD_eq_getElem?_getD,getElem?_map,getElem?_eq_getElem h];rfl
 constructor
 ·intro h i j hi hj hij e;exact h i j hij hj (by rw [k i hi,k j hj,e])
 ·intro h i j hij hj e;rw [k i (by omega),k j hj] at e;simp only [List.cons.injEq,and_true] at e;exact h i j (by omega) hj hij (Prod.ext e.1 e.2)
def qgn:List PyData->Option PyData
 |[.str x]=>cif (x.length<=sizeLine) (some (.int x.length)) none
 |_=>none
def qkK:FnD U8:=⟨qgn,false,λ{D G xs ds v q} hx hd hf k=>by
 cases hx with
 |nil=>cases hf
 |cons a b=>
  cases b with
  |cons b1 b2=>cases a<;>cases hf
  |nil=>
   cases a with
   |str x=>
    have:=ZC hf;refine ⟨this.1,?_⟩;exact k _ _ Ex.refl (by rw [← this.2];exact .int _) (λz=>by cases z)
   |_=>cases hf⟩
def MV:qkK.f=qgn:=id rfl
def qlO (d:PyData) (lo hi:Option Int):Option PyData:=match d with
 |.str z=>cif ((Txt.slice z lo hi).length<=sizeLine) (some (.str (Txt.slice z lo hi))) none
 |_=>none
def qmK {te:TE3} {tl th:TO3} (a:PuE te) (l:PuO tl) (h:PuO th):PuE (qfq te tl th):=⟨λρ=>(a.f ρ).bind λd=>(l.f ρ).bind λlo=>(h.f ρ).bind λhi=>qlO d lo hi,a.fv++(l.fv++h.fv),false,λhv hd hf k=>by
 obtain ⟨d,e1,hf⟩:=obb hf;obtain ⟨lo,e2,hf⟩:=obb hf;obtain ⟨hi,e3,hf⟩:=obb hf;refine a.ok hv.l hd e1 λx' G1 E1 D1 _=>l.ok (hv.r.l.up E1) (hd.up E1) e2 λG2 E2=>h.ok (hv.r.r.up (E1.trans E2)) (hd.up (E1.trans E2)) e3 λG3 E3=>?_;have E:=(E1.trans E2).trans E3;have D3:=(D1.up (zY E2)).up (zY E3);unfold qlO at hf;cases D3 with
 |str s=>
  simp only [cif] at hf;split at hf
  ·rename_i c;cases hf;exact ⟨c,k _ _ E (.str _) (λz=>by cases z)⟩
  ·cases hf
 |_=>simp at hf⟩
def qdN {te:TE3} {tl th:TO3} {a:PuE te} {l:PuO tl} {h:PuO th} {ρ:Rho}:(qmK a l h).f ρ=(a.f ρ).bind λd=>(l.f ρ).bind λlo=>(h.f ρ).bind λhi=>qlO d lo hi:=id rfl
def NM {te:TE3} {tl th:TO3} {a:PuE te} {l:PuO tl} {h:PuO th}:(qmK a l h).nw=false:=id rfl
open Bk (Lf Ext)
end Pu
namespace Pu
open PySem L2 L3
section
variable {D:Addr->Prop} {G0 G G':Gp} {A A':Nat->Option Addr} {τ:St3} {ρ:Rho}
end
def CO:List PyData->Option (List Str)
 |[]=>some []
 |.str i::r=>(CO r).map (i::·)
 |_=>none
def RC (ns:List Str):CO (ns.map PyData.str)=some ns:=by
 induction ns with
 |nil=>rfl
 |cons n r ih=>simp [CO,ih]
def WO:∀ {xs:List PyData} {ns:List Str},CO xs=some ns->xs=ns.map PyData.str
 |[],_,h=>by simp [CO] at h;subst h;rfl
 |x::r,ns,h=>by
  unfold CO at h;split at h
  ·cases h;assumption
  ·rename_i a b c;obtain ⟨ms,e,rfl⟩:=Option.map_eq_some_iff.mp h;cases c;rw [map_cons,← WO e]
  ·cases h
def XR {G:Gp}:∀ {ys:List Str} {xs:List T},Dqs G xs (ys.map PyData.str)->xs=ys.map T.str
 |[],_,h=>by cases h;rfl
 |y::ys,_,h=>by
  cases h with
  |cons a b=>cases a;rw [XR b];rfl
def LL (d:PyData) (es:List PyData):Option PyData:=match d,es with
 |.str sep,[.list ds]=>(CO ds).bind λys=>cif (SN sep ys) (some (.str (Txt.join sep ys))) none
 |_,_=>none
def NX {te:TE3} {t:TA3} (b:PuE te) (a:PuA t):PuE (LN XS te t):=⟨λρ=>(b.f ρ).bind λd=>(a.f ρ).bind λes=>LL d es,b.fv++a.fv,false,λhv hd hf k=>by
 obtain ⟨d,e1,hf⟩:=obb hf;obtain ⟨es,e2,hf⟩:=obb hf;unfold LL at hf;split at hf
 ·obtain ⟨ys,e3,hf⟩:=obb hf;unfold cif at hf;split at hf
  ·rename_i hk;cases hf;have:=WO e3;subst this;refine b.ok hv.l hd e1 λx G1 E1 D1 _=>?_;cases D1;refine ⟨trivial,a.ok (hv.r.up E1) (hd.up E1) e2 λzs G2 E2 D2=>?_⟩;cases D2 with
   |cons y1 y2=>
    cases y2;cases y1 with
    |lst g hs=>
     have:=XR hs;subst this;simp only [XS,qW (qy g).2,NF];exact ⟨hk,k _ _ (E1.trans E2) (.str _) (λz=>by cases z)⟩
  ·cases hf
 ·cases hf⟩
def R4 {te:TE3} {t:TA3} {b:PuE te} {a:PuA t}:(NX b a).f=λρ=>(b.f ρ).bind λd=>(a.f ρ).bind λes=>LL d es:=id rfl
def qcn {te:TE3} {t:TA3} {b:PuE te} {a:PuA t}:(NX b a).nw=false:=id rfl
def W4 {sep:Str} {ys:List Str} (h:SN sep ys):LL (.str sep) [.list (ys.map PyData.str)]=some (.str (Txt.join sep ys)):=by
 simp only [LL,RC,Option.bind_some];exact za h
def RY:List Str->Str
 |[]=>Str.empty
 |x::r=>x++RY r
structure PuF (ps:List (Str ⊕ TE3)) where
 f:Rho->Option (List Str)
 fv:List Nat
 ok:∀ {D τ ρ G} {q:Q3} {xs:List Str} (acc:Str),DL fv D G τ ρ->Dom D G->f ρ=some xs->(acc++RY xs).length<=sizeLine->(∀ G',Ex G G'->q (.str (acc++RY xs)) G')->fs3 ps acc τ G q
def qio:PuF []:=⟨λ_=>some [],[],λacc _ _ hf hl k=>by
 cases hf;unfold RY at hl k;rw [Str.append_empty] at hl k;exact ⟨hl,k _ Ex.refl⟩⟩
def qlf {ps:List (Str ⊕ TE3)} (x:Str) (r:PuF ps):PuF (.inl x::ps):=⟨λρ=>(r.f ρ).map (x::·),r.fv,λacc hv hd hf hl k=>by
 obtain ⟨xs,e,rfl⟩:=Option.map_eq_some_iff.mp hf;unfold RY at hl k;rw [← Str.append_assoc] at hl k;refine ⟨by rw [Str.length_append] at hl;omega,r.ok (acc++x) hv hd e hl k⟩⟩
def qlQ:PyData->Option Str
 |.str y=>some y
 |.int i=>cif (i.natAbs.log2<1920) (some (Str.ofString (toString i))) none
 |_=>none
def qjf {te:TE3} {ps:List (Str ⊕ TE3)} (a:PuE te) (r:PuF ps):PuF (.inr te::ps):=⟨λρ=>(a.f ρ).bind λd=>(qlQ d).bind λy=>(r.f ρ).map (y::·),a.fv++r.fv,λ{D τ ρ G q xs} acc hv hd hf hl k=>by
 obtain ⟨d,e1,hf⟩:=obb hf;obtain ⟨y,e2,hf⟩:=obb hf;obtain ⟨xs,e3,rfl⟩:=Option.map_eq_some_iff.mp hf;unfold RY at hl k;rw [← Str.append_assoc] at hl k;have hl2:(acc++y).length<=sizeLine:=by rw [Str.length_append] at hl;omega
 refine a.ok hv.l hd e1 λx G1 E1 D1 _=>?_;unfold qlQ at e2;split at e2
 ·cases e2;cases D1;exact ⟨by rw [Str.length_append] at hl2;omega,hl2,r.ok _ (hv.r.up E1) (hd.up E1) e3 hl λG' E=>k G' (E1.trans E)⟩
 ·unfold cif at e2;split at e2
  ·rename_i c;cases e2;cases D1;exact ⟨c,hl2,r.ok _ (hv.r.up E1) (hd.up E1) e3 hl λG' E=>k G' (E1.trans E)⟩
  ·cases e2
 ·cases e2⟩
def bFs {ps:List (Str ⊕ TE3)} (p:PuF ps):PuE (fs3 ps Str.empty):=⟨λρ=>(p.f ρ).bind λxs=>cif ((RY xs).length<=sizeLine) (some (.str (RY xs))) none,p.fv,false,λhv hd hf k=>by
 obtain ⟨xs,e,hf⟩:=obb hf;unfold cif at hf;split at hf
 ·rename_i c;cases hf;exact p.ok Str.empty hv hd e (by rw [Str.empty_append];exact c) λG' E=>by rw [Str.empty_append];exact k _ _ E (.str _) (λz=>by cases z)
 ·cases hf⟩
def qmu {ps:List (Str ⊕ TE3)} {p:PuF ps}:(bFs p).f=λρ=>(p.f ρ).bind λxs=>cif ((RY xs).length<=sizeLine) (some (.str (RY xs))) none:=id rfl
def qfk {ρ:Rho}:qio.f ρ=some []:=id rfl
def qfe {ps:List (Str ⊕ TE3)} {x:Str} {r:PuF ps} {ρ:Rho}:(qlf x r).f ρ=(r.f ρ).map (x::·):=id rfl
def qe2 {te:TE3} {ps:List (Str ⊕ TE3)} {a:PuE te} {r:PuF ps} {ρ:Rho}:(qjf a r).f ρ=(a.f ρ).bind λd=>(qlQ d).bind λy=>(r.f ρ).map (y::·):=id rfl
def qnh {y:Str}:qlQ (.str y)=some y:=id rfl
def UW (d:PyData) (es:List PyData):Option PyData:=match d,es with
 |.str a,[.str b]=>some (.bool (Txt.startswith a b))
 |_,_=>none
def qbi {te:TE3} {t:TA3} (b:PuE te) (a:PuA t):PuE (LN UV te t):=⟨λρ=>(b.f ρ).bind λd=>(a.f ρ).bind λes=>UW d es,b.fv++a.fv,false,λhv hd hf k=>by
 obtain ⟨d,e1,hf⟩:=obb hf;obtain ⟨es,e2,hf⟩:=obb hf;unfold UW at hf;split at hf
 ·cases hf;refine b.ok hv.l hd e1 λx G1 E1 D1 _=>?_;cases D1;refine ⟨trivial,a.ok (hv.r.up E1) (hd.up E1) e2 λzs G2 E2 D2=>?_⟩;cases D2 with
  |cons y1 y2=>
   cases y2;cases y1;exact k _ _ (E1.trans E2) (.bl _) (λz=>by cases z)
 ·cases hf⟩
def C9 {te:TE3} {t:TA3} {b:PuE te} {a:PuA t}:(qbi b a).f=λρ=>(b.f ρ).bind λd=>(a.f ρ).bind λes=>UW d es:=id rfl
def z9 {G:Gp}:∀ (ys:List Str),Dqs G (ys.map T.str) (ys.map PyData.str)
 |[]=>.nil
 |y::ys=>.cons (.str y) (z9 ys)
def WE (d:PyData) (es:List PyData):Option PyData:=match d,es with
 |.str a,[.str b]=>cif (b.length≠0/\a.length+2<=sizeLine) (some (.list ((Txt.split a b).map PyData.str))) none
 |_,_=>none
def qdd {te:TE3} {t:TA3} (b:PuE te) (a:PuA t):PuE (LN RE te t):=⟨λρ=>(b.f ρ).bind λd=>(a.f ρ).bind λes=>WE d es,b.fv++a.fv,false,λhv hd hf k=>by
 obtain ⟨d,e1,hf⟩:=obb hf;obtain ⟨es,e2,hf⟩:=obb hf;unfold WE at hf;split at hf
 ·unfold cif at hf;split at hf
  ·rename_i c;cases hf;refine b.ok hv.l hd e1 λx G1 E1 D1 _=>?_;cases D1;refine ⟨trivial,a.ok (hv.r.up E1) (hd.up E1) e2 λzs G2 E2 D2=>?_⟩;cases D2 with
   |cons y1 y2=>
    cases y2;cases y1;exact ⟨c.1,c.2,λp hp=>k _ _ ((E1.trans E2).trans (jD hp)) (JN ((hd.up E1).up E2) hp (z9 _)) (λz=>by cases z)⟩
  ·cases hf
 ·cases hf⟩
def T9 {te:TE3} {t:TA3} {b:PuE te} {a:PuA t}:(qdd b a).f=λρ=>(b.f ρ).bind λd=>(a.f ρ).bind λes=>WE d es:=id rfl
def SY {a b:Str} (h1:b.length≠0) (h2:a.length+2<=sizeLine):WE (.str a) [.str b]=some (.list ((Txt.split a b).map PyData.str)):=za ⟨h1,h2⟩
def qlM (d e:PyData):Option PyData:=match d,e with
 |.str a,.str b=>some (.bool (Txt.contains b a))
 |_,_=>none
def qe7:OpD qly:=⟨qlM,false,λ{D G x y d e v q} hx hy hd hf k=>by
 unfold qlM at hf;split at hf
 ·cases hf;cases hx;cases hy;exact k _ _ Ex.refl (.bl _) (λz=>by cases z)
 ·cases hf⟩
def XU:qe7.f=qlM:=id rfl
def qbc:List PyData->Option PyData
 |[.str x]=>if x.length<=640 then (PySem.intText? x).map PyData.int else none
 |_=>none
def qf0:FnD qcx:=⟨qbc,false,λ{D G xs ds v q} hx hd hf k=>by
 unfold qbc at hf;split at hf
 ·split at hf
  ·rename_i c;obtain ⟨n,e,rfl⟩:=Option.map_eq_some_iff.mp hf;cases hx with
   |cons a b=>
    cases b;cases a;exact ⟨c,n,e,k _ _ Ex.refl (.int _) (λz=>by cases z)⟩
  ·cases hf
 ·cases hf⟩
def qaI:qf0.f=qbc:=id rfl
def T8:qf0.nw=false:=id rfl
def V2 (x:Str):List Str:=x.cps.toList.map λc=>⟨#[c]⟩
def qlL:PyData->Option (List PyData)
 |.str x=>if x.cps.all (·<128)=true then some ((V2 x).map PyData.str) else none
 |_=>none
def qbV (x:Str):VY x=(V2 x).map T.str:=by simp [VY,V2]
def ql4 {t:TE3} (a:PuE t):PuI (qfZ t):=⟨λρ=>(a.f ρ).bind qlL,a.fv,false,λhv hd hf k=>by
 obtain ⟨d,e1,hf⟩:=obb hf;unfold qlL at hf;split at hf
 ·split at hf
  ·rename_i c;cases hf;refine a.ok hv hd e1 λx G1 E1 D1 _=>?_;cases D1;refine ⟨c,?_⟩;rw [qbV];exact k _ _ _ E1 (z9 _) (λ_ _=>trivial) (λz=>by cases z)
  ·cases hf
 ·cases hf⟩
def KF {t:TE3} {a:PuE t}:(ql4 a).f=λρ=>(a.f ρ).bind qlL:=id rfl
def qaq:PyData->Option (List PyData)
 |.list (d::ds)=>if ds.length<16384 then some [d,.list ds] else none
 |_=>none
def qkh {t:TE3} (a:PuE t) (i j:Nat) (m:List Bool) (hm:Tru (a.fv.all (mkb m))):PuS (jc t (TH (zL (gn3 i) (zL (gn3 j) UA)))):=⟨λ_ ρ=>(a.f ρ).bind λd=>(qaq d).bind λds=>match ds with|[x,y]=>some (.nx (((dm m ρ).set i (.sh x)).set j (.sh y)))|_=>none,λ{D G0 A τ ρ G n o e} h hf k=>by
 obtain ⟨d,e1,hf⟩:=obb hf;obtain ⟨ds,e2,hf⟩:=obb hf;unfold qaq at e2;split at e2
 ·rename_i d0 dr;split at e2
  ·rename_i c;cases e2;cases hf;refine a.ok (h.viewD hm) (h.dem m).dom e1 λx G1 E1 D1 N1=>?_;cases D1 with
   |lst g hs=>
    cases hs with
    |cons y1 ys=>
     rename_i x0 xr;simp only [TH,qW (qy g).2];refine ⟨by rw [ys.length];exact c,λl hl=>?_⟩;have hd1:=(h.dem m).dom.up E1;have E2:=E1.trans (jD (o:=.lst xr) hl);exact k _ _ _ ((((h.dem m).up E2).put i (y1.up (zY (jD hl)))).put j ((JN hd1 hl ys).up qfJ))
  ·cases e2
 ·cases e2⟩
def qbb {t:TE3} {a:PuE t} {i j:Nat} {m:List Bool} {hm:Tru (a.fv.all (mkb m))}:(qkh a i j m hm).f=λ_ ρ=>(a.f ρ).bind λd=>(qaq d).bind λds=>match ds with|[x,y]=>some (.nx (((dm m ρ).set i (.sh x)).set j (.sh y)))|_=>none:=id rfl
def qkd (R:TS3):TS3:=zd (jc (VX (qc (VX qk) qk)) (gn3 1)) (zd (C6 (Q9 (v3 0)) (gn3 2) (jx (tb3 (o3 (zK false) (v3 2) (c3 (.str "/")))) (E6 (bm3 MC (v3 1) (qc (VX qk) qk))) (E6 (bm3 MC (o3 ix3 (v3 1) (u3 qeo (c3 (.int 1)))) (qc (v3 2) qk))))) R)
def ZY:List Str->List (List Str)->List Str->List (List Str)
 |[],acc,cur=>acc++[cur]
 |w::ws,acc,cur=>if w="/" then ZY ws (acc++[cur]) [] else ZY ws acc (cur++[w])
abbrev wsD (ys:List Str):PyData:=.list (ys.map PyData.str)
def qaP {R:TS3} (c:PuS R):List PyData->Option PyData
 |[.list ds]=>(CO ds).bind λws=>cif (ws.length<=100000) (match c.f 1000000000 [.sh (.list ds),.sh (.list ((ZY ws [] []).map wsD)),.un] with|some (.rt d _)=>some d|_=>none) none
 |_=>none
structure RwI (G G':Gp) (ws:List Str) (i:Nat) (p:Addr):Prop where
 ex:Ex G G'
 gp:G p=none
 rw:∃ xa rl acc cur,G' p=some (.lst (xa++[.ref rl]))/\rl≠p/\G rl=none/\G' rl=some (.lst (cur.map T.str))/\Dqs (rs (λb=>b=p\/b=rl\/G b≠none) G') xa (acc.map wsD)/\ZY (ws.drop i) acc cur=ZY ws [] []/\xa.length<=i/\cur.length<=i
def RW {w:Str} {ws:List Str} {acc:List (List Str)} {cur:List Str}:ZY (w::ws) acc cur=if w="/" then ZY ws (acc++[cur]) [] else ZY ws acc (cur++[w]):=id rfl
def qe6 {xa:List T} {x:T}:atI (xa++[x]) (-1)=some x:=by
 have h:ixN (xa++[x]).length (-1)=some xa.length:=by
  unfold ixN;rw [if_neg (by decide),if_pos (by simp;omega)];simp
  try omega
 unfold atI;rw [h];simp
def M5 {R:TS3} (c:PuS R) (N:List Str) (hN:N.length=3):∀ ts G q,PSp (qaP c) false ts G q->ts.length=1/\qkd R { nx:=λ_ G'=>q .non G',rt:=q } (qx N ts) G:=by
 rintro ts G q ⟨D,ds,d,hs,hd,hf,h⟩;unfold qaP at hf;split at hf
 ·rename_i ds';obtain ⟨ws,e1,hf⟩:=obb hf;unfold cif at hf;split at hf
  ·rename_i hw;have:=WO e1;subst this;cases hs with
   |cons a b=>
    cases b;rename_i t0;refine ⟨rfl,?_⟩;have s0:qx N [t0]=[some t0,none,none]:=by
     match N,hN with
     |[_,_,_],_=>rfl
    rw [s0];unfold qkd zd;simp only [jc,VX,qc,qk,gn3,set_cons_succ,set_cons_zero];refine ⟨by decide,λl hl=>⟨by rw [sizeLine_eq];simp,λp hp=>?_⟩⟩;have lp:l≠p:=by rintro rfl;rw [qz] at hp;cases hp
    have gl:G p=none:=by rw [zm (Ne.symm lp)] at hp;exact hp
    cases a with
    |lst g hs'=>
     have:=XR hs';subst this;rename_i pa;have ga:=(qy g).2;have pl:pa≠l:=by rintro rfl;rw [ga] at hl;cases hl
     have pp:pa≠p:=by rintro rfl;rw [ga] at gl;cases gl
     have E0:Ex G (gu (gu G l (.lst [])) p (.lst [.ref l])):=(jD hl).trans (jD hp);simp only [C6,Q9,v3,getElem?_cons_zero,qW (E0 _ _ ga)];refine UX _ (λi τ G'=>∃ s2,τ=[some (.ref pa),some (.ref p),s2]/\RwI G G' ws i p) ⟨none,rfl,E0,gl,[],l,[],[],qz,lp,hl,by rw [zm lp,qz];rfl,.nil,rfl,Nat.zero_le _,Nat.zero_le _⟩ ?_ ?_ ?_
     ·rintro i τ G' _ ⟨s2,rfl,I⟩;exact qW (I.ex _ _ ga)
     ·rintro i x τ G' nx hx ⟨s2,rfl,I⟩ hn;rw [getElem?_map] at hx;obtain ⟨w,hw1,rfl⟩:=Option.map_eq_some_iff.mp hx;have hi:=(List.getElem?_eq_some_iff.mp hw1).1;have hdr:ws.drop i=w::ws.drop (i+1):=by
       rw [List.drop_eq_getElem_cons hi];have:=(List.getElem?_eq_some_iff.mp hw1).2;rw [this]
      obtain ⟨E,gp,xa,rl,acc,cur,g1,n1,f1,g2,fz,er,lx,lc⟩:=I;rw [hdr] at er;rw [RW] at er;show jx _ _ _ _ [some (.ref pa),some (.ref p),some (.str w)] G';simp only [jx,tb3,o3,v3,c3,zK,ZK,getElem?_cons_zero,getElem?_cons_succ];by_cases hc:w="/"
      ·rw [if_pos hc] at er;simp only [hc,decide_true,if_true,Bool.false_eq_true,if_false,E6,bm3,v3,MC,qc,VX,qk,getElem?_cons_succ,getElem?_cons_zero,qW g1];refine ⟨rfl,by decide,λl' hl'=>?_⟩;have l1:l'≠p:=by rintro rfl;rw [g1] at hl';cases hl'
       have l2:l'≠rl:=by rintro rfl;rw [g2] at hl';cases hl'
       have l0:G l'=none:=by
        cases z:G l' with
        |none=>rfl
        |some o=>rw [E _ _ z] at hl';cases hl'
       simp only [zm (Ne.symm l1),g1];refine ⟨by rw [sizeLine_eq];simp;omega,hn _ _ ⟨_,rfl,?_⟩⟩;refine ⟨λb o z=>?_,gp,xa++[.ref rl],l',acc++[cur],[],qz,l1,l0,by rw [zm l1,qz];rfl,?_,er,by simp;omega,Nat.zero_le _⟩
       ·have b1:b≠p:=by rintro rfl;rw [gp] at z;cases z
        have b2:b≠l':=by rintro rfl;rw [l0] at z;cases z
        rw [zm b1,zm b2];exact E _ _ z
       ·rw [List.map_append];refine Dqs.append (fz.up λb o z=>?_) (.cons (.lst (xs:=cur.map T.str) ?_ (z9 _)) .nil)
        ·obtain ⟨z1,z2⟩:=qy z;have b2:b≠l':=by rintro rfl;rw [z2] at hl';cases hl'
         rw [zI (λy=>?_),zm (λy=>z1 (.inl y)),zm b2]
         ·exact z2
         ·rcases y with y|y|y
          ·exact z1 (.inl y)
          ·exact b2 y
          ·exact z1 (.inr (.inr y))
        ·rw [zI (λy=>?_),zm n1,zm (Ne.symm l2)]
         ·exact g2
         ·rcases y with y|y|y
          ·exact n1 y
          ·exact l2 y.symm
          ·exact y f1
      ·rw [if_neg hc] at er;simp only [hc,decide_false,if_false,Bool.false_eq_true,E6,bm3,v3,MC,qc,o3,ix3,u3,qeo,c3,qk,getElem?_cons_succ,getElem?_cons_zero,qW g1,qe6,qW g2,g2];refine ⟨rfl,by rw [sizeLine_eq];simp;omega,hn _ _ ⟨_,rfl,?_⟩⟩;refine ⟨λb o z=>?_,gp,xa,rl,acc,cur++[w],by rw [zm (Ne.symm n1)];exact g1,n1,f1,by rw [qz];simp,?_,er,by omega,by simp;omega⟩
       ·have b1:b≠rl:=by rintro rfl;rw [f1] at z;cases z
        rw [zm b1];exact E _ _ z
       ·refine fz.up λb o z=>?_;obtain ⟨z1,z2⟩:=qy z;rw [zI z1,zm (λy=>z1 (.inr (.inl y)))];exact z2
     ·rintro τ G' ⟨s2,rfl,I⟩;obtain ⟨E,gp,xa,rl,acc,cur,g1,n1,f1,g2,fz,er,lx,lc⟩:=I;rw [length_map,List.drop_length] at er;have nD:∀ b,G b=none->¬ D b:=λb z y=>hd b y z;have dqp:Dq (rs D G') (.ref p) (.list ((ZY ws [] []).map wsD)):=by
       rw [← er];show Dq _ _ (.list ((acc++[cur]).map wsD));rw [List.map_append];refine .lst (by rw [zI (nD _ gp)];exact g1) (Dqs.append (fz.up λb o z=>?_) (.cons (.lst (by rw [zI (nD _ f1)];exact g2) (z9 _)) .nil));obtain ⟨z1,z2⟩:=qy z;rw [zI (λy=>z1 (.inr (.inr (hd b y))))];exact z2
      have r:RS D G (λ_=>none) [some (.ref pa),some (.ref p),s2] [.sh (.list (ws.map PyData.str)),.sh (.list ((ZY ws [] []).map wsD)),.un] G':=by
       have AN:AD D (λ_=>none)=D:=by
        funext b;exact propext ⟨λz=>z.elim id λ⟨_,y⟩=>(by cases y),.inl⟩
       refine ⟨E,hd,(λi p e=>by cases e),(λi p e=>by cases e),(λi j p e=>by cases e),rfl,λi d' e=>?_,λi es e=>?_,λi es e=>?_⟩
       ·rw [AN]
        match i,e with
        |0,e=>cases e;exact ⟨_,rfl,.lst (by rw [zI (qy g).1];exact E _ _ ga) (z9 _)⟩
        |1,e=>cases e;exact ⟨_,rfl,dqp⟩
        |2,e=>cases e
       ·match i,e with
        |0,e=>cases e
        |1,e=>cases e
        |2,e=>cases e
       ·match i,e with
        |0,e=>cases e
        |1,e=>cases e
        |2,e=>cases e
      split at hf
      ·rename_i d' fr' hc;cases hf;exact c.ok r hc λx G2 E2 D2 _=>h x G2 E2 D2 (λz=>by cases z)
      ·cases hf
  ·cases hf
 ·cases hf
open Bk (Lf Ext)
end Pu
namespace Pu
open PySem L2 L3
end Pu
namespace Pv
open PySem L2 L3 Pu
open Bk (Wk YF qF zQ lnD lnA)
def EC {d a:Int} {m:Nat} (hd:-1000<=d/\d<=1000) (ha:-1000<=a/\a<=1000) (hm:m<=10000):zn [.int d,.int a,.int m]=some (.list ((YF d a m).map pD)):=by
 rw [qaO]
 try simp only [Pu.pwA,UJ]
 rw [J8 (ds:=(KS 0 m).map PyData.int) (fs:=(YF d a m).map pD)]
 ·try simp only [Pu.pwA]
 ·try simp (disch:=omega) only [Pu.pwA,qlT,Int.toNat_natCast]
 ·have:YF d a m=(KS 0 m).map λi=>(i*d,i*a):=by simp [YF,KS,map_map,Function.comp_def]
  rw [this,map_map];refine QC λi hi=>?_
  try simp (disch:=omega) only [Pu.pwA,U1,qlb,Function.comp_def,pD]
 ·simp [YF];omega
def Big:Wk->Prop
 |.line k m=>k<4/\m<=1000
 |.block h w=>h<=1000/\w<=1000
 |.step d a m=>(-1000<=d/\d<=1000)/\(-1000<=a/\a<=1000)/\m<=1000
 |.cells ps=>ps.length<=1000
def D7 {w:Wk} (ok:Big w):qH [Wk.d w]=some (.list (w.pc.map pD)):=by
 cases w with
 |cells ps=>
  rw [Q0]
  try simp only [Pu.pwA,jd,Wk.d,eq_self,Wk.pc]
 |block h v=>
  obtain ⟨h1,h2⟩:=ok;rw [Q0]
  try simp only [Pu.pwA,jd,Wk.d,eq_self,L3.DB,Wk.pc]
  rw [qbd (ds:=(KS 0 h).map PyData.int) (fs:=(qF h v).map pD)]
  ·try simp only [Pu.pwA]
  ·try simp (disch:=omega) only [Pu.pwA,qlT,Int.toNat_natCast]
  ·have:(qF h v).map pD=(KS 0 h).flatMap λp=>(KS 0 v).map λq=>pD (p,q):=by
    simp only [qF,KS,List.map_flatMap,map_map,List.flatMap_map,Function.comp_def,Int.zero_add]
   rw [this];refine S4 λp hp=>?_
   try simp (disch:=omega) only [Pu.pwA,qd6,qlT,Int.toNat_natCast]
   rw [QC (k:=λq=>pD (p,q)) λq hq=>?_]
   ·try simp only [Pu.pwA]
   ·try simp only [Pu.pwA,U1,pD]
  ·have:=Nat.mul_le_mul h1 h2;rw [length_map,Bk.qa7];omega
 |step d a m=>
  obtain ⟨h1,h2,h3⟩:=ok;rw [Q0]
  try simp only [Pu.pwA,jd,Wk.d,eq_self,L3.XM,L3.J3,Wk.pc,EC h1 h2 (show m<=10000 by omega)]
 |line k m=>
  obtain ⟨h1,h2⟩:=ok;have key:∀ (s:Str) (d a:Int),¬ s=Str.ofString "cells" -> ¬ s=Str.ofString "block" -> ¬ s=Str.ofString "step" -> (-1000<=d/\d<=1000)->(-1000<=a/\a<=1000)->(zS zE s).bind tD=some (.tuple [.int d,.int a])->qH [.tuple [.str s,.int (m:Int)]]=some (.list ((YF d a m).map pD)):=by
   intro s d a n1 n2 n3 hd ha e;rw [Q0]
   try simp only [Pu.pwA,jd,n1,n2,n3,e,EC (d:=d) (a:=a) (m:=m) hd ha (by omega)]
  have:(k=0\/k=1\/k=2\/k=3):=by omega
  rcases this with rfl|rfl|rfl|rfl
  ·exact key "row" 0 1 L3.RA L3.RG L3.RM (by decide) (by decide) rfl
  ·exact key "column" 1 0 L3.EU L3.U4 L3.DI (by decide) (by decide) rfl
  ·exact key "slant" 1 1 L3.DA L3.E9 L3.WI (by decide) (by decide) rfl
  ·exact key "back" 1 (-1) L3.XD L3.WT L3.C0 (by decide) (by decide) rfl
end Pv
namespace Pv
open PySem L2 L3 Pu
end Pv
namespace Hd
open PySem L2 L3 PySem.W
def oF (x:Str) (st:Stmt) (pm cd:Value):Obj:=⟨.type "function",none,.func (PySem.W.fnOf x x (Q7 st) (zP st) (qh st) .none .none .none pm none cd .none),#[]⟩
def oG (x:Str) (st:Stmt):Obj:=⟨.none,none,.func { name:=x,qualname:=x,params:=Q7 st,body:=.stmts (zP st),scope:=qh st,globals:=0,closure:=[],defaults:=.none,kwdefaults:=.none },#[]⟩
def oC (vs:List Value):Obj:=⟨.type "code",none,.fields vs.toArray,#[]⟩
def oT (vs:List Value):Obj:=⟨.type "tuple",none,.seq vs.toArray 0,#[]⟩
def eD (P:Params):Value×Value->DictEntry
 | (.str x t,v)=>⟨PyData.keyHash P x,.str x t,v⟩
 | (u,v)=>⟨0,u,v⟩
def oD (P:Params) (n:Nat) (es:List (Value×Value)):Obj:=⟨.type "dict",none,.dict (es.map (eD P)).toArray n,#[]⟩
def oK (x:Str) (t l n m:Nat) (a b:Addr) (u v z:Value) (e y q:Nat):Obj:=oC [.str x t,.str x (t+1),.str "/claim/cut.py" (t+2),.int l 0,.int n 0,.int 0 0,.int 0 0,.int 3 0,.ref a,.bool true,.int m 0,.ref b,u,v,z,.ref e,.int y 0,.int l 0,.str "/claim/cut.py" q]
def nmV:List Str->Nat->List Value
 |[],_=>[]
 |x::r,t=>.str x t::nmV r (t+1)
def oN (xs:List Str) (t:Nat):Obj:=oT (nmV xs t)
abbrev nd (o:Obj) (l r:PySem.W.BT):PySem.W.BT:=.node o l r
abbrev lf (o:Obj):PySem.W.BT:=.node o .nil .nil
def js {K:Frg} (x:Str) (st:Stmt) (f:Addr) (pm cd:Value) (l:K.lookup f=some (oF x st pm cd)) (c:PySem.W.codeIn K cd x=true) (k:PySem.W.keepIn K (.ref f)=true) :
  Fun K x x st f (PySem.W.fnOf x x (Q7 st) (zP st) (qh st) .none .none .none pm none cd .none):=qhY l c k
def zV {K:Frg} {h:Heap} {mg:Str->Option Value} (X:K.In h) (G:h.Ns mainGlobals mg) (n:Str) (v:Value) (e:PySem.W.nsIn K mainGlobals n=some (some v)):mg n=some v:=PySem.W.mg_of X G e
def J7 {K:Frg} {h:Heap} {mg:Str->Option Value} (X:K.In h) (G:h.Ns mainGlobals mg) (n:Str) (e:PySem.W.nsIn K mainGlobals n=some none):mg n=none:=PySem.W.mg_none_of X G e
def head {l:OpenLaw} {q:Program} {loose:List Str} {K:Params->Frag} {as:List Addr} {d:DefRec} {N:Nat} {k:Nat} {x:Str} (ha:∀ P,as=(K P).map (·.1))
  (ok:l.wellSaid=true)
  (left:LeftO l.prog q loose (λs=>xlAt q [] s&&recOk [] s) (λs=>as.map s.heap.get?) (λw=>(K w.params).map λp=>some p.2) N)
  (hdef:defOf q l.name=some (d,[])) (hp:l.prog.theDef l.name=some (d.params,d.body,d.scope)) (hk:kwWritten? d.params.kwonlyargs d.params.kw_defaults=some [])
  (hwr:(!l.row.writes||l.row.records.isEmpty)=true) (ok2:(chainsOk q&&opensWell l.prog&&(frees l.row.toRowW&&l.row.within.isEmpty))=true) (hb:l.prog.bare) (hw:l.row.toRowW.promised)
  (hn:l.most=some 63) (hdf:d.params.defaults=[]) (hr:Room k callerA) (hK:∀ w:World,VS (K w.params)=true)
  (F:∀ (w:World) (mg:Str->Option Value) (fa:Addr) (h:Heap),(K w.params).In h->h.Ns mainGlobals mg->mg d.name=some (.ref fa) ->
   ∃ fd:FuncData,(∀ (s:Shared) (u:Value),BindsTo s fd ⟨[u],[]⟩ [(x,u)])/\∀ base:Heap,(K w.params).In base->base.Ns mainGlobals mg->FnOk l.prog w (K w.params) mg base CX0 k fa fd [x] (lSp (K w.params) WB)):l.Holds:=by
 refine holds_law ok λsaid=>?_;exact holds_open (q:=q) (loose:=loose) (Xt:=λs=>xlAt q [] s&&recOk [] s) (XP:=XL q []) (Yf:=Hook.obs (kHook K as ha)) (Ya:=Hook.val (kHook K as ha)) (YP:=Hook.says (kHook K as ha)) (N:=N) left
  (Hook.of (kHook K as ha)) (Hook.keeps (kHook K as ha)) (λs e=>xl_of s (Bool.and_eq_true_iff.mp e).1) XL.keeps hdef hp hk (λs e=>recFacts_of (Bool.and_eq_true_iff.mp e).2) hwr said ok2 hb hw
  (L3.qn8 (l:=l) (k:=k) (x:=x) hn hdf hr (λw h Y=>kIn_of Y) hK F)
end Hd
namespace L3
open PySem PySem.Spec PyProof.Rows L2
end L3
namespace Hd
open PySem PySem.Spec PyProof.Rows L2 L3 PySem.W
end Hd
namespace Pu
open PySem L2 L3
end Pu
namespace K78
open PySem L2 L3 Bk
def top (i : Nat) : Stmt := PySem.Challenge.pw_bankwalk_k78_walks_written_and_read.main.body.getD i (.Pass ⟨0,0,0,0⟩)
variable {P:Program} {w:World} {K:Frg} {mg:Str->Option Value} {base:Heap} {f:Addr} {fd:FuncData} {k:Nat} {sp:Sp3}
abbrev jp:Stmt:=top 1
abbrev Q2:List Str:=["thing"]
abbrev JU:List Str:=["thing"]
def CW:FnScope Q2 JU (qh jp):=⟨rfl,rfl,rfl,by decide +kernel,rfl,by decide +kernel,by decide +kernel⟩
def C4 (F:Fun K "is_number" "is_number" jp f fd) (bd:zw K fd JU []) (hm:mg "is_number" = some (.ref f))   (m_isinstance:mg "isinstance" = none) (m_bool:mg "bool" = none) (m_int:mg "int" = none)
  (read:Rd sp 1 (Bk.Q8) Q2):Fn3 P w K mg base (k+1) "is_number" sp:=
 qK (t3:=(Bk.Q8)) F CW bd hm (λcdv A outer s H E hr=>(qp (qt (jC (jY (qb 0) rfl m_isinstance rfl m_int PyProof.Rows.boot_int) (QL (qd8 (jY (qb 0) rfl m_isinstance rfl m_bool PyProof.Rows.boot_bool))))))) read
abbrev zA:Stmt:=top 2
abbrev zW:List Str:=["thing","least"]
abbrev QW:List Str:=["thing","least"]
def DF:FnScope zW QW (qh zA):=⟨rfl,rfl,rfl,by decide +kernel,rfl,by decide +kernel,by decide +kernel⟩
def jF (S_is_number:Sp3):TS3:=(zh (jy (cb3 S_is_number (qc (v3 0) qk)) (o3 (iB λi j=>decide (j<=i)) (v3 0) (v3 1))))
def DG {S_is_number:Sp3} (F:Fun K "is_at_least" "is_at_least" zA f fd) (bd:zw K fd QW []) (hm:mg "is_at_least" = some (.ref f)) (qo:Fn3 P w K mg base k "is_number" S_is_number)  
  (read:Rd sp 2 (jF S_is_number) zW):Fn3 P w K mg base (k+1) "is_at_least" sp:=
 qK (t3:=(jF S_is_number)) F DF bd hm (λcdv A outer s H E hr=>(qp (qt (jC (qi qo hr rfl (qa (qb 0) qd)) (QL (zv qjP YI (qb 0) (qb 1) (qq _))))))) read
abbrev zu:Stmt:=top 3
abbrev jg:List Str:=["things","least"]
abbrev QB:List Str:=["things","least"]
def UT:FnScope jg QB (qh zu):=⟨rfl,rfl,rfl,by decide +kernel,rfl,by decide +kernel,by decide +kernel⟩
def jh (S_is_at_least:Sp3):TS3:=(zh (cb3 qbf (qc (lc3 (Q9 (v3 0)) (gn3 0) tt3 (cb3 S_is_at_least (qc (v3 0) (qc (v3 1) qk))) [none,some 1]) qk)))
def UQ {S_is_at_least:Sp3} (F:Fun K "are_at_least" "are_at_least" zu f fd) (bd:zw K fd QB []) (hm:mg "are_at_least" = some (.ref f)) (qm:Fn3 P w K mg base k "is_at_least" S_is_at_least)  (m_all:mg "all" = none)
  (read:Rd sp 2 (jh S_is_at_least) jg):Fn3 P w K mg base (k+1) "are_at_least" sp:=
 qK (t3:=(jh S_is_at_least)) F UT bd hm (λcdv A outer s H E hr=>(qp (qt (qI (ji rfl) XJ rfl m_all PyProof.Rows.boot_all (qa (DE ["thing","least"] [none,some 1] rfl (Z6 (qb 0)) (λ_ _ _=>(jgn 0)) (λ_ _ _=>j4) (λ_ _ _=>(qi qm hr rfl (qa (qb 0) (qa (qb 1) qd)))) (by kernel_rfl) (by kernel_rfl)) qd))))) read
abbrev QI:Stmt:=top 4
abbrev YG:List Str:=["thing"]
abbrev U2:List Str:=["thing"]
def LU:FnScope YG U2 (qh QI):=⟨rfl,rfl,rfl,by decide +kernel,rfl,by decide +kernel,by decide +kernel⟩
def LH {S_is_number:Sp3} (F:Fun K "is_pair" "is_pair" QI f fd) (bd:zw K fd U2 []) (hm:mg "is_pair" = some (.ref f)) (qo:Fn3 P w K mg base k "is_number" S_is_number)  (m_len:mg "len" = none) (m_isinstance:mg "isinstance" = none) (m_tuple:mg "tuple" = none)
  (read:Rd sp 1 (Bk.YJ S_is_number) YG):Fn3 P w K mg base (k+1) "is_pair" sp:=
 qK (t3:=(Bk.YJ S_is_number)) F LU bd hm (λcdv A outer s H E hr=>(qp (qt (jC (jY (qb 0) rfl m_isinstance rfl m_tuple PyProof.Rows.boot_tuple) (jC (zv (qU hr.units) qD (qI zy jf rfl m_len PySem.boot_len (qa (qb 0) qd)) qe (qq _)) (jC (qi qo hr rfl (qa (qP (qb 0) qe) qd)) (QL (qi qo hr rfl (qa (qP (qb 0) qe) qd))))))))) read
abbrev QM:Stmt:=top 11
abbrev YE:List Str:=["thing"]
abbrev EJ:List Str:=["thing"]
def LQ:FnScope YE EJ (qh QM):=⟨rfl,rfl,rfl,by decide +kernel,rfl,by decide +kernel,by decide +kernel⟩
def YD (S_is_number:Sp3) (S_is_at_least:Sp3):TS3:=(zd (jx (or3 (tb3 (o3 (zK true) (cb3 U8 (qc (v3 0) qk)) (c3 (.int 4)))) (or3 (RV (tb3 (cb3 S_is_number (qc (o3 ix3 (v3 0) (c3 (.int 1))) qk)))) (RV (tb3 (cb3 S_is_number (qc (o3 ix3 (v3 0) (c3 (.int 2))) qk)))))) (zh (c3 (.bl false))) qS) (zh (jy (qlK (o3 (zK true) (o3 ix3 (v3 0) (c3 (.int 1))) (c3 (.int 0))) (o3 (zK true) (o3 ix3 (v3 0) (c3 (.int 2))) (c3 (.int 0)))) (cb3 S_is_at_least (qc (o3 ix3 (v3 0) (c3 (.int 3))) (qc (c3 (.int 1)) qk))))))
def K8 {S_is_number:Sp3} {S_is_at_least:Sp3} (F:Fun K "is_step" "is_step" QM f fd) (bd:zw K fd EJ []) (hm:mg "is_step" = some (.ref f)) (qo:Fn3 P w K mg base k "is_number" S_is_number) (qm:Fn3 P w K mg base k "is_at_least" S_is_at_least)  (m_len:mg "len" = none)
  (read:Rd sp 1 (YD S_is_number S_is_at_least) YE):Fn3 P w K mg base (k+1) "is_step" sp:=
 qK (t3:=(YD S_is_number S_is_at_least)) F LQ bd hm (λcdv A outer s H E hr=>(qj (zU (jpt (V8 (qR (Z1 hr.units) jR (qI zy jf rfl m_len PySem.boot_len (qa (qb 0) qd)) qe (qq _)) (V8 (ZM (QJ (qi qo hr rfl (qa (qP (qb 0) qe) qd)))) (V0 (ZM (QJ (qi qo hr rfl (qa (qP (qb 0) qe) qd)))))))) (qp (qt XO)) qY) (qp (qt (jC (qmC (zv (Z1 hr.units) jR (qP (qb 0) qe) qe (qq _)) (QL (zv (Z1 hr.units) jR (qP (qb 0) qe) qe (qq _)))) (QL (qi qm hr rfl (qa (qP (qb 0) qe) (qa qe qd))))))))) read
abbrev jU:Stmt:=top 12
abbrev je:List Str:=["thing"]
abbrev Y9:List Str:=["thing"]
def R6:FnScope je Y9 (qh jU):=⟨rfl,rfl,rfl,by decide +kernel,rfl,by decide +kernel,by decide +kernel⟩
def JC (S_is_pair:Sp3):TS3:=(zd (jx (or3 (tb3 (o3 (zK true) (cb3 U8 (qc (v3 0) qk)) (c3 (.int 2)))) (or3 (RV (tb3 (EX (λt=>j2 t "tuple") (o3 ix3 (v3 0) (c3 (.int 1)))))) (tb3 (o3 (zK false) (cb3 U8 (qc (o3 ix3 (v3 0) (c3 (.int 1))) qk)) (c3 (.int 0)))))) (zh (c3 (.bl false))) qS) (zd (jx (RV (tb3 (cb3 qbf (qc (lc3 (Q9 (o3 ix3 (v3 0) (c3 (.int 1)))) (gn3 0) tt3 (cb3 S_is_pair (qc (v3 0) qk)) [none]) qk)))) (zh (c3 (.bl false))) qS) (zh (o3 (zK false) (qao (o3 ix3 (v3 0) (c3 (.int 1)))) (cb3 U8 (qc (o3 ix3 (v3 0) (c3 (.int 1))) qk))))))
def R5 {S_is_pair:Sp3} (F:Fun K "is_cells" "is_cells" jU f fd) (bd:zw K fd Y9 []) (hm:mg "is_cells" = some (.ref f)) (jr:Fn3 P w K mg base k "is_pair" S_is_pair)  (m_len:mg "len" = none) (m_isinstance:mg "isinstance" = none) (m_tuple:mg "tuple" = none) (m_all:mg "all" = none) (m_set:mg "set" = none)
  (read:Rd sp 1 (JC S_is_pair) je):Fn3 P w K mg base (k+1) "is_cells" sp:=
 qK (t3:=(JC S_is_pair)) F R6 bd hm (λcdv A outer s H E hr=>(qj (zU (jpt (V8 (qR (Z1 hr.units) jR (qI zy jf rfl m_len PySem.boot_len (qa (qb 0) qd)) qe (qq _)) (V8 (ZM (QJ (jY (qP (qb 0) qe) rfl m_isinstance rfl m_tuple PyProof.Rows.boot_tuple))) (V0 (qR (qU hr.units) qD (qI zy jf rfl m_len PySem.boot_len (qa (qP (qb 0) qe) qd)) qe (qq _)))))) (qp (qt XO)) qY) (qj (zU (ZM (QJ (qI (ji rfl) XJ rfl m_all PyProof.Rows.boot_all (qa (DE ["cell"] [none] rfl (Z6 (qP (qb 0) qe)) (λ_ _ _=>(jgn 0)) (λ_ _ _=>j4) (λ_ _ _=>(qi jr hr rfl (qa (qb 0) qd))) (by kernel_rfl) (by kernel_rfl)) qd)))) (qp (qt XO)) qY) (qp (qt (zv (qU hr.units) qD (KU rfl hr.units rfl m_len rfl m_set (qP (qb 0) qe)) (qI zy jf rfl m_len PySem.boot_len (qa (qP (qb 0) qe) qd)) (qq _))))))) read
abbrev QP:Stmt:=top 13
abbrev Z2:List Str:=["thing","kind"]
abbrev UY:List Str:=["thing"]
def D8:FnScope Z2 UY (qh QP):=⟨rfl,rfl,rfl,by decide +kernel,rfl,by decide +kernel,by decide +kernel⟩
def J0 (S_is_at_least:Sp3) (S_are_at_least:Sp3) (S_is_step:Sp3) (S_is_cells:Sp3):TS3:=(zd (jx (or3 (RV (tb3 (EX (λt=>j2 t "tuple") (v3 0)))) (or3 (tb3 (o3 (zK false) (cb3 U8 (qc (v3 0) qk)) (c3 (.int 0)))) (RV (tb3 (EX (λt=>j2 t "str") (o3 ix3 (v3 0) (c3 (.int 0)))))))) (zh (c3 (.bl false))) qS) (zd (jc (o3 ix3 (v3 0) (c3 (.int 0))) (gn3 1)) (zd (jx (tb3 (qlY zE (v3 1))) (zh (jy (o3 (zK false) (cb3 U8 (qc (v3 0) qk)) (c3 (.int 2))) (cb3 S_is_at_least (qc (o3 ix3 (v3 0) (c3 (.int 1))) (qc (c3 (.int 1)) qk))))) qS) (zd (jx (tb3 (o3 (zK false) (v3 1) (c3 (.str "block")))) (zh (jy (o3 (zK false) (cb3 U8 (qc (v3 0) qk)) (c3 (.int 3))) (cb3 S_are_at_least (qc (qlW (v3 0) (sp3 (c3 (.int 1))) np3) (qc (c3 (.int 1)) qk))))) qS) (zd (jx (tb3 (o3 (zK false) (v3 1) (c3 (.str "step")))) (zh (cb3 S_is_step (qc (v3 0) qk))) qS) (zh (jy (o3 (zK false) (v3 1) (c3 (.str "cells"))) (cb3 S_is_cells (qc (v3 0) qk)))))))))
def LF {S_is_at_least:Sp3} {S_are_at_least:Sp3} {S_is_step:Sp3} {S_is_cells:Sp3} (F:Fun K "is_walk" "is_walk" QP f fd) (bd:zw K fd UY []) (hm:mg "is_walk" = some (.ref f)) (qm:Fn3 P w K mg base k "is_at_least" S_is_at_least) (qO:Fn3 P w K mg base k "are_at_least" S_are_at_least) (jm:Fn3 P w K mg base k "is_step" S_is_step) (zM:Fn3 P w K mg base k "is_cells" S_is_cells)  (m_isinstance:mg "isinstance" = none) (m_str:mg "str" = none) (m_len:mg "len" = none) (m_tuple:mg "tuple" = none) (m_STRIDES:Tb K mg w "STRIDES" zE)
  (read:Rd sp 1 (J0 S_is_at_least S_are_at_least S_is_step S_is_cells) Z2):Fn3 P w K mg base (k+1) "is_walk" sp:=
 qK (t3:=(J0 S_is_at_least S_are_at_least S_is_step S_is_cells)) F D8 bd hm (λcdv A outer s H E hr=>(qj (zU (jpt (V8 (ZM (QJ (jY (qb 0) rfl m_isinstance rfl m_tuple PyProof.Rows.boot_tuple))) (V8 (qR (qU hr.units) qD (qI zy jf rfl m_len PySem.boot_len (qa (qb 0) qd)) qe (qq _)) (V0 (ZM (QJ (jY (qP (qb 0) qe) rfl m_isinstance rfl m_str PyProof.Rows.boot_str))))))) (qp (qt XO)) qY) (qj (zp 1 D8.nd (qP (qb 0) qe)) (qj (zU (qcN m_STRIDES rfl (qb 1)) (qp (qt (jC (zv (qU hr.units) qD (qI zy jf rfl m_len PySem.boot_len (qa (qb 0) qd)) qe (qq _)) (QL (qi qm hr rfl (qa (qP (qb 0) qe) (qa qe qd))))))) qY) (qj (zU (qR (qU hr.units) qD (qb 1) qN (qq _)) (qp (qt (jC (zv (qU hr.units) qD (qI zy jf rfl m_len PySem.boot_len (qa (qb 0) qd)) qe (qq _)) (QL (qi qO hr rfl (qa (qby (qb 0) (XF qe) XT) (qa qe qd))))))) qY) (qj (zU (qR (qU hr.units) qD (qb 1) qN (qq _)) (qp (qt (qi jm hr rfl (qa (qb 0) qd)))) qY) (qp (qt (jC (zv (qU hr.units) qD (qb 1) qN (qq _)) (QL (qi zM hr rfl (qa (qb 0) qd)))))))))))) read
abbrev ZO:Stmt:=top 14
abbrev TD:List Str:=["down","along","many"]
abbrev XI:List Str:=["down","along","many"]
def qa1:FnScope TD XI (qh ZO):=⟨rfl,rfl,rfl,by decide +kernel,rfl,by decide +kernel,by decide +kernel⟩
def qbo (F:Fun K "strung" "strung" ZO f fd) (bd:zw K fd XI []) (hm:mg "strung" = some (.ref f))   (m_range:mg "range" = none)
  (read:Rd sp 3 (Bk.UG) TD):Fn3 P w K mg base (k+1) "strung" sp:=
 qK (t3:=(Bk.UG)) F qa1 bd hm (λcdv A outer s H E hr=>(qp (qt (DE ["t","down","along"] [none,some 0,some 1] rfl (QT rfl m_range (qa (qb 2) qd) (h1:=by intro _ _ _ h;simpa [qc,qk] using h)) (λ_ _ _=>(jgn 0)) (λ_ _ _=>j4) (λ_ _ _=>(zg (qa (j8 (qb 0) (qb 1)) (qa (j8 (qb 0) (qb 2)) qd)))) (by kernel_rfl) (by kernel_rfl))))) read
abbrev jK:Stmt:=top 15
abbrev D6:List Str:=["walk","kind","down","along"]
abbrev YS:List Str:=["walk"]
def Q4:FnScope D6 YS (qh jK):=⟨rfl,rfl,rfl,by decide +kernel,rfl,by decide +kernel,by decide +kernel⟩
def RR {S_strung:Sp3} (F:Fun K "cells_of" "cells_of" jK f fd) (bd:zw K fd YS []) (hm:mg "cells_of" = some (.ref f)) (zn:Fn3 P w K mg base k "strung" S_strung)  (m_list:mg "list" = none) (m_range:mg "range" = none) (m_STRIDES:Tb K mg w "STRIDES" zE)
  (read:Rd sp 1 (Bk.Z9 S_strung) D6):Fn3 P w K mg base (k+1) "cells_of" sp:=
 qK (t3:=(Bk.Z9 S_strung)) F Q4 bd hm (λcdv A outer s H E hr=>(qj (zp 1 Q4.nd (qP (qb 0) qe)) (qj (zU (qR (qU hr.units) qD (qb 1) qN (qq _)) (qp (qt (qE CQ qcC rfl m_list PyProof.Rows.boot_list (qa (qP (qb 0) qe) qd)))) qY) (qj (zU (qR (qU hr.units) qD (qb 1) qN (qq _)) (qp (qt (qls ["p","q","walk"] [none,none,some 0] rfl (QT rfl m_range (qa (qP (qb 0) qe) qd) (h1:=by intro _ _ _ h;simpa [qc,qk] using h)) (λ_ _ _=>(jgn 0)) (λ_ _ _=>j4) (λ_ _ _=>(QT rfl m_range (qa (qP (qb 2) qe) qd) (h1:=by intro _ _ _ h;simpa [qc,qk] using h))) (λ_ _ _=>(jgn 1)) (λ_ _ _=>j4) (λ_ _ _=>(zg (qa (qb 0) (qa (qb 1) qd)))) (by kernel_rfl) (by kernel_rfl)))) qY) (qj (zU (qR (qU hr.units) qD (qb 1) qN (qq _)) (qp (qt (qi zn hr rfl (qa (qP (qb 0) qe) (qa (qP (qb 0) qe) (qa (qP (qb 0) qe) qd)))))) qY) (qj (KD (qfF m_STRIDES rfl (qb 1) (λ_ _=>rfl)) (CF rfl (jv (jz (i:=2) (Q4.nd)) (jv (jz (i:=3) (Q4.nd)) WA)))) (qp (qt (qi zn hr rfl (qa (qb 2) (qa (qb 3) (qa (qP (qb 0) qe) qd)))))))))))) read
abbrev jV:Stmt:=top 19
abbrev JF:List Str:=["things"]
abbrev VL:List Str:=["things"]
def SU:FnScope JF VL (qh jV):=⟨rfl,rfl,rfl,by decide +kernel,rfl,by decide +kernel,by decide +kernel⟩
def JG:TS3:=(zh (LN XS (c3 (.str " ")) (qc (lc3 (Q9 (v3 0)) (gn3 0) tt3 (cb3 (UB true) (qc (v3 0) qk)) [none]) qk)))
def SE (F:Fun K "in_words" "in_words" jV f fd) (bd:zw K fd VL []) (hm:mg "in_words" = some (.ref f))   (m_str:mg "str" = none)
  (read:Rd sp 1 (JG) JF):Fn3 P w K mg base (k+1) "in_words" sp:=
 qK (t3:=(JG)) F SU bd hm (λcdv A outer s H E hr=>(qp (qt (SK qN (qa (DE ["thing"] [none] rfl (Z6 (qb 0)) (λ_ _ _=>(jgn 0)) (λ_ _ _=>j4) (λ_ _ _=>(qE (zJ hr.gd hr.units) Q5 rfl m_str PyProof.Rows.boot_str (qa (qb 0) qd))) (by kernel_rfl) (by kernel_rfl)) qd))))) read
abbrev QS:Stmt:=top 20
abbrev J4:List Str:=["rows"]
abbrev ET:List Str:=["rows"]
def K6:FnScope J4 ET (qh QS):=⟨rfl,rfl,rfl,by decide +kernel,rfl,by decide +kernel,by decide +kernel⟩
def YC (S_in_words:Sp3):TS3:=(zh (LN XS (c3 (.str " / ")) (qc (lc3 (Q9 (v3 0)) (gn3 0) tt3 (cb3 S_in_words (qc (v3 0) qk)) [none]) qk)))
def LA {S_in_words:Sp3} (F:Fun K "in_rows" "in_rows" QS f fd) (bd:zw K fd ET []) (hm:mg "in_rows" = some (.ref f)) (qJ:Fn3 P w K mg base k "in_words" S_in_words)  
  (read:Rd sp 1 (YC S_in_words) J4):Fn3 P w K mg base (k+1) "in_rows" sp:=
 qK (t3:=(YC S_in_words)) F K6 bd hm (λcdv A outer s H E hr=>(qp (qt (SK qN (qa (DE ["row"] [none] rfl (Z6 (qb 0)) (λ_ _ _=>(jgn 0)) (λ_ _ _=>j4) (λ_ _ _=>(qi qJ hr rfl (qa (qb 0) qd))) (by kernel_rfl) (by kernel_rfl)) qd))))) read
abbrev jq:Stmt:=top 21
abbrev jL:List Str:=["walk"]
abbrev JT:List Str:=["walk"]
def X0:FnScope jL JT (qh jq):=⟨rfl,rfl,rfl,by decide +kernel,rfl,by decide +kernel,by decide +kernel⟩
def QV (S_in_rows:Sp3) (S_in_words:Sp3):TS3:=(zd (jx (tb3 (o3 (zK false) (o3 ix3 (v3 0) (c3 (.int 0))) (c3 (.str "cells")))) (zh (fs3 [.inl "cells ",.inr (cb3 S_in_rows (qc (o3 ix3 (v3 0) (c3 (.int 1))) qk))] Str.empty)) qS) (zh (cb3 S_in_words (qc (v3 0) qk))))
def CL {S_in_rows:Sp3} {S_in_words:Sp3} (F:Fun K "walk_text" "walk_text" jq f fd) (bd:zw K fd JT []) (hm:mg "walk_text" = some (.ref f)) (ju:Fn3 P w K mg base k "in_rows" S_in_rows) (qJ:Fn3 P w K mg base k "in_words" S_in_words)  
  (read:Rd sp 1 (QV S_in_rows S_in_words) jL):Fn3 P w K mg base (k+1) "walk_text" sp:=
 qK (t3:=(QV S_in_rows S_in_words)) F X0 bd hm (λcdv A outer s H E hr=>(qj (zU (qR (qU hr.units) qD (qP (qb 0) qe) qN (qq _)) (qp (qt (qmd (.lit (.val (qi ju hr rfl (qa (qP (qb 0) qe) qd)) .nil))))) qY) (qp (qt (qi qJ hr rfl (qa (qb 0) qd)))))) read
abbrev zb:Stmt:=top 22
abbrev zC:List Str:=["word","figures","number"]
abbrev jw:List Str:=["word"]
def zZ:FnScope zC jw (qh zb):=⟨rfl,rfl,rfl,by decide +kernel,rfl,by decide +kernel,by decide +kernel⟩
def zD:TS3:=(zd (jc (if3 (tb3 (LN UV (v3 0) (qc (c3 (.str "-")) qk))) (qfq (v3 0) (sp3 (c3 (.int 1))) np3) (v3 0)) (gn3 1)) (zd (jx (or3 (RV (tb3 (ch3 (iB λi j=>decide (i<=j)) (iB λi j=>decide (i<=j)) (c3 (.int 1)) (cb3 U8 (qc (v3 1) qk)) (c3 (.int 4))))) (RV (tb3 (cb3 qbf (qc (lc3 (qfZ (v3 1)) (gn3 0) tt3 (o3 qly (v3 0) (c3 (.str "0123456789"))) [none]) qk))))) qe9 qS) (zd (jc (cb3 qcx (qc (v3 0) qk)) (gn3 2)) (zd (jx (tb3 (o3 (zK true) (cb3 (UB true) (qc (v3 2) qk)) (v3 0))) qe9 qS) (zh (v3 2))))))
def YR (F:Fun K "number_of_word" "number_of_word" zb f fd) (bd:zw K fd jw []) (hm:mg "number_of_word" = some (.ref f))   (m_FIGURES:∃ t,mg "FIGURES" = some (.str "0123456789" t)) (m_all:mg "all" = none) (m_len:mg "len" = none) (m_MOST_FIGURES:∃ t,mg "MOST_FIGURES" = some (.int 4 t)) (m_int:mg "int" = none) (m_str:mg "str" = none)
  (read:Rd sp 1 (zD) zC):Fn3 P w K mg base (k+1) "number_of_word" sp:=
 qK (t3:=(zD)) F zZ bd hm (λcdv A outer s H E hr=>(qj (zp 1 zZ.nd (qbE (QJ (qak (qb 0) (qa qN qd))) (M3 (qb 0) (XF qe) XT) (qb 0))) (qj (zU (jpt (V8 (ZM (qc0 qkJ YI qkJ YI qe (qI zy jf rfl m_len PySem.boot_len (qa (qb 1) qd)) (qmh rfl m_MOST_FIGURES))) (V0 (ZM (QJ (qI (ji rfl) XJ rfl m_all PyProof.Rows.boot_all (qa (DE ["sign"] [none] rfl (qhy (qb 1)) (λ_ _ _=>(jgn 0)) (λ_ _ _=>j4) (λ_ _ _=>(zv qji qf6 (qb 0) (qmN rfl m_FIGURES) (by with_unfolding_all rfl))) (by kernel_rfl) (by kernel_rfl)) qd))))))) UN qY) (qj (zp 2 zZ.nd (qE MS qck rfl m_int PyProof.Rows.boot_int (qa (qb 0) qd))) (qj (zU (qR (Z1 hr.units) jR (qE (zJ hr.gd hr.units) Q5 rfl m_str PyProof.Rows.boot_str (qa (qb 2) qd)) (qb 0) (qq _)) UN qY) (qp (qt (qb 2)))))))) read
abbrev zO:Stmt:=top 23
abbrev j3:List Str:=["words"]
abbrev ZR:List Str:=["words"]
def WS:FnScope j3 ZR (qh zO):=⟨rfl,rfl,rfl,by decide +kernel,rfl,by decide +kernel,by decide +kernel⟩
def j5 (S_number_of_word:Sp3):TS3:=(zh (cb3 JM (qc (lc3 (Q9 (v3 0)) (gn3 0) tt3 (cb3 S_number_of_word (qc (v3 0) qk)) [none]) qk)))
def WG {S_number_of_word:Sp3} (F:Fun K "numbers_of" "numbers_of" zO f fd) (bd:zw K fd ZR []) (hm:mg "numbers_of" = some (.ref f)) (qC:Fn3 P w K mg base k "number_of_word" S_number_of_word)  (m_tuple:mg "tuple" = none)
  (read:Rd sp 1 (j5 S_number_of_word) j3):Fn3 P w K mg base (k+1) "numbers_of" sp:=
 qK (t3:=(j5 S_number_of_word)) F WS bd hm (λcdv A outer s H E hr=>(qp (qt (qE jG YK rfl m_tuple PyProof.Rows.boot_tuple (qa (DE ["word"] [none] rfl (Z6 (qb 0)) (λ_ _ _=>(jgn 0)) (λ_ _ _=>j4) (λ_ _ _=>(qi qC hr rfl (qa (qb 0) qd))) (by kernel_rfl) (by kernel_rfl)) qd))))) read
abbrev QF:Stmt:=top 24
abbrev J2:List Str:=["words","rows","word"]
abbrev UR:List Str:=["words"]
def VP:FnScope J2 UR (qh QF):=⟨rfl,rfl,rfl,by decide +kernel,rfl,by decide +kernel,by decide +kernel⟩
def U9 (S_numbers_of:Sp3):TS3:=(zd (jc (VX (qc (VX qk) qk)) (gn3 1)) (zd (C6 (Q9 (v3 0)) (gn3 2) (jx (tb3 (o3 (zK false) (v3 2) (c3 (.str "/")))) (E6 (bm3 MC (v3 1) (qc (VX qk) qk))) (E6 (bm3 MC (o3 ix3 (v3 1) (u3 qeo (c3 (.int 1)))) (qc (v3 2) qk))))) (zh (cb3 JM (qc (lc3 (Q9 (v3 1)) (gn3 0) tt3 (cb3 S_numbers_of (qc (v3 0) qk)) [none]) qk)))))
def LG {S_numbers_of:Sp3} (F:Fun K "rows_of" "rows_of" QF f fd) (bd:zw K fd UR []) (hm:mg "rows_of" = some (.ref f)) (qB:Fn3 P w K mg base k "numbers_of" S_numbers_of)  (m_tuple:mg "tuple" = none)
  (read:Rd sp 1 (U9 S_numbers_of) J2):Fn3 P w K mg base (k+1) "rows_of" sp:=
 qK (t3:=(U9 S_numbers_of)) F VP bd hm (λcdv A outer s H E hr=>(qj (zp 1 VP.nd (QN (qa (QN qd) qd))) (qj (WC PassesOwn.never rfl (Z6 (qb 0)) (jz (i:=2) (VP.nd)) (qp (zU (qR (qU hr.units) qD (qb 2) qN (qq _)) (qp (SF (UU (qb 1) (qa (QN qd) qd)))) (qp (SF (UU (qP (qb 1) (qdX qe)) (qa (qb 2) qd))))))) (qp (qt (qE jG YK rfl m_tuple PyProof.Rows.boot_tuple (qa (DE ["row"] [none] rfl (Z6 (qb 1)) (λ_ _ _=>(jgn 0)) (λ_ _ _=>j4) (λ_ _ _=>(qi qB hr rfl (qa (qb 0) qd))) (by kernel_rfl) (by kernel_rfl)) qd))))))) read
abbrev QU:Stmt:=top 25
abbrev ZX:List Str:=["text","kind","words","walk"]
abbrev U7:List Str:=["text"]
def JA:FnScope ZX U7 (qh QU):=⟨rfl,rfl,rfl,by decide +kernel,rfl,by decide +kernel,by decide +kernel⟩
def J9 (S_rows_of:Sp3) (S_numbers_of:Sp3) (S_is_walk:Sp3):TS3:=(zd (jc (LN RE (v3 0) (qc (c3 (.str " ")) qk)) (TH (zL (gn3 1) (zL (gn3 2) UA)))) (zd (jc (if3 (tb3 (o3 (zK false) (v3 1) (c3 (.str "cells")))) (QE (qc (v3 1) (qc (cb3 S_rows_of (qc (v3 2) qk)) qk))) (o3 CA (QE (qc (v3 1) qk)) (cb3 S_numbers_of (qc (v3 2) qk)))) (gn3 3)) (zd (jx (RV (tb3 (cb3 S_is_walk (qc (v3 3) qk)))) qe9 qS) (zh (v3 3)))))
def LI {S_rows_of:Sp3} {S_numbers_of:Sp3} {S_is_walk:Sp3} (F:Fun K "walk_of" "walk_of" QU f fd) (bd:zw K fd U7 []) (hm:mg "walk_of" = some (.ref f)) (jO:Fn3 P w K mg base k "rows_of" S_rows_of) (qB:Fn3 P w K mg base k "numbers_of" S_numbers_of) (qs:Fn3 P w K mg base k "is_walk" S_is_walk)  
  (read:Rd sp 1 (J9 S_rows_of S_numbers_of S_is_walk) ZX):Fn3 P w K mg base (k+1) "walk_of" sp:=
 qK (t3:=(J9 S_rows_of S_numbers_of S_is_walk)) F JA bd hm (λcdv A outer s H E hr=>(qj (KD (qcF (qb 0) (qa qN qd)) (qgs rfl (jv (jz (i:=1) (JA.nd)) (jv (jz (i:=2) (JA.nd)) WA)))) (qj (zp 3 JA.nd (qbE (qR (qU hr.units) qD (qb 1) qN (qq _)) (zg (qa (qb 1) (qa (qi jO hr rfl (qa (qb 2) qd)) qd))) (UF (zg (qa (qb 1) qd)) (qi qB hr rfl (qa (qb 2) qd))))) (qj (zU (ZM (QJ (qi qs hr rfl (qa (qb 3) qd)))) UN qY) (qp (qt (qb 3))))))) read
abbrev ZP:Stmt:=top 27
abbrev UM:List Str:=["one","other","rows","columns","pairs","walk"]
abbrev WF:List Str:=["one","other","rows","columns"]
def EQ:FnScope UM WF (qh ZP):=⟨rfl,rfl,rfl,by decide +kernel,rfl,by decide +kernel,by decide +kernel⟩
def UL (S_cells_of:Sp3) (S_is_walk:Sp3):TS3:=(zd (jc (qdc (Q9 (cb3 S_cells_of (qc (v3 0) qk))) (DK 2 (zL (gn3 0) (zL (gn3 1) UA))) tt3 (Q9 (cb3 S_cells_of (qc (v3 4) qk))) (DK 2 (zL (gn3 2) (zL (gn3 3) UA))) tt3 (QE (qc (o3 jX (o3 (iC J1 (·*·)) (v3 0) (v3 5)) (v3 2)) (qc (o3 jX (o3 (iC J1 (·*·)) (v3 1) (v3 6)) (v3 3)) qk))) [none,none,none,none,some 1,some 2,some 3]) (gn3 4)) (zd (jc (QE (qc (c3 (.str "cells")) (qc (cb3 JM (qc (v3 4) qk)) qk))) (gn3 5)) (zd (jx (RV (tb3 (cb3 S_is_walk (qc (v3 5) qk)))) qe9 qS) (zh (v3 5)))))
def qaX {S_cells_of:Sp3} {S_is_walk:Sp3} (F:Fun K "spread" "spread" ZP f fd) (bd:zw K fd WF []) (hm:mg "spread" = some (.ref f)) (qH:Fn3 P w K mg base k "cells_of" S_cells_of) (qs:Fn3 P w K mg base k "is_walk" S_is_walk)  (m_tuple:mg "tuple" = none)
  (read:Rd sp 4 (UL S_cells_of S_is_walk) UM):Fn3 P w K mg base (k+1) "spread" sp:=
 qK (t3:=(UL S_cells_of S_is_walk)) F EQ bd hm (λcdv A outer s H E hr=>(qj (NG 4 ["p","q","r","t","other","rows","columns"] [none,none,none,none,some 1,some 2,some 3] rfl EQ.nd (Z6 (qi qH hr rfl (qa (qb 0) qd))) (λ_ _ _=>(CF rfl (jv (jgn 0) (jv (jgn 1) WA)))) (λ_ _ _=>j4) (λ_ _ _=>(Z6 (qi qH hr rfl (qa (qb 4) qd)))) (λ_ _ _=>(CF rfl (jv (jgn 2) (jv (jgn 3) WA)))) (λ_ _ _=>j4) (λ_ _ _=>(zg (qa (qX (j8 (qb 0) (qb 5)) (qb 2)) (qa (qX (j8 (qb 1) (qb 6)) (qb 3)) qd)))) (by kernel_rfl) (by kernel_rfl) rfl rfl) (qj (zp 5 EQ.nd (zg (qa qN (qa (qE jG YK rfl m_tuple PyProof.Rows.boot_tuple (qa (qb 4) qd)) qd)))) (qj (zU (ZM (QJ (qi qs hr rfl (qa (qb 5) qd)))) UN qY) (qp (qt (qb 5))))))) read
abbrev QR:Stmt:=top 29
abbrev ES:List Str:=["_law_cell","_law_k","_law_m"]
abbrev EY:List Str:=["_law_cell","_law_k"]
def D9:FnScope ES EY (qh QR):=⟨rfl,rfl,rfl,by decide +kernel,rfl,by decide +kernel,by decide +kernel⟩
def K4 (F:Fun K "_law_mix" "_law_mix" QR f fd) (bd:zw K fd EY []) (hm:mg "_law_mix" = some (.ref f))   
  (read:Rd sp 2 (Bk.YN) ES):Fn3 P w K mg base (k+1) "_law_mix" sp:=
 qK (t3:=(Bk.YN)) F D9 bd hm (λcdv A outer s H E hr=>(qj (zp 2 D9.nd (RD (j8 (qX (qX (RD (qb 0) qe) (j8 (j8 (qb 1) (qb 1)) qe)) qe) qe) qe)) (qp (qt (RD (j8 (qb 2) (qb 2)) qe))))) read
abbrev jW:Stmt:=top 30
abbrev VR:List Str:=["_law_script","_law_k","_law_cell","_law_own"]
abbrev VE:List Str:=["_law_script","_law_k"]
def JS:FnScope VR VE (qh jW):=⟨rfl,rfl,rfl,by decide +kernel,rfl,by decide +kernel,by decide +kernel⟩
def RO (F:Fun K "_law_left" "_law_left" jW f fd) (bd:zw K fd VE []) (hm:mg "_law_left" = some (.ref f))   (m_len:mg "len" = none) (m_abs:mg "abs" = none)
  (read:Rd sp 2 (Bk.JD) VR):Fn3 P w K mg base (k+1) "_law_left" sp:=
 qK (t3:=(Bk.JD)) F JS bd hm (λcdv A outer s H E hr=>(qj (zp 2 JS.nd (qbE (qR qcq YI (qb 1) (qI zy jf rfl m_len PySem.boot_len (qa (qb 0) qd)) (qq _)) (qP (qb 0) (qb 1)) qe)) (qj (zp 3 JS.nd (qbE (qR qjP YI (qI S6 qaH rfl m_abs PyProof.Rows.boot_abs (qa (qb 2) qd)) (qjW qe qe) (qq _)) (qI S6 qaH rfl m_abs PyProof.Rows.boot_abs (qa (qb 2) qd)) qe)) (qp (qt (QN (qa (qb 3) (qa (qX (qb 2) (j8 qe (qb 1))) (qa qe qd))))))))) read
abbrev jM:Stmt:=top 31
abbrev YZ:List Str:=["_law_left_here","_law_many_here","_law_digit"]
abbrev VU:List Str:=["_law_left_here","_law_many_here"]
def US:FnScope YZ VU (qh jM):=⟨rfl,rfl,rfl,by decide +kernel,rfl,by decide +kernel,by decide +kernel⟩
def RK {S_law_mix:Sp3} (F:Fun K "_law_pick" "_law_pick" jM f fd) (bd:zw K fd VU []) (hm:mg "_law_pick" = some (.ref f)) (F_law_mix:Fn3 P w K mg base k "_law_mix" S_law_mix)  
  (read:Rd sp 2 (Bk.JB S_law_mix) YZ):Fn3 P w K mg base (k+1) "_law_pick" sp:=
 qK (t3:=(Bk.JB S_law_mix)) F US bd hm (λcdv A outer s H E hr=>(qj (KD (qX (qP (qb 0) qe) qe) (qeU (qb 0) qe)) (qj (zU (qR qmG YI (qP (qb 0) qe) qe (qq _)) (qj (zp 2 US.nd (RD (qP (qb 0) qe) (qb 1))) (qj (KD (KK (qP (qb 0) qe) (qb 1)) (qeU (qb 0) qe)) (qp (qt (qb 2))))) qY) (qp (qt (RD (KK (qi F_law_mix hr rfl (qa (qi F_law_mix hr rfl (qa (qP (qb 0) qe) (qa (qP (qb 0) qe) qd))) (qa (qX (qP (qb 0) qe) qe) qd))) qe) (qb 1))))))) read
abbrev jN:Stmt:=top 32
abbrev VC:List Str:=["_law_left_here"]
abbrev YW:List Str:=["_law_left_here"]
def SO:FnScope VC YW (qh jN):=⟨rfl,rfl,rfl,by decide +kernel,rfl,by decide +kernel,by decide +kernel⟩
def SQ {S_law_pick:Sp3} (F:Fun K "_law_many" "_law_many" jN f fd) (bd:zw K fd YW []) (hm:mg "_law_many" = some (.ref f)) (F_law_pick:Fn3 P w K mg base k "_law_pick" S_law_pick)  
  (read:Rd sp 1 (Bk.JH S_law_pick) VC):Fn3 P w K mg base (k+1) "_law_many" sp:=
 qK (t3:=(Bk.JH S_law_pick)) F SO bd hm (λcdv A outer s H E hr=>(qp (qt (qX qe (qi F_law_pick hr rfl (qa (qb 0) (qa (qP (QN (qa qe (qa qe (qa qe (qa qe (qa qe (qa qe (qa qe (qa qe qd))))))))) (qi F_law_pick hr rfl (qa (qb 0) (qa qe qd)))) qd))))))) read
abbrev jQ:Stmt:=top 33
abbrev Y8:List Str:=["_law_left_here","_law_way","_law_lying","_law_high","_law_wide","_law_down","_law_along","_law_pairs","_law_far_here","_law_turn","_law_pair"]
abbrev VT:List Str:=["_law_left_here"]
def zt:FnScope Y8 VT (qh jQ):=⟨rfl,rfl,rfl,by decide +kernel,rfl,by decide +kernel,by decide +kernel⟩
def RU {S_law_pick:Sp3} {S_law_many:Sp3} (F:Fun K "_law_walk" "_law_walk" jQ f fd) (bd:zw K fd VT []) (hm:mg "_law_walk" = some (.ref f)) (F_law_pick:Fn3 P w K mg base k "_law_pick" S_law_pick) (F_law_many:Fn3 P w K mg base k "_law_many" S_law_many)  (m_int:mg "int" = none) (m_range:mg "range" = none) (m_tuple:mg "tuple" = none)
  (read:Rd sp 1 (Bk.Z8 S_law_pick S_law_many) Y8):Fn3 P w K mg base (k+1) "_law_walk" sp:=
 qK (t3:=(Bk.Z8 S_law_pick S_law_many)) F zt bd hm (λcdv A outer s H E hr=>(qj (zp 1 zt.nd (qi F_law_pick hr rfl (qa (qb 0) (qa qe qd)))) (qj (zU (qR qcq YI (qb 1) qe (qq _)) (qp (qt (zg (qa (qP (QN (qa qN (qa qN (qa qN (qa qN qd))))) (qb 1)) (qa (qi F_law_many hr rfl (qa (qb 0) qd)) qd))))) qY) (qj (zU (qR qcq YI (qb 1) qe (qq _)) (qj (SW (i:=2) (j:=3) rfl zt.nd rfl rfl (by decide) rfl rfl (qa (qi F_law_pick hr rfl (qa (qb 0) (qa qe qd))) (qa (qX qe (qi F_law_pick hr rfl (qa (qb 0) (qa qe qd)))) qd))) (qj (zp 4 zt.nd (qX qe (qi F_law_pick hr rfl (qa (qb 0) (qa (KK qe (qb 3)) qd))))) (qp (qt (qP (QN (qa (zg (qa qN (qa (qb 3) (qa (qb 4) qd)))) (qa (zg (qa qN (qa (qb 4) (qa (qb 3) qd)))) qd))) (qb 2)))))) qY) (qj (zU (qR qcq YI (qb 1) qe (qq _)) (qj (SW (i:=5) (j:=6) rfl zt.nd rfl rfl (by decide) rfl rfl (qa (DU (qi F_law_pick hr rfl (qa (qb 0) (qa qe qd))) qe) (qa (DU (qi F_law_pick hr rfl (qa (qb 0) (qa qe qd))) qe) qd))) (qj (zU (qR (qU hr.units) qD (qi F_law_pick hr rfl (qa (qb 0) (qa qe qd))) qe (qq _)) (qp (qt (zg (qa qN (qa (j8 qe (qb 5)) (qa (qX (j8 qe (qb 6)) (qE ZT EZ rfl m_int PyProof.Rows.boot_int (qa (jC (zv (qU hr.units) qD (qb 5) qe (qq _)) (QL (zv (qU hr.units) qD (qb 6) qe (qq _)))) qd))) (qa (qX qe (qi F_law_pick hr rfl (qa (qb 0) (qa qe qd)))) qd))))))) qY) (qp (qt (zg (qa qN (qa (qb 5) (qa (qX (qb 6) (qE ZT EZ rfl m_int PyProof.Rows.boot_int (qa (jC (zv (qU hr.units) qD (qb 5) qe (qq _)) (QL (zv (qU hr.units) qD (qb 6) qe (qq _)))) qd))) (qa (qi F_law_many hr rfl (qa (qb 0) qd)) qd))))))))) qY) (qj (SW (i:=7) (j:=8) rfl zt.nd rfl rfl (by decide) rfl rfl (qa (QN qd) (qa (qX qe (j8 qe (qE ZT EZ rfl m_int PyProof.Rows.boot_int (qa (zv (qU hr.units) qD (qi F_law_pick hr rfl (qa (qb 0) (qa qe qd))) qe (qq _)) qd)))) qd))) (qj (WC PassesOwn.never rfl (QT rfl m_range (qa (qi F_law_many hr rfl (qa (qb 0) qd)) qd) (h1:=by intro _ _ _ h;simpa [qc,qk] using h)) (jz (i:=9) (zt.nd)) (qj (zp 10 zt.nd (zg (qa (j8 (qb 8) (DU (qi F_law_pick hr rfl (qa (qb 0) (qa qe qd))) qe)) (qa (j8 (qb 8) (DU (qi F_law_pick hr rfl (qa (qb 0) (qa qe qd))) qe)) qd)))) (qp (zU (qR (qaL hr.units) qeZ (qb 10) (qb 7) (by with_unfolding_all rfl)) (qp (SF (UU (qb 7) (qa (qb 10) qd)))) qY)))) (qp (qt (zg (qa qN (qa (qE jG YK rfl m_tuple PyProof.Rows.boot_tuple (qa (qb 7) qd)) qd)))))))))))) read
abbrev q0:Stmt:=top 34
abbrev zG:List Str:=["_law_walk_here","_law_found","_law_k","_law_pair"]
abbrev jB:List Str:=["_law_walk_here"]
def zc:FnScope zG jB (qh q0):=⟨rfl,rfl,rfl,by decide +kernel,rfl,by decide +kernel,by decide +kernel⟩
def zF:TS3:=(zd (jx (tb3 (o3 (zK true) (o3 ix3 (v3 0) (c3 (.int 0))) (c3 (.str "cells")))) (zh (o3 CA (VX (qc (o3 ix3 (v3 0) (c3 (.int 0))) qk)) (lc3 (Q9 (qcP (v3 0) (sp3 (c3 (.int 1))) np3)) (gn3 0) tt3 (cb3 (UB true) (qc (v3 0) qk)) [none]))) qS) (zd (jc (VX (qc (c3 (.str "cells")) qk)) (gn3 1)) (zd (C6 (T6 (qc (o3 ix3 (v3 0) (c3 (.int 1))) qk)) (DK 2 (zL (gn3 2) (zL (gn3 3) UA))) (jc (o3 CA (o3 CA (v3 1) (qcP (VX (qc (c3 (.str "/")) qk)) np3 (sp3 (v3 2)))) (VX (qc (cb3 (UB true) (qc (o3 ix3 (v3 3) (c3 (.int 0))) qk)) (qc (cb3 (UB true) (qc (o3 ix3 (v3 3) (c3 (.int 1))) qk)) qk)))) (gn3 1))) (zh (v3 1)))))
def VB (F:Fun K "_law_walk_words" "_law_walk_words" q0 f fd) (bd:zw K fd jB []) (hm:mg "_law_walk_words" = some (.ref f))   (m_str:mg "str" = none) (m_enumerate:mg "enumerate" = none)
  (read:Rd sp 1 (zF) zG):Fn3 P w K mg base (k+1) "_law_walk_words" sp:=
 qK (t3:=(zF)) F zc bd hm (λcdv A outer s H E hr=>(qj (zU (qR (Z1 hr.units) jR (qP (qb 0) qe) qN (qq _)) (qp (qt (UF (QN (qa (qP (qb 0) qe) qd)) (DE ["_law_number"] [none] rfl (Z6 (CN (qb 0) (XF qe) XT)) (λ_ _ _=>(jgn 0)) (λ_ _ _=>j4) (λ_ _ _=>(qE (zJ hr.gd hr.units) Q5 rfl m_str PyProof.Rows.boot_str (qa (qb 0) qd))) (by kernel_rfl) (by kernel_rfl))))) qY) (qj (zp 1 zc.nd (QN (qa qN qd))) (qj (WC PassesOwn.never rfl (qfc rfl m_enumerate (qa (qP (qb 0) qe) qd)) (CF rfl (jv (jz (i:=2) (zc.nd)) (jv (jz (i:=3) (zc.nd)) WA))) (qp (zp 1 zc.nd (UF (UF (qb 1) (CN (QN (qa qN qd)) XT (XF (qb 2)))) (QN (qa (qE (zJ hr.gd hr.units) Q5 rfl m_str PyProof.Rows.boot_str (qa (qP (qb 3) qe) qd)) (qa (qE (zJ hr.gd hr.units) Q5 rfl m_str PyProof.Rows.boot_str (qa (qP (qb 3) qe) qd)) qd))))))) (qp (qt (qb 1))))))) read
abbrev jJ:Stmt:=top 35
abbrev DX:List Str:=["_law_found","_law_due"]
abbrev VJ:List Str:=["_law_found","_law_due"]
def RX:FnScope DX VJ (qh jJ):=⟨rfl,rfl,rfl,by decide +kernel,rfl,by decide +kernel,by decide +kernel⟩
def Q6 {S_law_same:Sp3} (F:Fun K "_law_same" "_law_same" jJ f fd) (bd:zw K fd VJ []) (hm:mg "_law_same" = some (.ref f)) (F_law_same:Fn3 P w K mg base k "_law_same" S_law_same)  (m_isinstance:mg "isinstance" = none) (m_list:mg "list" = none) (m_tuple:mg "tuple" = none) (m_zip:mg "zip" = none) (m_all:mg "all" = none) (m_len:mg "len" = none) (m_str:mg "str" = none) (m_bool:mg "bool" = none) (m_int:mg "int" = none)
  (read:Rd sp 2 (Bk.VG S_law_same) DX):Fn3 P w K mg base (k+1) "_law_same" sp:=
 qK (t3:=(Bk.VG S_law_same)) F RX bd hm (λcdv A outer s H E hr=>(qj (zU (QJ (qar (qb 1) rfl m_isinstance rfl m_list PyProof.Rows.boot_list rfl m_tuple PyProof.Rows.boot_tuple)) (qj (zU (jpt (V8 (qR (Z1 hr.units) jR (jY (qb 0) rfl m_isinstance rfl m_list PyProof.Rows.boot_list) (jY (qb 1) rfl m_isinstance rfl m_list PyProof.Rows.boot_list) (qq _)) (V0 (qR (Z1 hr.units) jR (jY (qb 0) rfl m_isinstance rfl m_tuple PyProof.Rows.boot_tuple) (jY (qb 1) rfl m_isinstance rfl m_tuple PyProof.Rows.boot_tuple) (qq _))))) (qp (qt XO)) qY) (qp (qt (jC (zv (qU hr.units) qD (qI zy jf rfl m_len PySem.boot_len (qa (qb 0) qd)) (qI zy jf rfl m_len PySem.boot_len (qa (qb 1) qd)) (qq _)) (QL (qI (ji rfl) XJ rfl m_all PyProof.Rows.boot_all (qa (DE ["_law_one","_law_other"] [none,none] rfl (qiO rfl m_zip (qa (qb 0) (qa (qb 1) qd))) (λ_ _ _=>(CF rfl (jv (jgn 0) (jv (jgn 1) WA)))) (λ_ _ _=>j4) (λ_ _ _=>(qi F_law_same hr rfl (qa (qb 0) (qa (qb 1) qd)))) (by kernel_rfl) (by kernel_rfl)) qd))))))) qY) (qj (zU (jpt (V8 (qR NL RT (qb 1) M1 (qq _)) (V0 (QJ (qar (qb 1) rfl m_isinstance rfl m_str PyProof.Rows.boot_str rfl m_bool PyProof.Rows.boot_bool))))) (qp (qt (jC (zv (qU hr.units) qD (qb 0) (qb 1) (qq _)) (jC (zv (qU hr.units) qD (jY (qb 0) rfl m_isinstance rfl m_bool PyProof.Rows.boot_bool) (jY (qb 1) rfl m_isinstance rfl m_bool PyProof.Rows.boot_bool) (qq _)) (QL (zv (qU hr.units) qD (zv NL RT (qb 0) M1 (qq _)) (zv NL RT (qb 1) M1 (qq _)) (qq _))))))) qY) (qp (qt (jC (jY (qb 0) rfl m_isinstance rfl m_int PyProof.Rows.boot_int) (jC (qd8 (jY (qb 0) rfl m_isinstance rfl m_bool PyProof.Rows.boot_bool)) (QL (zv (qU hr.units) qD (qb 0) (qb 1) (qq _)))))))))) read
abbrev QG:Stmt:=top 36
abbrev Z4:List Str:=["_law_left_here","_law_many_here","_law_pair"]
abbrev EN:List Str:=["_law_left_here"]
def YY:FnScope Z4 EN (qh QG):=⟨rfl,rfl,rfl,by decide +kernel,rfl,by decide +kernel,by decide +kernel⟩
def YL (S_law_pick:Sp3):TS3:=(zd (jc (o3 jX (c3 (.int 1)) (cb3 S_law_pick (qc (v3 0) (qc (c3 (.int 16)) qk)))) (gn3 1)) (zd (jc (QE (qc (o3 (iI (·-·)) (cb3 S_law_pick (qc (v3 0) (qc (c3 (.int 31)) qk))) (c3 (.int 15))) (qc (o3 (iI (·-·)) (cb3 S_law_pick (qc (v3 0) (qc (c3 (.int 31)) qk))) (c3 (.int 15))) qk))) (gn3 2)) (zd (jx (tb3 (o3 (zK false) (cb3 S_law_pick (qc (v3 0) (qc (c3 (.int 2)) qk))) (c3 (.int 0)))) (zh (QE (qc (c3 (.str "cells")) (qc (QE (qc (v3 2) (qc (QE (qc (o3 ix3 (v3 2) (c3 (.int 0))) (qc (o3 jX (o3 ix3 (v3 2) (c3 (.int 1))) (o3 ix3 (VX (qc (c3 (.int 1)) (qc (u3 qeo (c3 (.int 1))) qk))) (cb3 KQ (qc (o3 (zK false) (o3 ix3 (v3 2) (c3 (.int 1))) (c3 (.int 15))) qk)))) qk))) qk))) qk)))) qS) (zh (QE (qc (c3 (.str "step")) (qc (o3 ix3 (v3 2) (c3 (.int 0))) (qc (o3 jX (o3 ix3 (v3 2) (c3 (.int 1))) (cb3 KQ (qc (o3 (zK false) (v3 2) (QE (qc (c3 (.int 0)) (qc (c3 (.int 0)) qk)))) qk))) (qc (v3 1) qk)))))))))
def L7 {S_law_pick:Sp3} (F:Fun K "_law_far" "_law_far" QG f fd) (bd:zw K fd EN []) (hm:mg "_law_far" = some (.ref f)) (F_law_pick:Fn3 P w K mg base k "_law_pick" S_law_pick)  (m_int:mg "int" = none)
  (read:Rd sp 1 (YL S_law_pick) Z4):Fn3 P w K mg base (k+1) "_law_far" sp:=
 qK (t3:=(YL S_law_pick)) F YY bd hm (λcdv A outer s H E hr=>(qj (zp 1 YY.nd (qX qe (qi F_law_pick hr rfl (qa (qb 0) (qa qe qd))))) (qj (zp 2 YY.nd (zg (qa (DU (qi F_law_pick hr rfl (qa (qb 0) (qa qe qd))) qe) (qa (DU (qi F_law_pick hr rfl (qa (qb 0) (qa qe qd))) qe) qd)))) (qj (zU (qR (qU hr.units) qD (qi F_law_pick hr rfl (qa (qb 0) (qa qe qd))) qe (qq _)) (qp (qt (zg (qa qN (qa (zg (qa (qb 2) (qa (zg (qa (qP (qb 2) qe) (qa (qX (qP (qb 2) qe) (qP (QN (qa qe (qa (qdX qe) qd))) (qE ZT EZ rfl m_int PyProof.Rows.boot_int (qa (zv (qU hr.units) qD (qP (qb 2) qe) qe (qq _)) qd)))) qd))) qd))) qd))))) qY) (qp (qt (zg (qa qN (qa (qP (qb 2) qe) (qa (qX (qP (qb 2) qe) (qE ZT EZ rfl m_int PyProof.Rows.boot_int (qa (zv (qU hr.units) qD (qb 2) (zg (qa qe (qa qe qd))) (qq _)) qd))) (qa (qb 1) qd))))))))))) read
abbrev Z0:Stmt:=top 37
abbrev qa2:List Str:=["_law_script","_law_k","_law_left_here","_law_high","_law_two","_law_told","_law_walk_here","_law_text","_law_kept","_law_turn","_law_found"]
abbrev qjO:List Str:=["_law_script"]
def JL:FnScope qa2 qjO (qh Z0):=⟨rfl,rfl,rfl,by decide +kernel,rfl,by decide +kernel,by decide +kernel⟩
def qe4 (S_law_left:Sp3) (S_law_pick:Sp3) (S_spread:Sp3) (S_law_walk:Sp3) (S_law_far:Sp3) (S_law_walk_words:Sp3) (S_walk_text:Sp3) (S_walk_of:Sp3) (S_is_walk:Sp3) (S_law_same:Sp3):TS3:=(zd (C6 (VQ (qc (o3 jX (c3 (.int 1)) (cb3 qh7 (qc (c3 (.int 10)) (qc (cb3 U8 (qc (v3 0) qk)) qk)))) qk)) (gn3 1) (zd (jc (cb3 S_law_left (qc (v3 0) (qc (v3 1) qk))) (gn3 2)) (zd (jc (o3 jX (c3 (.int 1)) (cb3 S_law_pick (qc (v3 2) (qc (c3 (.int 4)) qk)))) (gn3 3)) (zd (jc (QE (qc (c3 (.str "block")) (qc (o3 jX (c3 (.int 1)) (cb3 S_law_pick (qc (v3 2) (qc (c3 (.int 2)) qk)))) (qc (c3 (.int 2)) qk)))) (gn3 4)) (zd (jc (cb3 S_spread (qc (QE (qc (c3 (.str "block")) (qc (v3 3) (qc (o3 jX (c3 (.int 1)) (cb3 S_law_pick (qc (v3 2) (qc (o3 (iC qbw (·/·)) (c3 (.int 16)) (v3 3)) qk)))) qk)))) (qc (v3 4) (qc (c3 (.int 2)) (qc (c3 (.int 2)) qk))))) (gn3 5)) (C6 (Q9 (QE (qc (cb3 S_law_walk (qc (v3 2) qk)) (qc (cb3 S_law_walk (qc (v3 2) qk)) (qc (cb3 S_law_far (qc (v3 2) qk)) (qc (QE (qc (c3 (.str "cells")) (qc (QE (qc (QE (qc (c3 (.int 0)) (qc (c3 (.int 0)) qk))) qk)) qk))) (qc (v3 5) qk))))))) (gn3 6) (zd (NK 7 8 (qc (LN XS (c3 (.str " ")) (qc (cb3 S_law_walk_words (qc (v3 6) qk)) qk)) (qc (cb3 (UB true) (qc (v3 6) qk)) qk))) (C6 (VQ (qc (c3 (.int 2)) qk)) (gn3 9) (zd (jx (or3 (tb3 (o3 (zK true) (cb3 S_walk_text (qc (v3 6) qk)) (v3 7))) (tb3 (o3 (zK true) (cb3 (UB true) (qc (v3 6) qk)) (v3 8)))) (zh (c3 (.bl false))) qS) (zd (jc (cb3 S_walk_of (qc (v3 7) qk)) (gn3 10)) (jx (or3 (RV (tb3 (cb3 S_law_same (qc (v3 10) (qc (v3 6) qk))))) (or3 (tb3 (o3 (qlU true) (cb3 S_is_walk (qc (v3 10) qk)) (c3 (.bl true)))) (tb3 (o3 (zK true) (cb3 S_walk_text (qc (v3 10) qk)) (v3 7))))) (zh (c3 (.bl false))) qS))))))))))) (zh (c3 (.bl true))))
def qjX {S_law_left:Sp3} {S_law_pick:Sp3} {S_spread:Sp3} {S_law_walk:Sp3} {S_law_far:Sp3} {S_law_walk_words:Sp3} {S_walk_text:Sp3} {S_walk_of:Sp3} {S_is_walk:Sp3} {S_law_same:Sp3} (F:Fun K "law" "law" Z0 f fd) (F_law_left:Fn3 P w K mg base k "_law_left" S_law_left) (F_law_pick:Fn3 P w K mg base k "_law_pick" S_law_pick) (jZ:Fn3 P w K mg base k "spread" S_spread) (F_law_walk:Fn3 P w K mg base k "_law_walk" S_law_walk) (F_law_far:Fn3 P w K mg base k "_law_far" S_law_far) (qw:Fn3 P w K mg base k "_law_walk_words" S_law_walk_words) (qL:Fn3 P w K mg base k "walk_text" S_walk_text) (zB:Fn3 P w K mg base k "walk_of" S_walk_of) (qs:Fn3 P w K mg base k "is_walk" S_is_walk) (F_law_same:Fn3 P w K mg base k "_law_same" S_law_same)  (m_len:mg "len" = none) (m_min:mg "min" = none) (m_range:mg "range" = none) (m_str:mg "str" = none)
  (read:Rd sp 1 (qe4 S_law_left S_law_pick S_spread S_law_walk S_law_far S_law_walk_words S_walk_text S_walk_of S_is_walk S_law_same) qa2):FnOk P w K mg base CX0 (k+1) f fd qjO (lSp K sp):=
 qbB (t3:=(qe4 S_law_left S_law_pick S_spread S_law_walk S_law_far S_law_walk_words S_walk_text S_walk_of S_is_walk S_law_same)) F JL (λcdv A outer s H E hr=>(qj (WC PassesOwn.never rfl (QT rfl m_range (qa (qX qe (qI (NU rfl) qfm rfl m_min PyProof.Rows.boot_min (qa qe (qa (qI zy jf rfl m_len PySem.boot_len (qa (qb 0) qd)) qd)))) qd) (h1:=by intro _ _ _ h;simpa [qc,qk] using h)) (jz (i:=1) (JL.nd)) (qj (zp 2 JL.nd (qi F_law_left hr rfl (qa (qb 0) (qa (qb 1) qd)))) (qj (zp 3 JL.nd (qX qe (qi F_law_pick hr rfl (qa (qb 2) (qa qe qd))))) (qj (zp 4 JL.nd (zg (qa qN (qa (qX qe (qi F_law_pick hr rfl (qa (qb 2) (qa qe qd)))) (qa qe qd))))) (qj (zp 5 JL.nd (qi jZ hr rfl (qa (zg (qa qN (qa (qb 3) (qa (qX qe (qi F_law_pick hr rfl (qa (qb 2) (qa (KK qe (qb 3)) qd)))) qd)))) (qa (qb 4) (qa qe (qa qe qd)))))) (qp (WC PassesOwn.never rfl (Z6 (zg (qa (qi F_law_walk hr rfl (qa (qb 2) qd)) (qa (qi F_law_walk hr rfl (qa (qb 2) qd)) (qa (qi F_law_far hr rfl (qa (qb 2) qd)) (qa (zg (qa qN (qa (zg (qa (zg (qa qe (qa qe qd))) qd)) qd))) (qa (qb 5) qd))))))) (jz (i:=6) (JL.nd)) (qj (SW (i:=7) (j:=8) rfl JL.nd rfl rfl (by decide) rfl rfl (qa (SK qN (qa (qi qw hr rfl (qa (qb 6) qd)) qd)) (qa (qE (zJ hr.gd hr.units) Q5 rfl m_str PyProof.Rows.boot_str (qa (qb 6) qd)) qd))) (qp (WC PassesOwn.never rfl (QT rfl m_range (qa qe qd) (h1:=by intro _ _ _ h;simpa [qc,qk] using h)) (jz (i:=9) (JL.nd)) (qj (zU (jpt (V8 (qR (Z1 hr.units) jR (qi qL hr rfl (qa (qb 6) qd)) (qb 7) (qq _)) (V0 (qR (Z1 hr.units) jR (qE (zJ hr.gd hr.units) Q5 rfl m_str PyProof.Rows.boot_str (qa (qb 6) qd)) (qb 8) (qq _))))) (qp (qt XO)) qY) (qj (zp 10 JL.nd (qi zB hr rfl (qa (qb 7) qd))) (qp (zU (jpt (V8 (ZM (QJ (qi F_law_same hr rfl (qa (qb 10) (qa (qb 6) qd))))) (V8 (qR qgr qb6 (qi qs hr rfl (qa (qb 10) qd)) XO (qq _)) (V0 (qR (Z1 hr.units) jR (qi qL hr rfl (qa (qb 10) qd)) (qb 7) (qq _)))))) (qp (qt XO)) qY)))))))))))))) (qp (qt XO)))) read
end K78
namespace K78
open PySem L2 L3 Pu
def ZE:PuS (Bk.Q8):=(VD (U6 (qfy (λt=>j2 t "int") (bV 0)) (qjT (qfy (λt=>j2 t "bool") (bV 0)))))
def qo:List PyData->Option PyData:=Pu.run ZE.f 1 1 1000000000 false
def CK:Rd (PSp qo false) 1 (Bk.Q8) Q2:=zr ZE Q2 1 1000000000 false
def CD {x0:PyData}:qo [x0]=EI false (ZE.f 1000000000 [.sh x0]):=id rfl
def jE:PuS (K78.jF (PSp qo false)):=(VD (U6 (qA (zk qo false) (qg (bV 0) qG)) (bO (opB λi j=>decide (j<=i)) (bV 0) (bV 1))))
def qm:List PyData->Option PyData:=Pu.run jE.f 2 2 1000000000 false
def DH:Rd (PSp qm false) 2 (K78.jF (PSp qo false)) zW:=zr jE zW 2 1000000000 false
def E8 {x0 x1:PyData}:qm [x0,x1]=EI false (jE.f 1000000000 [.sh x0,.sh x1]):=id rfl
def jj:PuS (K78.jh (PSp qm false)):=(VD (qA qhg (qg (bLc (CZ (bV 0)) (gN 0) bTt (qA (zk qm false) (qg (bV 0) (qg (bV 1) qG))) [none,some 1] ⟨rfl⟩) qG)))
def qO:List PyData->Option PyData:=Pu.run jj.f 2 2 1000000000 false
def EB:Rd (PSp qO false) 2 (K78.jh (PSp qm false)) jg:=zr jj jg 2 1000000000 false
def U0 {x0 x1:PyData}:qO [x0,x1]=EI false (jj.f 1000000000 [.sh x0,.sh x1]):=id rfl
def YM:PuS (Bk.YJ (PSp qo false)):=(VD (U6 (qfy (λt=>j2 t "tuple") (bV 0)) (U6 (bO (YO false) (qA qbM (qg (bV 0) qG)) (ze 2)) (U6 (qA (zk qo false) (qg (bO ZF (bV 0) (ze 0)) qG)) (qA (zk qo false) (qg (bO ZF (bV 0) (ze 1)) qG))))))
def jr:List PyData->Option PyData:=Pu.run YM.f 1 1 1000000000 false
def LM:Rd (PSp jr false) 1 (Bk.YJ (PSp qo false)) YG:=zr YM YG 1 1000000000 false
def LO {x0:PyData}:jr [x0]=EI false (YM.f 1000000000 [.sh x0]):=id rfl
def ZW:PuS (K78.YD (PSp qo false) (PSp qm false)):=(YQ (sIf (bOr (bTb (bO (YO true) (qA qbM (qg (bV 0) qG)) (ze 4))) (bOr (MA (bTb (qA (zk qo false) (qg (bO ZF (bV 0) (ze 1)) qG)))) (MA (bTb (qA (zk qo false) (qg (bO ZF (bV 0) (ze 2)) qG)))))) (VD (bBl false)) Z3) (VD (U6 (qoZ (bO (YO true) (bO ZF (bV 0) (ze 1)) (ze 0)) (bO (YO true) (bO ZF (bV 0) (ze 2)) (ze 0))) (qA (zk qm false) (qg (bO ZF (bV 0) (ze 3)) (qg (ze 1) qG))))))
def jm:List PyData->Option PyData:=Pu.run ZW.f 1 1 1000000000 false
def LK:Rd (PSp jm false) 1 (K78.YD (PSp qo false) (PSp qm false)) YE:=zr ZW YE 1 1000000000 false
def K9 {x0:PyData}:jm [x0]=EI false (ZW.f 1000000000 [.sh x0]):=id rfl
def Z7:PuS (K78.JC (PSp jr false)):=(YQ (sIf (bOr (bTb (bO (YO true) (qA qbM (qg (bV 0) qG)) (ze 2))) (bOr (MA (bTb (qfy (λt=>j2 t "tuple") (bO ZF (bV 0) (ze 1))))) (bTb (bO (YO false) (qA qbM (qg (bO ZF (bV 0) (ze 1)) qG)) (ze 0))))) (VD (bBl false)) Z3) (YQ (sIf (MA (bTb (qA qhg (qg (bLc (CZ (bO ZF (bV 0) (ze 1))) (gN 0) bTt (qA (zk jr false) (qg (bV 0) qG)) [none] ⟨rfl⟩) qG)))) (VD (bBl false)) Z3) (VD (bO (YO false) (qdR (bO ZF (bV 0) (ze 1))) (qA qbM (qg (bO ZF (bV 0) (ze 1)) qG))))))
def zM:List PyData->Option PyData:=Pu.run Z7.f 1 1 1000000000 false
def RN:Rd (PSp zM false) 1 (K78.JC (PSp jr false)) je:=zr Z7 je 1 1000000000 false
def R8 {x0:PyData}:zM [x0]=EI false (Z7.f 1000000000 [.sh x0]):=id rfl
def jS:PuS (K78.J0 (PSp qm false) (PSp qO false) (PSp jm false) (PSp zM false)):=(YQ (sIf (bOr (MA (bTb (qfy (λt=>j2 t "tuple") (bV 0)))) (bOr (bTb (bO (YO false) (qA qbM (qg (bV 0) qG)) (ze 0))) (MA (bTb (qfy (λt=>j2 t "str") (bO ZF (bV 0) (ze 0))))))) (VD (bBl false)) Z3) (YQ (qbu (bO ZF (bV 0) (ze 0)) 1 [true] ⟨rfl⟩) (YQ (sIf (bTb (qoQ zE (bV 1))) (VD (U6 (bO (YO false) (qA qbM (qg (bV 0) qG)) (ze 2)) (qA (zk qm false) (qg (bO ZF (bV 0) (ze 1)) (qg (ze 1) qG))))) Z3) (YQ (sIf (bTb (bO (YO false) (bV 1) (V7 "block"))) (VD (U6 (bO (YO false) (qA qbM (qg (bV 0) qG)) (ze 3)) (qA (zk qO false) (qg (bSl (bV 0) (bSp (ze 1)) bNp) (qg (ze 1) qG))))) Z3) (YQ (sIf (bTb (bO (YO false) (bV 1) (V7 "step"))) (VD (qA (zk jm false) (qg (bV 0) qG))) Z3) (VD (U6 (bO (YO false) (bV 1) (V7 "cells")) (qA (zk zM false) (qg (bV 0) qG)))))))))
def qs:List PyData->Option PyData:=Pu.run jS.f 1 2 1000000000 false
def L8:Rd (PSp qs false) 1 (K78.J0 (PSp qm false) (PSp qO false) (PSp jm false) (PSp zM false)) Z2:=zr jS Z2 1 1000000000 false
def JE {x0:PyData}:qs [x0]=EI false (jS.f 1000000000 [.sh x0,.un]):=id rfl
def JJ:PuS (K78.JG):=(VD (NX (V7 " ") (qg (bLc (CZ (bV 0)) (gN 0) bTt (qA (EF true) (qg (bV 0) qG)) [none] ⟨rfl⟩) qG)))
def qJ:List PyData->Option PyData:=Pu.run JJ.f 1 1 1000000000 false
def SL:Rd (PSp qJ false) 1 (K78.JG) JF:=zr JJ JF 1 1000000000 false
def RJ {x0:PyData}:qJ [x0]=EI false (JJ.f 1000000000 [.sh x0]):=id rfl
def YH:PuS (K78.YC (PSp qJ false)):=(VD (NX (V7 " / ") (qg (bLc (CZ (bV 0)) (gN 0) bTt (qA (zk qJ false) (qg (bV 0) qG)) [none] ⟨rfl⟩) qG)))
def ju:List PyData->Option PyData:=Pu.run YH.f 1 1 1000000000 false
def K0:Rd (PSp ju false) 1 (K78.YC (PSp qJ false)) J4:=zr YH J4 1 1000000000 false
def K3 {x0:PyData}:ju [x0]=EI false (YH.f 1000000000 [.sh x0]):=id rfl
def jP:PuS (K78.QV (PSp ju false) (PSp qJ false)):=(YQ (sIf (bTb (bO (YO false) (bO ZF (bV 0) (ze 0)) (V7 "cells"))) (VD (bFs (qlf "cells " (qjf (qA (zk ju false) (qg (bO ZF (bV 0) (ze 1)) qG)) qio)))) Z3) (VD (qA (zk qJ false) (qg (bV 0) qG))))
def qL:List PyData->Option PyData:=Pu.run jP.f 1 1 1000000000 false
def CU:Rd (PSp qL false) 1 (K78.QV (PSp ju false) (PSp qJ false)) jL:=zr jP jL 1 1000000000 false
def V3 {x0:PyData}:qL [x0]=EI false (jP.f 1000000000 [.sh x0]):=id rfl
def zi:PuS (K78.zD):=(YQ (qbu (bIf (bTb (qbi (bV 0) (qg (V7 "-") qG))) (qmK (bV 0) (bSp (ze 1)) bNp) (bV 0)) 1 [true] ⟨rfl⟩) (YQ (sIf (bOr (MA (bTb (bCh (opB λi j=>decide (i<=j)) (opB λi j=>decide (i<=j)) (ze 1) (qA qkK (qg (bV 1) qG)) (ze 4)))) (MA (bTb (qA qhg (qg (bLc (ql4 (bV 1)) (gN 0) bTt (bO qe7 (bV 0) (V7 "0123456789")) [none] ⟨rfl⟩) qG))))) qlx Z3) (YQ (qbu (qA qf0 (qg (bV 0) qG)) 2 [true] ⟨rfl⟩) (YQ (sIf (bTb (bO (YO true) (qA (EF true) (qg (bV 2) qG)) (bV 0))) qlx Z3) (N6 2)))))
def qC:List PyData->Option PyData:=Pu.run zi.f 1 3 1000000000 false
def Y0:Rd (PSp qC false) 1 (K78.zD) zC:=zr zi zC 1 1000000000 false
def VH {x0:PyData}:qC [x0]=EI false (zi.f 1000000000 [.sh x0,.un,.un]):=id rfl
def j6:PuS (K78.j5 (PSp qC false)):=(VD (qA qkV (qg (bLc (CZ (bV 0)) (gN 0) bTt (qA (zk qC false) (qg (bV 0) qG)) [none] ⟨rfl⟩) qG)))
def qB:List PyData->Option PyData:=Pu.run j6.f 1 1 1000000000 false
def XE:Rd (PSp qB false) 1 (K78.j5 (PSp qC false)) j3:=zr j6 j3 1 1000000000 false
def WL {x0:PyData}:qB [x0]=EI false (j6.f 1000000000 [.sh x0]):=id rfl
def UI:PuS (zh (cb3 JM (qc (lc3 (Q9 (v3 1)) (gn3 0) tt3 (cb3 (PSp qB false) (qc (v3 0) qk)) [none]) qk))):=(VD (qA qkV (qg (bLc (CZ (bV 1)) (gN 0) bTt (qA (zk qB false) (qg (bV 0) qG)) [none] ⟨rfl⟩) qG)))
def jO:List PyData->Option PyData:=qaP UI
def KZ:Rd (PSp jO false) 1 (K78.U9 (PSp qB false)) J2:=M5 UI J2 rfl
def ZQ:PuS (K78.J9 (PSp jO false) (PSp qB false) (PSp qs false)):=(YQ (qkh (qdd (bV 0) (qg (V7 " ") qG)) 1 2 [true] ⟨rfl⟩) (YQ (qbu (bIf (bTb (bO (YO false) (bV 1) (V7 "cells"))) (CG (qg (bV 1) (qg (qA (zk jO false) (qg (bV 2) qG)) qG)) ⟨rfl⟩) (bO DQ (CG (qg (bV 1) qG) ⟨rfl⟩) (qA (zk qB false) (qg (bV 2) qG)))) 3 [false,true,true] ⟨rfl⟩) (YQ (sIf (MA (bTb (qA (zk qs false) (qg (bV 3) qG)))) qlx Z3) (N6 3))))
def zB:List PyData->Option PyData:=Pu.run ZQ.f 1 4 1000000000 false
def LW:Rd (PSp zB false) 1 (K78.J9 (PSp jO false) (PSp qB false) (PSp qs false)) ZX:=zr ZQ ZX 1 1000000000 false
def DO {x0:PyData}:zB [x0]=EI false (ZQ.f 1000000000 [.sh x0,.un,.un,.un]):=id rfl
def UK:PuS (K78.UL (PSp Pv.qH true) (PSp qs false)):=(YQ (qbu (qjC (CZ (qA (zk Pv.qH true) (qg (bV 0) qG))) (qb2 2 (JZ (gN 0) (JZ (gN 1) qbY))) bTt (CZ (qA (zk Pv.qH true) (qg (bV 4) qG))) (qb2 2 (JZ (gN 2) (JZ (gN 3) qbY))) bTt (CG (qg (bO UC (bO (opC J1 (·*·)) (bV 0) (bV 5)) (bV 2)) (qg (bO UC (bO (opC J1 (·*·)) (bV 1) (bV 6)) (bV 3)) qG)) ⟨rfl⟩) [none,none,none,none,some 1,some 2,some 3] ⟨rfl⟩ ⟨rfl⟩ ⟨rfl⟩) 4 [true,true,true,true] ⟨rfl⟩) (YQ (qbu (CG (qg (V7 "cells") (qg (qA qkV (qg (bV 4) qG)) qG)) ⟨rfl⟩) 5 [false,false,false,false,true] ⟨rfl⟩) (YQ (sIf (MA (bTb (qA (zk qs false) (qg (bV 5) qG)))) qlx Z3) (N6 5))))
def jZ:List PyData->Option PyData:=Pu.run UK.f 4 6 1000000000 false
def qaK:Rd (PSp jZ false) 4 (K78.UL (PSp Pv.qH true) (PSp qs false)) UM:=zr UK UM 4 1000000000 false
def qaF {x0 x1 x2 x3:PyData}:jZ [x0,x1,x2,x3]=EI false (UK.f 1000000000 [.sh x0,.sh x1,.sh x2,.sh x3,.un,.un]):=id rfl
def zj:PuS (K78.zF):=(YQ (sIf (bTb (bO (YO true) (bO ZF (bV 0) (ze 0)) (V7 "cells"))) (VD (bO DQ (qgK (qg (bO ZF (bV 0) (ze 0)) qG) ⟨rfl⟩) (bLc (CZ (qlD (bV 0) (bSp (ze 1)) bNp)) (gN 0) bTt (qA (EF true) (qg (bV 0) qG)) [none] ⟨rfl⟩))) Z3) (YQ (qbu (qgK (qg (V7 "cells") qG) ⟨rfl⟩) 1 [] ⟨rfl⟩) (YQ (qos (qf9 (qg (bO ZF (bV 0) (ze 1)) qG)) (qb2 2 (JZ (gN 2) (JZ (gN 3) qbY))) (qbu (bO DQ (bO DQ (bV 1) (qlD (qgK (qg (V7 "/") qG) ⟨rfl⟩) bNp (bSp (bV 2)))) (qgK (qg (qA (EF true) (qg (bO ZF (bV 3) (ze 0)) qG)) (qg (qA (EF true) (qg (bO ZF (bV 3) (ze 1)) qG)) qG)) ⟨rfl⟩)) 1 [false,true,true,true] ⟨rfl⟩) [true] ⟨rfl⟩) (N6 1))))
def qw:List PyData->Option PyData:=Pu.run zj.f 1 4 1000000000 false
def Y7:Rd (PSp qw false) 1 (K78.zF) zG:=zr zj zG 1 1000000000 false
def QK {x0:PyData}:qw [x0]=EI false (zj.f 1000000000 [.sh x0,.un,.un,.un]):=id rfl
def J6:PwS 0 (K78.YL Bk.qV):=(qbx (qfr (eO UC (eOf (ze 1)) (eDr X7 (aOf (qg (ze 16) qG)))) 1 [] ⟨rfl⟩ ⟨rfl⟩) (qbx (qfr (qgP (V9 (eO (opI (·-·)) (eDr X7 (aOf (qg (ze 31) qG))) (eOf (ze 15))) (V9 (eO (opI (·-·)) (eDr X7 (aOf (qg (ze 31) qG))) (eOf (ze 15))) (aOf qG))) ⟨rfl⟩) 2 [] ⟨rfl⟩ ⟨rfl⟩) (qbx (wIf (cTb (eO (YO false) (eDr X7 (aOf (qg (ze 2) qG))) (eOf (ze 0)))) (qh4 (eOf (CG (qg (V7 "cells") (qg (CG (qg (bV 2) (qg (CG (qg (bO ZF (bV 2) (ze 0)) (qg (bO UC (bO ZF (bV 2) (ze 1)) (bO ZF (qgK (qg (ze 1) (qg (qoX (ze 1)) qG)) ⟨rfl⟩) (qA qnT (qg (bO (YO false) (bO ZF (bV 2) (ze 1)) (ze 15)) qG)))) qG)) ⟨rfl⟩) qG)) ⟨rfl⟩) qG)) ⟨rfl⟩))) qbU) (qh4 (eOf (CG (qg (V7 "step") (qg (bO ZF (bV 2) (ze 0)) (qg (bO UC (bO ZF (bV 2) (ze 1)) (qA qnT (qg (bO (YO false) (bV 2) (CG (qg (ze 0) (qg (ze 0) qG)) ⟨rfl⟩)) qG))) (qg (bV 1) qG)))) ⟨rfl⟩))))))
def QH:Wm:=qoT J6 1 3 false
def KT:Rd (DSp QH.W false) 1 (K78.YL Bk.qV) Z4:=qfL J6 Z4 1 false
def KN {n:Nat} {Q:QD}:QH.W [] n Q=(0+1=1/\J6.w [.un,.un,.un] n (qmX false Q)):=id rfl
def qmx (S_law_pick:Sp3) (S_spread:Sp3) (S_law_walk:Sp3) (S_law_far:Sp3) (S_law_walk_words:Sp3) (S_walk_text:Sp3) (S_walk_of:Sp3) (S_is_walk:Sp3) (S_law_same:Sp3):TS3:=(zd (jc (o3 jX (c3 (.int 1)) (cb3 S_law_pick (qc (v3 2) (qc (c3 (.int 4)) qk)))) (gn3 3)) (zd (jc (QE (qc (c3 (.str "block")) (qc (o3 jX (c3 (.int 1)) (cb3 S_law_pick (qc (v3 2) (qc (c3 (.int 2)) qk)))) (qc (c3 (.int 2)) qk)))) (gn3 4)) (zd (jc (cb3 S_spread (qc (QE (qc (c3 (.str "block")) (qc (v3 3) (qc (o3 jX (c3 (.int 1)) (cb3 S_law_pick (qc (v3 2) (qc (o3 (iC qbw (·/·)) (c3 (.int 16)) (v3 3)) qk)))) qk)))) (qc (v3 4) (qc (c3 (.int 2)) (qc (c3 (.int 2)) qk))))) (gn3 5)) (C6 (Q9 (QE (qc (cb3 S_law_walk (qc (v3 2) qk)) (qc (cb3 S_law_walk (qc (v3 2) qk)) (qc (cb3 S_law_far (qc (v3 2) qk)) (qc (QE (qc (c3 (.str "cells")) (qc (QE (qc (QE (qc (c3 (.int 0)) (qc (c3 (.int 0)) qk))) qk)) qk))) (qc (v3 5) qk))))))) (gn3 6) (zd (NK 7 8 (qc (LN XS (c3 (.str " ")) (qc (cb3 S_law_walk_words (qc (v3 6) qk)) qk)) (qc (cb3 (UB true) (qc (v3 6) qk)) qk))) (C6 (VQ (qc (c3 (.int 2)) qk)) (gn3 9) (zd (jx (or3 (tb3 (o3 (zK true) (cb3 S_walk_text (qc (v3 6) qk)) (v3 7))) (tb3 (o3 (zK true) (cb3 (UB true) (qc (v3 6) qk)) (v3 8)))) (zh (c3 (.bl false))) qS) (zd (jc (cb3 S_walk_of (qc (v3 7) qk)) (gn3 10)) (jx (or3 (RV (tb3 (cb3 S_law_same (qc (v3 10) (qc (v3 6) qk))))) (or3 (tb3 (o3 (qlU true) (cb3 S_is_walk (qc (v3 10) qk)) (c3 (.bl true)))) (tb3 (o3 (zK true) (cb3 S_walk_text (qc (v3 10) qk)) (v3 7))))) (zh (c3 (.bl false))) qS)))))))))
def WU:=((qbx (wIf (cOf (bOr (bTb (bO (YO true) (qA (zk qL false) (qg (bV 6) qG)) (bV 7))) (bTb (bO (YO true) (qA (EF true) (qg (bV 6) qG)) (bV 8))))) (qh4 (eOf (bBl false))) qbU) (qbx (qfr (eOf (qA (zk zB false) (qg (bV 7) qG))) 10 [false,false,false,false,false,false,false,true] ⟨rfl⟩ ⟨rfl⟩) (wIf (cOf (bOr (MA (bTb (qA (qlj 3) (qg (bV 10) (qg (bV 6) qG))))) (bOr (bTb (bO (qiI true) (qA (zk qs false) (qg (bV 10) qG)) (bBl true))) (bTb (bO (YO true) (qA (zk qL false) (qg (bV 10) qG)) (bV 7)))))) (qh4 (eOf (bBl false))) qbU))):PwS 2 _)
def XB:=((qbx (qol (aOf (qg (NX (V7 " ") (qg (qA (zk qw false) (qg (bV 6) qG)) qG)) (qg (qA (EF true) (qg (bV 6) qG)) qG))) 7 8 [false,false,false,false,false,false,true] ⟨rfl⟩ ⟨rfl⟩) (qmw (iOf (qgN (qg (ze 2) qG))) (gN 9) WU [] ⟨rfl⟩ ⟨rfl⟩)):PwS 2 _)
def qcI:PwS 2 (qmx Bk.qV (PSp jZ false) Bk.j9 (DSp QH.W false) (PSp qw false) (PSp qL false) (PSp zB false) (PSp qs false) (Bk.ja 4)):=(qbx (qfr (eO UC (eOf (ze 1)) (eDr X7 (aOf (qg (ze 4) qG)))) 3 [] ⟨rfl⟩ ⟨rfl⟩) (qbx (qfr (qgP (V9 (eOf (V7 "block")) (V9 (eO UC (eOf (ze 1)) (eDr X7 (aOf (qg (ze 2) qG)))) (aOf (qg (ze 2) qG)))) ⟨rfl⟩) 4 [] ⟨rfl⟩ ⟨rfl⟩) (qbx (qfr (qe8 (zk jZ false) (V9 (qgP (V9 (eOf (V7 "block")) (V9 (eOf (bV 3)) (V9 (eO UC (eOf (ze 1)) (eDr X7 (aOf (qg (bO (opC qbw (·/·)) (ze 16) (bV 3)) qG)))) (aOf qG)))) ⟨rfl⟩) (aOf (qg (bV 4) (qg (ze 2) (qg (ze 2) qG)))))) 5 [false,false,false,true,true] ⟨rfl⟩ ⟨rfl⟩) (qmw (iS (qgP (V9 (eDr TY (aOf qG)) (V9 (eDr TY (aOf qG)) (V9 (eDr (dSp QH false) (aOf qG)) (aOf (qg (CG (qg (V7 "cells") (qg (CG (qg (CG (qg (ze 0) (qg (ze 0) qG)) ⟨rfl⟩) qG) ⟨rfl⟩) qG)) ⟨rfl⟩) (qg (bV 5) qG)))))) ⟨rfl⟩)) (gN 6) XB [false,false,false,false,false,true] ⟨rfl⟩ ⟨rfl⟩))))
def qje (h:∀ k:Nat,k<=60->qcI.w [.un,.sh (.int k),.un,.un,.un,.un,.un,.un,.un,.un,.un] 0 okW):Rd WB 1 (K78.qe4 Bk.QX Bk.qV (PSp jZ false) Bk.j9 (DSp QH.W false) (PSp qw false) (PSp qL false) (PSp zB false) (PSp qs false) (Bk.ja 4)) qa2:=qcz qcI qa2 10 8 ⟨by decide,by decide⟩ rfl h
open Pv (qgL)
def ls (x:Str):List Nat:=x.cps.toList
def qdj {a b:Str} (h:ls a=ls b):a=b:=Str.ext' (Array.toList_inj.mp h)
def NP (a b:Str):ls (a++b)=ls a++ls b:=by unfold ls;rw [Str.cps_append,Array.toList_append]
def jn:List (List Nat)->List Nat
 |[]=>[]
 |[x]=>x
 |x::y::r=>x++32::jn (y::r)
def VI:∀ ys:List Str,ls (Txt.join " " ys)=jn (ys.map ls)
 |[]=>rfl
 |[x]=>by
  show ls (Builtin.Str.glued " " [x])=_;rw [StrLaws.glued_eq_join];rfl
 |x::y::r=>by
  have ih:=VI (y::r);show ls (Builtin.Str.glued " " (x::y::r))=_;rw [StrLaws.glued_eq_join];have e:Str.join " " (x::y::r)=x++" " ++ Str.join " " (y::r):=rfl;rw [e,NP,NP,← StrLaws.glued_eq_join];show ls x++[32]++ls (Txt.join " " (y::r))=_;rw [ih];simp [jn]
def qfB {x y t u:List Nat} (hx:32∉x) (hy:32∉y) (ht:t=[]\/∃ t',t=32::t') (hu:u=[]\/∃ u',u=32::u') (h:x++t=y++u):x=y/\t=u:=by
 induction x generalizing y with
 |nil=>
  cases y with
  |nil=>exact ⟨rfl,h⟩
  |cons b y=>
   rcases ht with rfl|⟨t',rfl⟩
   ·cases h
   ·simp only [List.nil_append,cons_append,List.cons.injEq] at h;exact absurd (h.1▸List.mem_cons_self) hy
 |cons a x ih=>
  cases y with
  |nil=>
   rcases hu with rfl|⟨u',rfl⟩
   ·cases h
   ·simp only [List.nil_append,cons_append,List.cons.injEq] at h;exact absurd (h.1▸List.mem_cons_self) hx
  |cons b y=>
   simp only [cons_append,List.cons.injEq] at h;obtain ⟨e1,e2⟩:=ih (λz=>hx (List.mem_cons_of_mem _ z)) (λz=>hy (List.mem_cons_of_mem _ z)) h.2;exact ⟨by rw [h.1,e1],e2⟩
def NT (x:List Nat) (r:List (List Nat)):jn (x::r)=x++(match r with|[]=>[]|y::s=>32::jn (y::s)):=by
 cases r with
 |nil=>simp [jn]
 |cons y s=>rfl
def qeI:∀ {xs ys:List (List Nat)},xs≠[]->ys≠[]->(∀ x∈xs,32∉x)->(∀ y∈ys,32∉y)->jn xs=jn ys->xs=ys
 |[],_,h,_,_,_,_=>absurd rfl h
 |_::_,[],_,h,_,_,_=>absurd rfl h
 |x::r,y::s,_,_,hx,hy,h=>by
  rw [NT,NT] at h;obtain ⟨e1,e2⟩:=qfB (hx x (by simp)) (hy y (by simp)) (by cases r<;>simp) (by cases s<;>simp) h;subst e1;cases r with
  |nil=>
   cases s with
   |nil=>rfl
   |cons b s=>cases e2
  |cons a r=>
   cases s with
   |nil=>cases e2
   |cons b s=>
    simp only [List.cons.injEq,true_and] at e2;rw [qeI (by simp) (by simp) (λz hz=>hx z (by simp only [mem_cons] at hz ⊢;exact .inr hz)) (λz hz=>hy z (by simp only [mem_cons] at hz ⊢;exact .inr hz)) e2]
def num (i:Int):Str:=Str.ofString (toString i)
def TX {i:Int} {k:Nat} (hk:k≠45/\(k<48\/57<k)):k∉ls (num i):=PyProof.Rows.int_text_free' k hk i
def rws:Bool->List (List Int)->List Str
 |_,[]=>[]
 |b,r::t=>(if b then (":" : Str) else ("/" : Str))::(r.map num++rws false t)
def lsA (a b:Str):ls (a++b)=ls a++ls b:=NP a b
def NH:∀ {xs ys:List (List Nat)},xs≠[]->ys≠[]->jn (xs++ys)=jn xs++32::jn ys
 |[],_,h,_=>absurd rfl h
 |[x],y::ys,_,_=>rfl
 |[x],[],_,h=>absurd rfl h
 |x::z::r,ys,_,hy=>by
  have ih:=NH (xs:=z::r) (by simp) hy;show x++32::jn (z::(r++ys))=_;rw [show z::(r++ys)=(z::r)++ys from rfl,ih];simp [jn]
def qoz {x:List Nat} {ys:List (List Nat)} (hy:ys≠[]):jn (x::ys)=x++32::jn ys:=NH (xs:=[x]) (by simp) hy
def qel {n:Nat}:∀ {ys:List Str},(∀ y∈ys,y.length<=n)->(ys.map (·.length)).sum<=n*ys.length
 |[],_=>by simp
 |y::r,h=>by
  have:=qel (ys:=r) λz hz=>h z (by simp [hz]);have:=h y (by simp);simp only [map_cons,List.sum_cons,length_cons,Nat.mul_succ];omega
def KL (sep:Str):∀ ys:List Str,(Str.join sep ys).length<=(ys.map (·.length)).sum+ys.length*sep.length
 |[]=>by show Str.empty.length<=_;simp [Str.empty,Str.length]
 |[x]=>by show x.length<=_;simp
 |x::y::r=>by
  have ih:=KL sep (y::r);show (x++sep++Str.join sep (y::r)).length<=_;rw [Str.length_append,Str.length_append];simp only [map_cons,List.sum_cons,length_cons,Nat.add_mul,Nat.one_mul] at ih ⊢;omega
def qi7 (sep:Str) (ys:List Str):(Txt.join sep ys).length<=(ys.map (·.length)).sum+ys.length*sep.length:=by
 show (Builtin.Str.glued sep ys).length<=_;rw [StrLaws.glued_eq_join];exact KL sep ys
def XA {i:Int} (h:-1000000000<=i/\i<=1000000000):(num i).length<=12:=by
 have:=int_text_length_le10 (a:=i) (k:=10) (by decide) (by omega);unfold num;rw [ofString_length];omega
def tkD:PyData->Str
 |.str s=>s
 |.int i=>num i
 |_=>Str.empty
def O1:PyData->Prop
 |.str s=>s.length<=12
 |.int i=>-1000000000<=i/\i<=1000000000
 |_=>False
def qlc {x:PyData} (h:O1 x):(tkD x).length<=12:=by
 cases x with
 |str s=>exact h
 |int i=>exact XA h
 |_=>exact h.elim
def MY {x:PyData} (h:O1 x):CB true [x]=some (.str (tkD x)):=by
 cases x with
 |str s=>exact qj1
 |int i=>exact S7 h
 |_=>exact h.elim
def qlq {ds:List PyData} {H:PyData->Option (Option PyData)} (hh:∀ d∈ds,H d=some (some (.str (tkD d)))):lcP H ds=some ((ds.map tkD).map PyData.str):=by
 have:=QC (g:=id) (xs:=ds) (k:=λd=>PyData.str (tkD d)) hh;rw [List.map_id] at this;rw [this,map_map];rfl
def jb {n m:Nat} {sep:Str} {ys:List Str} (h:∀ y∈ys,y.length<=n) (hl:ys.length<=m) (hs:sep.length<=3) (hb:(n+3)*m<=16777216):SN sep ys/\(Txt.join sep ys).length<=(n+3)*m:=by
 have a:=qel h;have b:=qi7 sep ys;have c:n*ys.length<=n*m:=Nat.mul_le_mul_left _ hl;have d:ys.length*sep.length<=m*3:=Nat.mul_le_mul hl hs;rw [Nat.add_mul] at hb ⊢;unfold SN;omega
def qoH {ds:List PyData} (h:∀ x∈ds,O1 x) (hl:ds.length<=100000):qJ [.tuple ds]=some (.str (Txt.join " " (ds.map tkD))):=by
 rw [RJ];unfold JJ;have lc:=J8 (pi:=(CZ (bV 0)).f) (h:=lcH (gN 0).f bTt.f (qA (EF true) (qg (bV 0) qG)).f) (m:=[none]) (ρ:=[.sh (.tuple ds)]) (ds:=ds) (fs:=(ds.map tkD).map PyData.str) (by try simp only [Pu.pwA]) (qlq λd hd=>by try simp only [Pu.pwA,U1,ZU,MY (h d hd)]) (by simp;omega);simp only [Pu.pwA] at lc;have j:=(jb (n:=12) (m:=100000) (sep:=" ") (ys:=ds.map tkD) (λy hy=>by obtain ⟨x,hx,rfl⟩:=mem_map.mp hy;exact qlc (h x hx)) (by simpa using hl) (by decide) (by decide)).1
 try simp only [Pu.pwA,R4,lc,W4 j]
def qaV {r:List Int}:(r.map PyData.int).map tkD=r.map num:=by rw [map_map];rfl
def rt (r:List Int):Str:=Txt.join " " (r.map num)
def NB (r:List Int):Prop:=∀ i∈r,-1000000000<=i/\i<=1000000000
def qmm {r:List Int} (h:NB r):∀ x∈r.map PyData.int,O1 x:=λx hx=>by
 obtain ⟨i,hi,rfl⟩:=mem_map.mp hx;exact h i hi
def qpn {cells:List (List Int)} (h:∀ r∈cells,NB r/\r.length<=100) (hl:cells.length<=100):ju [.tuple (cells.map qgL)]=some (.str (Txt.join " / " (cells.map rt)))/\(Txt.join " / " (cells.map rt)).length<=200000:=by
 have rl:∀ r∈cells,(rt r).length<=1500:=λr hr=>(jb (n:=12) (m:=100) (sep:=" ") (ys:=r.map num) (λy hy=>by obtain ⟨x,hx,rfl⟩:=mem_map.mp hy;exact XA ((h r hr).1 x hx)) (by simpa using (h r hr).2) (by decide) (by decide)).2;have j:=jb (n:=1500) (m:=100) (sep:=" / ") (ys:=cells.map rt) (λy hy=>by obtain ⟨x,hx,rfl⟩:=mem_map.mp hy;exact rl x hx) (by simpa using hl) (by decide) (by decide);refine ⟨?_,by have:=j.2;omega⟩;rw [K3];unfold YH;have lc:=J8 (pi:=(CZ (bV 0)).f) (h:=lcH (gN 0).f bTt.f (qA (zk qJ false) (qg (bV 0) qG)).f) (m:=[none]) (ρ:=[.sh (.tuple (cells.map qgL))]) (ds:=cells.map qgL) (fs:=(cells.map rt).map PyData.str) (by try simp only [Pu.pwA]) (by
  rw [map_map];refine QC λr hr=>?_;have:=qoH (qmm (h r hr).1) (by have:=(h r hr).2;simp;omega);rw [qaV] at this
  try simp only [Pu.pwA,U1,qgL,this]
  rfl) (by simp;omega)
 simp only [Pu.pwA] at lc
 try simp only [Pu.pwA,R4,lc,W4 j.1]
def rw2:List (List Int)->List Str
 |[]=>[]
 |r::t=>r.map num++rws false t
def qpf (sep:Str) (x y:Str) (r:List Str):ls (Txt.join sep (x::y::r))=ls x++ls sep++ls (Txt.join sep (y::r)):=by
 show ls (Builtin.Str.glued sep (x::y::r))=_++ls (Builtin.Str.glued sep (y::r));rw [StrLaws.glued_eq_join,StrLaws.glued_eq_join];show ls (x++sep++Str.join sep (y::r))=_;rw [lsA,lsA]
def qnl (sep x:Str):Txt.join sep [x]=x:=by
 show Builtin.Str.glued sep [x]=_;rw [StrLaws.glued_eq_join];rfl
def qaG:∀ {cells:List (List Int)},cells≠[]->(∀ r∈cells,r≠[])->ls (Txt.join " / " (cells.map rt))=jn ((rw2 cells).map ls)
 |[],h,_=>absurd rfl h
 |[r],_,hr=>by
  rw [map_cons,List.map_nil,qnl,rt,VI];simp [rw2,rws]
 |r::s::t,_,hr=>by
  have ih:=qaG (cells:=s::t) (by simp) λx hx=>hr x (by simp only [mem_cons] at hx ⊢;exact .inr hx);have hne:r≠[]:=hr r (by simp);have hs:s≠[]:=hr s (by simp);rw [map_cons,map_cons,qpf,← map_cons,ih,rt,VI];have e:(rw2 (r::s::t)).map ls=(r.map num).map ls++(ls ("/" : Str)::(rw2 (s::t)).map ls):=by
   simp [rw2,rws]
  rw [e,NH (by simpa using hne) (by simp),qoz (by simp [rw2,hs])];show _++[32,47,32]++_=_++32::([47]++32::_);simp
end K78
namespace K78
open PySem L2 L3 Pu Pv
open Bk (Wk YF qF zQ lnD lnA nzW SD SDs)
def q1:j2 "int" "int" = true:=rfl
def q2:j2 "int" "bool" = false:=rfl
def q3:j2 "tuple" "tuple" = true:=rfl
def q4:j2 "str" "str" = true:=rfl
def qbT {i:Int}:qo [.int i]=some (.bool true):=by
 rw [CD]
 try simp only [Pu.pwA,ZE,q1,q2,Bool.not_false]
def qmt {p:Int×Int}:jr [pD p]=some (.bool true):=by
 have t2:((1+1:Nat):Int)=2:=rfl;rw [LO]
 try simp only [Pu.pwA,YM,pD,q3,t2,qbT,decide_true]
def ql9 {ps:List (Int×Int)} (l1:1<=ps.length) (l2:ps.length<=306):zM [.tuple [.str "cells",.tuple (ps.map pD)]]=some (.bool (decide ps.Nodup)):=by
 have t2:((0+1+1:Nat):Int)=2:=rfl;have ne':¬ (((ps.map pD).length:Int)=0):=by simp;intro z;rw [z] at l1;simp at l1
 have ls:=qgB (ps:=ps) l2;rw [show (ps.map λp=>PyData.tuple [.int p.1,.int p.2])=ps.map pD from rfl] at ls;have un:decide ((qhx ps:Int)=((ps.map pD).length:Int))=decide ps.Nodup:=by
  rw [length_map];refine decide_eq_decide.mpr ?_;rw [← qcR];omega
 rw [R8]
 try simp only [Pu.pwA,Z7,length_cons,length_nil,t2,q3,ne',decide_true,decide_false,Bool.not_true]
 rw [J8 (ds:=ps.map pD) (fs:=ps.map λ_=>PyData.bool true)]
 ·have al:(ps.map λ_=>PyData.bool true)=(ps.map λ_=>true).map PyData.bool:=by rw [map_map];rfl
  have al':(ps.map λ_=>true).all id=true:=by simp
  rw [al]
  try simp only [Pu.pwA,DM,al',qcy,ls,un,Bool.not_true]
 ·try simp only [Pu.pwA]
 ·refine QC λp hp=>?_
  try simp only [Pu.pwA,U1,qmt]
 ·simp;omega
def qmH {ps:List (Int×Int)} (l1:1<=ps.length) (l2:ps.length<=306):qs [.tuple [.str "cells",.tuple (ps.map pD)]]=some (.bool (decide ps.Nodup)):=by
 have t0:¬ (((0+1+1:Nat):Int)=0):=by decide
 have b1:(zS zE "cells").isSome=false:=by decide
 rw [JE]
 try simp only [Pu.pwA,jS,q3,q4,t0,b1,L3.E7,L3.W5,ql9 l1 l2,length_cons,length_nil,decide_true,decide_false,Bool.not_true]
def qcK {i l:Int}:qm [.int i,.int l]=some (.bool (decide (l<=i))):=by
 rw [E8]
 try simp only [Pu.pwA,jE,qbT]
def ql1 {xs:List Int} {l:Int} (hx:∀ x∈xs,l<=x) (hl:xs.length<=1000):qO [.tuple (xs.map PyData.int),.int l]=some (.bool true):=by
 rw [U0]
 try simp only [Pu.pwA,jj]
 rw [J8 (ds:=xs.map PyData.int) (fs:=(xs.map λ_=>true).map PyData.bool)]
 ·have al':(xs.map λ_=>true).all id=true:=by simp
  try simp only [Pu.pwA,DM,al']
 ·try simp only [Pu.pwA]
 ·rw [map_map];refine QC λx hx'=>?_
  try simp only [Pu.pwA,U1,qcK,decide_eq_true (hx x hx'),Function.comp_def]
 ·simp;omega
def t2':((0+1+1:Nat):Int)=2:=rfl
def t3':((0+1+1+1:Nat):Int)=3:=rfl
def t4':((0+1+1+1+1:Nat):Int)=4:=rfl
def qkw {d a:Int} {m:Nat} (h:d≠0\/a≠0) (m1:1<=m):qs [Wk.d (.step d a m)]=some (.bool true):=by
 have t0:¬ (((0+1+1+1+1:Nat):Int)=0):=by decide
 have b1:(zS zE "step").isSome=false:=by decide
 have m1':decide ((1:Int)<=(m:Int))=true:=decide_eq_true (by omega);have st:jm [.tuple [.str "step",.int d,.int a,.int (m:Int)]]=some (.bool true):=by
  rw [K9];by_cases c:d=0
  ·have c2:¬ a=0:=λz=>h.elim (λy=>y c) λy=>y z
   try simp only [Pu.pwA,ZW,length_cons,length_nil,t4',qbT,qcK,m1',c,c2,decide_true,decide_false,Bool.not_true,Bool.not_false]
  ·try simp only [Pu.pwA,ZW,length_cons,length_nil,t4',qbT,qcK,m1',c,decide_true,decide_false,Bool.not_true,Bool.not_false]
 rw [JE]
 try simp only [Pu.pwA,jS,Wk.d,q3,q4,t0,b1,L3.J3,st,eq_self,length_cons,length_nil,decide_true,decide_false,Bool.not_true]
def qiD {s:Str} {m:Nat} (b1:(zS zE s).isSome=true) (m1:1<=m):qs [.tuple [.str s,.int (m:Int)]]=some (.bool true):=by
 have t0:¬ ((2:Int)=0):=by decide
 have m1':decide ((1:Int)<=(m:Int))=true:=decide_eq_true (by omega);rw [JE]
 try simp only [Pu.pwA,jS,q3,q4,t0,t2',b1,qcK,m1',length_cons,length_nil,decide_true,decide_false,Bool.not_true]
def qhf {s:Str} {x y:PyData}:slD (.tuple [.str s,x,y]) (some 1) none=some (.tuple [x,y]):=qa9 (by simp [HT.sIx])
def Gw:Wk->Prop
 |.line k m=>k<4/\1<=m/\m<=40
 |.block h v=>(1<=h/\h<=40)/\(1<=v/\v<=40)
 |.step d a m=>(-40<=d/\d<=40)/\(-40<=a/\a<=40)/\(1<=m/\m<=40)/\(d≠0\/a≠0)
 |.cells ps=>1<=ps.length/\ps.length<=64/\ps.Nodup/\∀ p∈ps,(-40<=p.1/\p.1<=40)/\(-40<=p.2/\p.2<=40)
def qk1 {w:Wk} (ok:w.Ok) (nz:nzW w):Gw w:=by
 cases w with
 |line k m=>obtain ⟨h1,h2,h3⟩:=ok;exact ⟨h1,h2,by omega⟩
 |block h v=>obtain ⟨h1,h2,h3,h4,h5⟩:=ok;exact ⟨by omega,by omega⟩
 |step d a m=>obtain ⟨h1,h2,h3,h4⟩:=ok;exact ⟨by omega,by omega,by omega,nz⟩
 |cells ps=>
  obtain ⟨h1,h2,h3,h4⟩:=ok;exact ⟨h1,by omega,h3,λp hp=>by have:=h4 p hp;omega⟩
def qce {w:Wk} (g:Gw w):qs [Wk.d w]=some (.bool true):=by
 cases w with
 |line k m=>
  obtain ⟨h1,h2,h3⟩:=g;have:(k=0\/k=1\/k=2\/k=3):=by omega
  rcases this with rfl|rfl|rfl|rfl<;>exact qiD (by decide) h2
 |block h v=>
  obtain ⟨h1,h2⟩:=g;have t0:¬ ((3:Int)=0):=by decide
  have b1:(zS zE "block").isSome=false:=by decide
  have aa:=ql1 (xs:=[(h:Int),(v:Int)]) (l:=1) (by simp;omega) (by simp);simp only [map_cons,List.map_nil] at aa;rw [JE]
  try simp only [Pu.pwA,jS,Wk.d,q3,q4,t0,t3',b1,qhf,aa,eq_self,length_cons,length_nil,decide_true,decide_false,Bool.not_true]
 |step d a m=>exact qkw g.2.2.2 g.2.2.1.1
 |cells ps=>
  obtain ⟨h1,h2,h3,_⟩:=g;have:=qmH (ps:=ps) h1 (by omega);rw [decide_eq_true h3] at this;exact this
end K78
namespace K78
open PySem L2 L3 Pu Pv
open Bk (Wk zQ SD SDs)
abbrev sD (ys:List Str):PyData:=.list (ys.map PyData.str)
def qhk {xs ys:List PyData} (h:xs.length+ys.length<=16777216):qbQ (.list xs) (.list ys)=some (.list (xs++ys)):=za h
def qgp {xs ys:List Str} (h:xs.length+ys.length<=16777216):qbQ (.list (xs.map PyData.str)) (.list (ys.map PyData.str))=some (.list ((xs++ys).map PyData.str)):=by
 rw [List.map_append];exact qhk (by simpa using h)
def qft {ds:List PyData} {s:Sl} (h:∀ x∈ds,O1 x):lcP (lcH (gN 0).f bTt.f (qA (EF true) (qg (bV 0) qG)).f [s]) ds=some ((ds.map tkD).map PyData.str):=qlq λd hd=>by try simp only [Pu.pwA,U1,ZU,MY (h d hd)]
def pt (s:Str) (xs:List Int):Str:=Txt.join " " (s::xs.map num)
def qoi {s:Str} {xs:List Int} (hs:¬ s="cells") (hl:s.length<=12) (hx:NB xs) (ln:xs.length<=100):qL [.tuple (.str s::xs.map PyData.int)]=some (.str (pt s xs)):=by
 have iw:=qoH (ds:=.str s::xs.map PyData.int) (λz hz=>by
  rcases mem_cons.mp hz with rfl|hz
  ·exact hl
  ·exact qmm hx z hz) (by simp;omega)
 rw [map_cons,qaV] at iw;rw [V3]
 try simp only [Pu.pwA,jP,hs,decide_false,iw]
 rfl
def ql0 {s:Str} {xs:List Int} (hs:¬ s="cells") (hx:NB xs) (ln:xs.length<=100) (s1:slA (.tuple (.str s::xs.map PyData.int)) (some 1) none=some (.tuple (xs.map PyData.int))):qw [.tuple (.str s::xs.map PyData.int)]=some (sD (s::xs.map num)):=by
 have l1:=J8 (pi:=(CZ (qlD (bV 0) (bSp (ze 1)) bNp)).f) (h:=lcH (gN 0).f bTt.f (qA (EF true) (qg (bV 0) qG)).f) (m:=[none]) (ρ:=[.sh (.tuple (.str s::xs.map PyData.int)),.un,.un,.un]) (ds:=xs.map PyData.int) (fs:=(xs.map num).map PyData.str) (by try simp only [Pu.pwA,CP,s1]) (by
   have:=qft (s:=.un) (qmm hx);rw [qaV] at this;exact this) (by simp;omega)
 simp only [CP,Pu.pwA] at l1;have ca:qbQ (.list [.str s]) (.list ((xs.map num).map PyData.str))=some (sD (s::xs.map num)):=qgp (xs:=[s]) (by simp;omega);rw [QK]
 try simp only [Pu.pwA,zj,hs,decide_false,CP,UP,l1,ca,Bool.not_false]
def pr (p:Int×Int):List Int:=[p.1,p.2]
def qo9 (ps:List (Int×Int)):ps.map pD=(ps.map pr).map qgL:=by rw [map_map];rfl
def csW (ps:List (Int×Int)):List Str:="cells" :: rw2 (ps.map pr)
def qcA {t:List (List Int)} {r:List Int}:rws false (t++[r])=rws false t++("/" : Str)::r.map num:=by
 induction t with
 |nil=>simp [rws]
 |cons a t ih=>simp [rws,ih]
def qb4 {t:List (List Int)} {r:List Int}:rw2 (t++[r])=rw2 t++((if t=[] then [] else [("/" : Str)])++r.map num):=by
 cases t with
 |nil=>simp [rw2,rws]
 |cons a t=>simp [rw2,qcA]
def qgb (t:List (Int×Int)):(rws false (t.map pr)).length=3*t.length:=by
 induction t with
 |nil=>rfl
 |cons a t ih=>simp [rws,ih,pr];omega
def W7 (t:List (Int×Int)):(rw2 (t.map pr)).length<=3*t.length:=by
 cases t with
 |nil=>simp [rw2]
 |cons a t=>simp [rw2,qgb,pr];omega
def qmU {ps:List (Int×Int)} (l1:1<=ps.length) (l2:ps.length<=64) (hp:∀ p∈ps,(-40<=p.1/\p.1<=40)/\(-40<=p.2/\p.2<=40)):qL [.tuple [.str "cells",.tuple (ps.map pD)]]=some (.str (Txt.join " " (csW ps))):=by
 have hne:ps.map pr≠[]:=by intro z;rw [List.map_eq_nil_iff.mp z] at l1;simp at l1
 have hr:∀ r∈ps.map pr,r≠[]:=λr hr=>by obtain ⟨p,_,rfl⟩:=mem_map.mp hr;simp [pr]
 obtain ⟨ir,il⟩:=qpn (cells:=ps.map pr) (λr hr=>by
  obtain ⟨p,hq,rfl⟩:=mem_map.mp hr;have:=hp p hq;exact ⟨λi hi=>by simp [pr] at hi;rcases hi with rfl|rfl<;>omega,by simp [pr]⟩) (by simp;omega)
 rw [← qo9] at ir;have gl:RY ["cells ",Txt.join " / " ((ps.map pr).map rt)]=Txt.join " " (csW ps):=by
  refine qdj ?_;unfold RY RY RY;rw [lsA,lsA,qaG hne hr,VI];have n2:(rw2 (ps.map pr)).map ls≠[]:=by
   cases ps with
   |nil=>exact absurd rfl hne
   |cons p t=>simp [rw2,pr]
  unfold csW;rw [map_cons,qoz n2];have l1:ls ("cells " : Str)=ls ("cells" : Str)++[32]:=by decide
  have l3:ls Str.empty=[]:=by decide
  rw [l1,l3];simp
 have gb:(RY ["cells ",Txt.join " / " ((ps.map pr).map rt)]).length<=sizeLine:=by
  show ("cells " ++ (Txt.join " / " ((ps.map pr).map rt)++Str.empty)).length<=_;rw [Str.append_empty,Str.length_append,sizeLine_eq];have:("cells " : Str).length=6:=by decide
  omega
 rw [V3]
 try simp only [Pu.pwA,jP,qmu,qfe,qe2,qfk,ir,qnh,Option.bind_some,Option.map_some,decide_true]
 rw [za gb,gl];rfl
def T7 {n:Nat}:slA (.list [.str "/"]) none (some (n:Int))=some (.list ((if n=0 then [] else [("/" : Str)]).map PyData.str)):=by
 show some (PyData.list (XN _ _ _))=_;have:XN [PyData.str "/"] none (some (n:Int))=[PyData.str "/"].take n:=by
  unfold XN;rw [HT.qfR,HT.qcH,List.drop_zero,Nat.sub_zero,List.take_eq_take_iff];omega
 rw [this];cases n with
 |zero=>rfl
 |succ m=>simp
def qnK {ps:List (Int×Int)} (l2:ps.length<=64) (hp:∀ p∈ps,(-40<=p.1/\p.1<=40)/\(-40<=p.2/\p.2<=40)):qw [.tuple [.str "cells",.tuple (ps.map pD)]]=some (sD (csW ps)):=by
 rw [QK]
 try simp only [Pu.pwA,zj,decide_true,Bool.not_true]
 rw [qfM pD ps 0];refine qfa (Q:=λo=>EI false o=_) (ps.zipIdx 0) (λi ρ=>∃ s2 s3:Sl,∃ f:List PyData,(ρ=[.sh (.tuple [.str "cells",.tuple (ps.map pD)]),.ow f,s2,s3]\/ρ=[.sh (.tuple [.str "cells",.tuple (ps.map pD)]),.sh (.list f),s2,s3])/\f=(csW (ps.take i)).map PyData.str) ⟨_,_,_,.inl rfl,by simp [csW,rw2]⟩ ?_ ?_
 ·rintro i ⟨p,n⟩ ρ hx ⟨s2,s3,f,hρ,hf⟩;obtain ⟨hr,rfl,hi⟩:=K5 hx;have hq:=hp p (mem_of_getElem? hr);have tk:ps.take (n+1)=ps.take n++[p]:=by rw [List.take_add_one,hr];rfl
  have tz:(ps.take n).map pr=[]↔n=0:=by
   rw [List.map_eq_nil_iff,List.take_eq_nil_iff];constructor
   ·rintro (z|z)
    ·exact z
    ·rw [z] at hr;simp at hr
   ·exact .inl
  have fl:(csW (ps.take n)).length<=200:=by
   have:=W7 (ps.take n);have:=List.length_take_le n ps;simp only [csW,length_cons];have h3:(ps.take n).length<=ps.length:=by rw [List.length_take];omega
   omega
  have c1:=qgp (xs:=csW (ps.take n)) (ys:=if n=0 then [] else [("/" : Str)]) (by split<;>simp<;>omega);have c2:=qgp (xs:=csW (ps.take n)++(if n=0 then [] else [("/" : Str)])) (ys:=[num p.1,num p.2]) (by simp;split<;>simp<;>omega);have fin:(csW (ps.take n)++(if n=0 then [] else [("/" : Str)]))++[num p.1,num p.2]=csW (ps.take (n+1)):=by
   rw [tk];unfold csW;rw [List.map_append,map_cons,List.map_nil,qb4];by_cases c:n=0
   ·simp [c,pr,rw2]
   ·have:¬ (ps.take n).map pr=[]:=λz=>c (tz.mp z);simp only [c,this,if_false];simp [pr]
  rw [fin] at c2;have s1:=S7 (st:=true) (i:=p.1) (by omega);have s2':=S7 (st:=true) (i:=p.2) (by omega);simp only [map_cons,List.map_nil] at c2;rw [← hf] at c1;have c3':qbQ (.list (List.map PyData.str (csW (ps.take n)++if n=0 then [] else [("/" : Str)]))) (.list [.str (Str.ofString (toString p.1)),.str (Str.ofString (toString p.2))])=some (.list ((csW (ps.take (n+1))).map PyData.str)):=c2;rcases hρ with rfl|rfl
  ·try simp only [Pu.pwA,pD,ZU,s1,s2',UP,EL,CP,T7,c1,c3']
   exact ⟨_,_,_,.inr rfl,rfl⟩
  ·try simp only [Pu.pwA,pD,ZU,s1,s2',UP,EL,CP,T7,c1,c3']
   exact ⟨_,_,_,.inr rfl,rfl⟩
 ·rintro ρ ⟨s4,s5,f,hρ,hf⟩;rw [List.length_zipIdx,List.take_length] at hf;rcases hρ with rfl|rfl
  ·try simp only [Pu.pwA,hf]
  ·try simp only [Pu.pwA,hf]
end K78
namespace K78
open PySem L2 L3 Pu Pv
def fg (w:Str):Str:=if Txt.startswith w "-" then Txt.slice w (some 1) none else w
def chk (i:Int):Bool:=let w:=num i;let f:=fg w
 decide (1<=f.length)&&decide (f.length<=4)&&f.cps.all (·<128)&&(V2 f).all (λs=>Txt.contains "0123456789" s)&&decide (w.length<=640)&&decide (PySem.intText? w=some i)
def qfs:(List.range 81).all (λj=>chk ((j:Int)-40))=true:=by decide +kernel
def qlh {i:Int} (h:-40<=i/\i<=40):chk i=true:=by
 have:=List.all_eq_true.mp qfs (i+40).toNat (mem_range.mpr (by omega));rw [show (((i+40).toNat:Nat):Int)-40=i by omega] at this;exact this
def qog {i:Int} (h:-40<=i/\i<=40):qC [.str (num i)]=some (.int i):=by
 have c:=qlh h;simp only [chk,Bool.and_eq_true,decide_eq_true_eq] at c;obtain ⟨⟨⟨⟨⟨c1,c2⟩,c3⟩,c4⟩,c5⟩,c6⟩:=c;have it:qbc [.str (num i)]=some (.int i):=by simp only [qbc,if_pos c5,c6];rfl
 have lc:=J8 (pi:=(ql4 (bV 1)).f) (h:=lcH (gN 0).f bTt.f (bO qe7 (bV 0) (V7 "0123456789")).f) (m:=[none]) (ρ:=[.sh (.str (num i)),.sh (.str (fg (num i))),.un]) (ds:=(V2 (fg (num i))).map PyData.str) (fs:=((V2 (fg (num i))).map λs=>Txt.contains "0123456789" s).map PyData.bool) (by
  try simp only [Pu.pwA,KF,qlL,if_pos c3]) (by
  rw [map_map];refine QC λs hs=>?_
  try simp only [Pu.pwA,U1,XU,qlM,Function.comp_def]) (by simp only [V2,length_map,Array.length_toList];exact Nat.le_trans c2 (by decide))
 have al:((V2 (fg (num i))).map λs=>Txt.contains "0123456789" s).all id=true:=by
  rw [List.all_map];exact c4
 simp only [KF,XU,Pu.pwA] at lc;have sh:CB true [.int i]=some (.str (num i)):=S7 (by omega);have d1:decide ((1:Int)<=((fg (num i)).length:Int))=true:=decide_eq_true (by omega);have d2:decide (((fg (num i)).length:Int)<=4)=true:=decide_eq_true (by omega);have ln:qgn [.str (fg (num i))]=some (.int ((fg (num i)).length:Int)):=za (by rw [sizeLine_eq];omega);rw [VH];by_cases c:Txt.startswith (num i) "-" = true
 ·have e:fg (num i)=Txt.slice (num i) (some 1) none:=if_pos c;have sl:qlO (.str (num i)) (some 1) none=some (.str (fg (num i))):=by
   rw [e] at c2 ⊢;exact za (by rw [sizeLine_eq];omega)
  try simp only [Pu.pwA,zi,C9,UW,c,qdN,NM,sl,MV,ln,d1,d2,lc,DM,al,qaI,T8,it,ZU,sh,XU,KF,Bool.not_true]
 ·have e:fg (num i)=num i:=if_neg c;have c':Txt.startswith (num i) "-" = false:=by simpa using c
  rw [e] at ln d1 d2 lc al
  try simp only [Pu.pwA,zi,C9,UW,c',qdN,NM,MV,ln,d1,d2,lc,DM,al,qaI,T8,it,ZU,sh,XU,KF,Bool.not_true]
def qjs {xs:List Int} (h:∀ x∈xs,-40<=x/\x<=40) (hl:xs.length<=1000):qB [sD (xs.map num)]=some (.tuple (xs.map PyData.int)):=by
 have lc:=J8 (pi:=(CZ (bV 0)).f) (h:=lcH (gN 0).f bTt.f (qA (zk qC false) (qg (bV 0) qG)).f) (m:=[none]) (ρ:=[.sh (sD (xs.map num))]) (ds:=(xs.map num).map PyData.str) (fs:=xs.map PyData.int) (by try simp only [Pu.pwA,sD]) (by
  rw [map_map];refine QC λx hx=>?_
  try simp only [Pu.pwA,U1,Function.comp_def,qog (h x hx)]) (by simp;omega)
 simp only [Pu.pwA] at lc;rw [WL]
 try simp only [Pu.pwA,j6,lc]
def qjb {i:Int} {x:Str} {k:Nat} (hk:k≠45/\(k<48\/57<k)) (hx:k∈ls x):num i≠x:=λe=>TX (i:=i) hk (e▸hx)
def qo1 {i:Int}:num i≠"/" := qjb (k:=47) (by decide) (by decide)
def EH:∀ (r:List Int) (ws:List Str) (acc:List (List Str)) (cur:List Str),ZY (r.map num++ws) acc cur=ZY ws acc (cur++r.map num)
 |[],_,_,_=>by simp
 |i::r,ws,acc,cur=>by
  rw [map_cons,cons_append,RW,if_neg qo1,EH];simp
def C7:∀ (t:List (List Int)) (acc:List (List Str)) (cur:List Str),ZY (rws false t) acc cur=acc++[cur]++t.map (λr=>r.map num)
 |[],_,_=>by simp [rws,ZY]
 |r::t,acc,cur=>by
  show ZY (("/" : Str)::(r.map num++rws false t)) acc cur=_;rw [RW,if_pos rfl,EH,C7];simp
def M8 {t:List (List Int)} (h:t≠[]):ZY (rw2 t) [] []=t.map λr=>r.map num:=by
 cases t with
 |nil=>exact absurd rfl h
 |cons r t=>
  show ZY (r.map num++rws false t) [] []=_;rw [EH,C7];simp
def qmB {ps:List (Int×Int)} (l1:1<=ps.length) (l2:ps.length<=64) (hp:∀ p∈ps,(-40<=p.1/\p.1<=40)/\(-40<=p.2/\p.2<=40)):jO [sD (rw2 (ps.map pr))]=some (.tuple (ps.map pD)):=by
 have hne:ps.map pr≠[]:=by intro z;rw [List.map_eq_nil_iff.mp z] at l1;simp at l1
 have ln:=W7 ps;have lc:=J8 (pi:=(CZ (bV 1)).f) (h:=lcH (gN 0).f bTt.f (qA (zk qB false) (qg (bV 0) qG)).f) (m:=[none]) (ρ:=[.sh (sD (rw2 (ps.map pr))),.sh (.list (((ps.map pr).map λr=>r.map num).map wsD)),.un]) (ds:=((ps.map pr).map λr=>r.map num).map wsD) (fs:=ps.map pD) (by try simp only [Pu.pwA]) (by
  rw [map_map,map_map];refine QC λp hq=>?_;have:=qjs (xs:=pr p) (λx hx=>by have:=hp p hq;simp [pr] at hx;rcases hx with rfl|rfl<;>omega) (by simp [pr]);simp only [U1,Function.comp_def,wsD,sD] at this ⊢
  try simp only [Pu.pwA,this]
  rfl) (by simp;omega)
 simp only [Pu.pwA] at lc;show qaP UI [.list ((rw2 (ps.map pr)).map PyData.str)]=_;unfold qaP;simp only [RC,Option.bind_some];rw [za (by omega),M8 hne];simp only [UI,sD,wsD,Pu.pwA] at lc ⊢
 try simp only [Pu.pwA,lc]
def qoV {ws:List Str} (hne:ws≠[]) (hb:∀ w∈ws,32∉ls w):Txt.split (Txt.join " " ws) " " = ws:=by
 have bl:(" " : Str)=⟨#[32]⟩:=by decide
 have h1:=StrLaws.join_split (Txt.join " " ws) " ";have h2:Txt.join " " (Txt.split (Txt.join " " ws) " ")=Txt.join " " ws:=by
  show Builtin.Str.glued " " (Txt.split (Txt.join " " ws) " ")=_;rw [StrLaws.glued_eq_join];exact h1
 have h3:=congrArg ls h2;rw [VI,VI] at h3;have hp:Txt.split (Txt.join " " ws) " " ≠ []:=by
  intro z;have:=PyProof.Rows.split_pos (Txt.join " " ws) " ";rw [z] at this;simp at this
 have h4:=qeI (by simpa using hp) (by simpa using hne) (λx hx=>by
  obtain ⟨y,hy,rfl⟩:=mem_map.mp hx;rw [bl] at hy;exact StrLaws.split_free _ 32 y hy) (λx hx=>by obtain ⟨y,hy,rfl⟩:=mem_map.mp hx;exact hb y hy) h3
 exact (List.map_inj_right (λ_ _=>qdj)).mp h4
def qkz {i:Int}:32∉ls (num i):=TX (by decide)
def qmi {s:Str} {xs:List Int} (hs:¬ s="cells") (hl:s.length<=12) (hb:32∉ls s) (hx:∀ x∈xs,-40<=x/\x<=40) (ln:xs.length<=100) (hw:qs [.tuple (.str s::xs.map PyData.int)]=some (.bool true)):zB [.str (pt s xs)]=some (.tuple (.str s::xs.map PyData.int)):=by
 have sp:=qoV (ws:=s::xs.map num) (by simp) λw hw=>by
  rcases mem_cons.mp hw with rfl|hw
  ·exact hb
  ·obtain ⟨i,_,rfl⟩:=mem_map.mp hw;exact qkz
 have tl:=(jb (n:=12) (m:=101) (sep:=" ") (ys:=s::xs.map num) (λy hy=>by
  rcases mem_cons.mp hy with rfl|hy
  ·exact hl
  ·obtain ⟨i,hi,rfl⟩:=mem_map.mp hy;exact XA (by have:=hx i hi;omega)) (by simp;omega) (by decide) (by decide)).2
 have so:WE (.str (pt s xs)) [.str " "]=some (.list (.str s::(xs.map num).map PyData.str)):=by
  rw [SY (by decide) (by rw [sizeLine_eq];unfold pt;omega)];unfold pt;rw [sp];rfl
 have st:qaq (.list (.str s::(xs.map num).map PyData.str))=some [.str s,.list ((xs.map num).map PyData.str)]:=if_pos (by simp;omega);have nn:=qjs hx (by omega);have ca:qbQ (.tuple [.str s]) (.tuple (xs.map PyData.int))=some (.tuple (.str s::xs.map PyData.int)):=qjQ (by simp;omega);rw [DO]
 try simp only [Pu.pwA,ZQ,qbb,T9,so,st,hs,decide_false,nn,UP,EL,ca,hw,sD,Option.bind_some,Bool.not_true]
def qfO {r:List Int} (h:NB r):∀ w∈r.map num,32∉ls w/\w.length<=12:=λw hw=>by
 obtain ⟨i,hi,rfl⟩:=mem_map.mp hw;exact ⟨qkz,XA (h i hi)⟩
def qh9:∀ {t:List (List Int)},(∀ r∈t,NB r)->∀ w∈rws false t,32∉ls w/\w.length<=12
 |[],_,w,hw=>by cases hw
 |r::t,h,w,hw=>by
  have hw:w∈("/" : Str)::(r.map num++rws false t):=hw;rcases mem_cons.mp hw with rfl|hw
  ·exact ⟨by decide,by decide⟩
  ·rcases List.mem_append.mp hw with hw|hw
   ·exact qfO (h r (by simp)) w hw
   ·exact qh9 (λx hx=>h x (by simp [hx])) w hw
def qmD {t:List (List Int)} (h:∀ r∈t,NB r):∀ w∈rw2 t,32∉ls w/\w.length<=12:=by
 cases t with
 |nil=>intro w hw;cases hw
 |cons r t=>
  intro w hw;have hw:w∈r.map num++rws false t:=hw;rcases List.mem_append.mp hw with hw|hw
  ·exact qfO (h r (by simp)) w hw
  ·exact qh9 (λx hx=>h x (by simp [hx])) w hw
def qmR {ps:List (Int×Int)} (hp:∀ p∈ps,(-40<=p.1/\p.1<=40)/\(-40<=p.2/\p.2<=40)):∀ w∈csW ps,32∉ls w/\w.length<=12:=by
 intro w hw;rcases mem_cons.mp hw with rfl|hw
 ·exact ⟨by decide,by decide⟩
 ·refine qmD (t:=ps.map pr) (λr hr=>?_) w hw;obtain ⟨p,hq,rfl⟩:=mem_map.mp hr;intro i hi;have:=hp p hq;simp [pr] at hi;rcases hi with rfl|rfl<;>omega
def qnJ {ps:List (Int×Int)} (l1:1<=ps.length) (l2:ps.length<=64) (hp:∀ p∈ps,(-40<=p.1/\p.1<=40)/\(-40<=p.2/\p.2<=40)) (hw:qs [.tuple [.str "cells",.tuple (ps.map pD)]]=some (.bool true)):zB [.str (Txt.join " " (csW ps))]=some (.tuple [.str "cells",.tuple (ps.map pD)]):=by
 have sp:=qoV (ws:=csW ps) (by simp [csW]) λw hw=>(qmR hp w hw).1;have ln:=W7 ps;have tl:=(jb (n:=12) (m:=200) (sep:=" ") (ys:=csW ps) (λy hy=>(qmR hp y hy).2) (by simp [csW];omega) (by decide) (by decide)).2;have so:WE (.str (Txt.join " " (csW ps))) [.str " "]=some (.list (.str "cells" :: (rw2 (ps.map pr)).map PyData.str)):=by
  rw [SY (by decide) (by rw [sizeLine_eq];omega),sp];rfl
 have st:qaq (.list (.str "cells" :: (rw2 (ps.map pr)).map PyData.str))=some [.str "cells",.list ((rw2 (ps.map pr)).map PyData.str)]:=if_pos (by simp;omega);have nn:=qmB l1 l2 hp;rw [DO]
 try simp only [Pu.pwA,ZQ,qbb,T9,so,st,decide_true,nn,hw,sD,Option.bind_some,Bool.not_true]
open Bk (Wk zQ)
def wkT:Wk->Str
 |.line k m=>pt (zQ k) [(m:Int)]
 |.block h v=>pt "block" [(h:Int),(v:Int)]
 |.step d a m=>pt "step" [d,a,(m:Int)]
 |.cells ps=>Txt.join " " (csW ps)
def wkW:Wk->List Str
 |.line k m=>zQ k::[(m:Int)].map num
 |.block h v=>"block" :: [(h:Int),(v:Int)].map num
 |.step d a m=>"step" :: [d,a,(m:Int)].map num
 |.cells ps=>csW ps
def qm4 {k:Nat} (h:k<4):¬ zQ k="cells"/\(zQ k).length<=12/\32∉ls (zQ k):=by
 have:(k=0\/k=1\/k=2\/k=3):=by omega
 rcases this with rfl|rfl|rfl|rfl<;>decide
def nb3 {xs:List Int} (h:∀ x∈xs,-40<=x/\x<=40):NB xs:=λi hi=>by have:=h i hi;omega
structure Rdb (w:Wk):Prop where
 wt:qL [Wk.d w]=some (.str (wkT w))
 ww:qw [Wk.d w]=some (sD (wkW w))
 wo:zB [.str (wkT w)]=some (Wk.d w)
 iw:qs [Wk.d w]=some (.bool true)
 jo:LL (.str " ") [sD (wkW w)]=some (.str (wkT w))
def qgG {w:Wk} {s:Str} {xs:List Int} (g:Gw w) (e:Wk.d w=.tuple (.str s::xs.map PyData.int)) (eT:wkT w=pt s xs) (eW:wkW w=s::xs.map num) (hs:¬ s="cells") (hl:s.length<=12) (hb:32∉ls s) (hx:∀ x∈xs,-40<=x/\x<=40) (ln:xs.length<=100) (s1:slA (.tuple (.str s::xs.map PyData.int)) (some 1) none=some (.tuple (xs.map PyData.int))):Rdb w:=by
 have iw:=qce g;refine ⟨?_,?_,?_,iw,?_⟩
 ·rw [e,eT];exact qoi hs hl (nb3 hx) ln
 ·rw [e,eW];exact ql0 hs (nb3 hx) ln s1
 ·rw [e] at iw ⊢;rw [eT];exact qmi hs hl hb hx ln iw
 ·rw [eW,eT];exact W4 (jb (n:=12) (m:=101) (sep:=" ") (ys:=s::xs.map num) (λy hy=>by
   rcases mem_cons.mp hy with rfl|hy
   ·exact hl
   ·exact (qfO (nb3 hx) y hy).2) (by simp;omega) (by decide) (by decide)).1
def rdb {w:Wk} (g:Gw w):Rdb w:=by
 cases w with
 |line k m=>
  have g':=g;obtain ⟨h1,h2,h3⟩:=g';obtain ⟨a,b,c⟩:=qm4 h1;exact qgG g rfl rfl rfl a b c (by simp;omega) (by simp) rfl
 |block h v=>
  have g':=g;obtain ⟨h1,h2⟩:=g';exact qgG g rfl rfl rfl (by decide) (by decide) (by decide) (by simp;omega) (by simp) rfl
 |step d a m=>
  have g':=g;obtain ⟨h1,h2,h3,h4⟩:=g';exact qgG g rfl rfl rfl (by decide) (by decide) (by decide) (by simp;omega) (by simp) rfl
 |cells ps=>
  have g':=g;obtain ⟨h1,h2,h3,h4⟩:=g';have ln:=W7 ps;exact ⟨qmU h1 h2 h4,qnK h2 h4,qnJ h1 h2 h4 (qce g),qce g,W4 (jb (n:=12) (m:=200) (sep:=" ") (ys:=csW ps) (λy hy=>(qmR h4 y hy).2) (by simp [csW];omega) (by decide) (by decide)).1⟩
end K78
namespace K78
open PySem L2 L3 Pu Pv
open Bk (Wk qF zQ)
def spr (cs ds:List (Int×Int)) (R C:Int):List (Int×Int):=cs.flatMap λp=>ds.map λr=>(p.1*R+r.1,p.2*C+r.2)
def sck (h v a:Nat):Bool:=let cs:=spr (qF h v) (qF a 2) 2 2
 decide (1<=cs.length)&&decide (cs.length<=64)&&decide cs.Nodup&&cs.all (λp=>decide (-40<=p.1)&&decide (p.1<=40)&&decide (-40<=p.2)&&decide (p.2<=40))
def qgc:(List.range 4).all (λh=>(List.range 16).all λv=>(List.range 2).all λa=>decide (16<(h+1)*(v+1))||sck (h+1) (v+1) (a+1))=true:=by decide +kernel
def qjc {h v a:Nat} (h1:1<=h/\h<=4) (v1:1<=v/\v<=16) (a1:1<=a/\a<=2) (hv:h*v<=16):sck h v a=true:=by
 have x:=List.all_eq_true.mp qgc (h-1) (mem_range.mpr (by omega));have y:=List.all_eq_true.mp x (v-1) (mem_range.mpr (by omega));have z:=List.all_eq_true.mp y (a-1) (mem_range.mpr (by omega));rw [show h-1+1=h by omega,show v-1+1=v by omega,show a-1+1=a by omega] at z;rcases (Bool.or_eq_true _ _).mp z with z|z
 ·exact absurd (of_decide_eq_true z) (by omega)
 ·exact z
def qi6 {h v a:Nat} (h1:1<=h/\h<=4) (v1:1<=v/\v<=16) (a1:1<=a/\a<=2) (hv:h*v<=16):Gw (.cells (spr (qF h v) (qF a 2) 2 2)):=by
 have z:=qjc h1 v1 a1 hv;simp only [sck,Bool.and_eq_true,decide_eq_true_eq,List.all_eq_true] at z;obtain ⟨⟨⟨z1,z2⟩,z3⟩,z4⟩:=z;exact ⟨z1,z2,z3,λp hp=>by have:=z4 p hp;omega⟩
def qka {h v:Nat} {p:Int×Int} (hp:p∈qF h v):(0<=p.1/\p.1<h)/\(0<=p.2/\p.2<v):=by
 obtain ⟨i,hi,hp⟩:=List.mem_flatMap.mp hp;obtain ⟨j,hj,rfl⟩:=mem_map.mp hp;have:=mem_range.mp hi;have:=mem_range.mp hj;simp;omega
def qme {h v a:Nat} (h1:1<=h/\h<=4) (v1:1<=v/\v<=16) (a1:1<=a/\a<=2) (hv:h*v<=16):jZ [.tuple [.str "block",.int h,.int v],.tuple [.str "block",.int a,.int 2],.int 2,.int 2]=some (Wk.d (.cells (spr (qF h v) (qF a 2) 2 2))):=by
 have c1:=D7 (w:=.block h v) (show h<=1000/\v<=1000 by omega);have c2:=D7 (w:=.block a 2) (show a<=1000/\2<=1000 by omega);have g:=qi6 h1 v1 a1 hv;have iw:=qce g;have c1':qH [.tuple [.str "block",.int (h:Int),.int (v:Int)]]=some (.list ((qF h v).map pD)):=c1;have c2':qH [.tuple [.str "block",.int (a:Int),.int 2]]=some (.list ((qF a 2).map pD)):=c2;have lc:∀ ρ:Rho,ρ=[.sh (.tuple [.str "block",.int (h:Int),.int (v:Int)]),.sh (.tuple [.str "block",.int (a:Int),.int 2]),.sh (.int 2),.sh (.int 2),.un,.un]->(qjC (CZ (qA (zk Pv.qH true) (qg (bV 0) qG))) (qb2 2 (JZ (gN 0) (JZ (gN 1) qbY))) bTt (CZ (qA (zk Pv.qH true) (qg (bV 4) qG))) (qb2 2 (JZ (gN 2) (JZ (gN 3) qbY))) bTt (CG (qg (bO UC (bO (opC J1 (·*·)) (bV 0) (bV 5)) (bV 2)) (qg (bO UC (bO (opC J1 (·*·)) (bV 1) (bV 6)) (bV 3)) qG)) ⟨rfl⟩) [none,none,none,none,some 1,some 2,some 3] ⟨rfl⟩ ⟨rfl⟩ ⟨rfl⟩).f ρ=some (.list ((spr (qF h v) (qF a 2) 2 2).map pD)):=by
  rintro ρ rfl
  try simp only [Pu.pwA]
  rw [qbd (ds:=(qF h v).map pD) (fs:=(spr (qF h v) (qF a 2) 2 2).map pD)]
  ·try simp only [Pu.pwA,c1']
  ·rw [show (spr (qF h v) (qF a 2) 2 2).map pD=(qF h v).flatMap λp=>((qF a 2).map λr=>pD (p.1*2+r.1,p.2*2+r.2)) by unfold spr;rw [List.map_flatMap];congr 1;funext p;rw [map_map];rfl];refine S4 λp hp=>?_;have pl:=qka hp
   try simp only [Pu.pwA,qd6,pD]
   try simp only [Pu.pwA,c2']
   rw [QC (g:=pD) (k:=λr=>pD (p.1*2+r.1,p.2*2+r.2))]
   ·rfl
   ·intro r hr
    try simp (disch:=omega) only [Pu.pwA,U1,pD,qgw]
  ·have:=g.2.1;rw [length_map];omega
 rw [qaF];unfold UK;have l0:=lc _ rfl;simp only [Pu.pwA] at l0
 try simp only [Pu.pwA,l0]
 simp only [iw,Wk.d,Bool.not_true,Pu.pwA] at iw ⊢
 try simp only [Pu.pwA,iw,Bool.not_true]
def qdH {a b c d:Int}:eqD false (.tuple [.int a,.int b]) (.tuple [.int c,.int d])=some (.bool (decide (a=c/\b=d))):=by
 have h:qcD (.tuple [.int a,.int b]) (.tuple [.int c,.int d])=none:=rfl;unfold eqD;rw [h];simp only;rw [za (by simp [dpt,qfQ])];simp only [zN,JY,Option.map_some];congr 2;by_cases h1:a=c<;>by_cases h2:b=d<;>simp [h1,h2]
def qob {n:Nat} {Q:QD} (hn:n<90000) (h:∀ (w:Wk) (m:Nat),Gw w->m<=n+4->Q (Wk.d w) m):QH.W [] n Q:=by
 rw [KN];refine ⟨rfl,?_⟩;unfold J6;have fin:∀ (w:Wk) (m:Nat),Gw w->m<=n+4->∃ m',m<=m'/\Q (Wk.d w) m':=λw m a c=>⟨m,Nat.le_refl _,h w m a c⟩
 refine WQ λY1 h1=>?_
 try simp only [Pu.pwA]
 refine ⟨by omega,by omega,λi i0 i1=>?_⟩;rw [h1];refine WQ λY2 h2=>?_
 try simp only [Pu.pwA]
 refine ⟨by omega,by omega,λj j0 j1=>⟨by omega,by omega,λk k0 k1=>?_⟩⟩;rw [h2];refine WQ λY3 h3=>?_
 try simp only [Pu.pwA]
 refine ⟨by omega,by omega,λl l0 l1=>?_⟩;have g2:∀ y:Int,-40<=y/\y<=40->¬ k-15=y->Gw (.cells [(j-15,k-15),(j-15,y)]):=λy hy hne=>by
  refine ⟨by simp,by simp,by simp [hne],λp hp=>?_⟩;simp only [mem_cons,not_mem_nil,or_false] at hp;rcases hp with rfl|rfl
  ·dsimp only;omega
  ·dsimp only;omega
 by_cases e0:l=0
 ·try simp only [Pu.pwA,e0,decide_true]
  by_cases e1:k-15=15
  ·have a1:atI [PyData.int 1,PyData.int (-1)] 1=some (.int (-1)):=rfl;have d1:decide (k-15=15)=true:=decide_eq_true e1
   try simp only [Pu.pwA,d1,if_true,a1]
   exact fin _ _ (g2 (k-15+-1) (by omega) (by omega)) (by omega)
  ·have a0:atI [PyData.int 1,PyData.int (-1)] 0=some (.int 1):=rfl
   try simp only [Pu.pwA,e1,decide_false,if_false,Bool.false_eq_true,a0]
   exact fin _ _ (g2 (k-15+1) (by omega) (by omega)) (by omega)
 ·try simp only [Pu.pwA,e0,decide_false]
  rw [h3]
  try simp only [Pu.pwA]
  obtain ⟨i',rfl⟩:=Int.eq_ofNat_of_zero_le i0;have ei:(1:Int)+(i':Int)=((i'+1:Nat):Int):=by omega
  by_cases c:j-15=0/\k-15=0
  ·have d1:decide (j-15=0/\k-15=0)=true:=decide_eq_true c;have i1:qgQ [.bool true]=some (.int 1):=rfl
   try simp only [Pu.pwA,qdH,d1,i1,ei]
   exact fin (.step (j-15) (k-15+1) (i'+1)) _ ⟨by omega,by omega,by omega,.inr (by omega)⟩ (by omega)
  ·have d1:decide (j-15=0/\k-15=0)=false:=decide_eq_false c;have i1:qgQ [.bool false]=some (.int 0):=rfl
   try simp only [Pu.pwA,qdH,d1,i1,ei]
   exact fin (.step (j-15) (k-15+0) (i'+1)) _ ⟨by omega,by omega,by omega,by omega⟩ (by omega)
end K78
namespace K78
open PySem L2 L3 Pu Pv
open Bk (Wk qF zQ nzW SD j7 qZ ZL DY JO W8 SDs)
def qnR {w:Wk} (ok:Gw w):SD 4 800 (Pv.Wk.d w):=by
 cases w with
 |line k m=>
  obtain ⟨h1,h2,h3⟩:=ok;have:k=0\/k=1\/k=2\/k=3:=by omega
  refine (j7 (k:=2) (n:=20) ?_).mono (by omega) (by omega);rcases this with rfl|rfl|rfl|rfl<;>exact qZ (n:=6) (m:=5) (DY _ _ (by decide) (by decide)) (qZ (n:=0) (m:=0) (JO _ _ (by omega)) (ZL _ _) (by omega)) (by omega)
 |block h v=>
  obtain ⟨h1,h2⟩:=ok;refine (j7 (k:=2) (n:=20) ?_).mono (by omega) (by omega);exact qZ (n:=5) (m:=5) (DY _ _ (by decide) (by decide)) (qZ (n:=0) (m:=2) (JO _ _ (by omega)) (qZ (n:=0) (m:=0) (JO _ _ (by omega)) (ZL _ _) (by omega)) (by omega)) (by omega)
 |step d a m=>
  obtain ⟨h1,h2,h3,h4⟩:=ok;refine (j7 (k:=2) (n:=20) ?_).mono (by omega) (by omega);exact qZ (n:=4) (m:=8) (DY _ _ (by decide) (by decide)) (qZ (n:=0) (m:=5) (JO _ _ (by omega)) (qZ (n:=0) (m:=2) (JO _ _ (by omega)) (qZ (n:=0) (m:=0) (JO _ _ (by omega)) (ZL _ _) (by omega)) (by omega)) (by omega)) (by omega)
 |cells ps=>
  obtain ⟨h1,h2,_,h4⟩:=ok;have pr:SDs 2 (ps.length*(4+1)) (ps.map Pv.pD):=by
   have:=W8 (k:=2) (n:=4) (ds:=ps.map Pv.pD) (λd hd=>by
    obtain ⟨p,hp,rfl⟩:=mem_map.mp hd;have q:=h4 p hp;exact j7 (k:=1) (qZ (n:=0) (m:=2) (JO _ _ (by omega)) (qZ (n:=0) (m:=0) (JO _ _ (by omega)) (ZL _ _) (by omega)) (by omega)))
   rwa [length_map] at this
  refine (j7 (k:=3) (n:=700) ?_).mono (by omega) (by omega);exact (qZ (n:=5) (m:=500) (DY _ _ (by decide) (by decide)) (qZ (n:=ps.length*(4+1)) (m:=0) (j7 (k:=2) pr) (ZL _ _) (by omega)) (by omega))
def qm8 {w:Wk} (g:Gw w):∃ t:Str,CB true [Wk.d w]=some (.str t):=by
 have z:=(qnR g).w (by decide) (by decide);cases w<;>exact ⟨_,qif z⟩
def qkZ {w:Wk} (g:Gw w):Bk.U5 3 (Wk.d w):=by
 cases w with
 |line k m=>exact ⟨by simp,λd hd=>by simp at hd;rcases hd with rfl|rfl<;>trivial⟩
 |block h v=>exact ⟨by simp,λd hd=>by simp at hd;rcases hd with rfl|rfl|rfl<;>trivial⟩
 |step d a m=>exact ⟨by simp,λd hd=>by simp at hd;rcases hd with rfl|rfl|rfl|rfl<;>trivial⟩
 |cells ps=>
  refine ⟨by simp,λd hd=>?_⟩;simp only [mem_cons,not_mem_nil,or_false] at hd;rcases hd with rfl|rfl
  ·trivial
  ·have:=g.2.1;refine ⟨by rw [length_map];omega,λd hd=>?_⟩;obtain ⟨p,_,rfl⟩:=mem_map.mp hd;refine ⟨by simp,λd hd=>?_⟩;simp only [mem_cons,not_mem_nil,or_false] at hd;rcases hd with rfl|rfl<;>trivial
def qoE {x:Str}:eqD true (.str x) (.str x)=some (.bool false):=by
 try simp only [Pu.pwA]
def qhr:∀ k:Nat,k<=60->qcI.w [.un,.sh (.int k),.un,.un,.un,.un,.un,.un,.un,.un,.un] 0 okW:=by
 intro k hk;unfold qcI;refine WQ λY1 h1=>?_
 try simp only [Pu.pwA]
 refine ⟨by omega,by omega,λi i0 i1=>?_⟩;obtain ⟨i,rfl⟩:=Int.eq_ofNat_of_zero_le i0;rw [show (1:Int)+(i:Int)=((i+1:Nat):Int) by omega,h1];refine WQ λY2 h2=>?_
 try simp only [Pu.pwA]
 refine ⟨by omega,by omega,λa a0 a1=>?_⟩;obtain ⟨a,rfl⟩:=Int.eq_ofNat_of_zero_le a0;rw [show (1:Int)+(a:Int)=((a+1:Nat):Int) by omega,h2];refine WQ λY3 h3=>?_;have dv:4<=16/((i+1:Nat):Int)/\16/((i+1:Nat):Int)<=16:=by
  have:i=0\/i=1\/i=2\/i=3:=by omega
  rcases this with rfl|rfl|rfl|rfl<;>decide
 try simp (disch:=omega) only [Pu.pwA,qj2]
 refine ⟨by omega,by omega,λc c0 c1=>?_⟩;obtain ⟨c,rfl⟩:=Int.eq_ofNat_of_zero_le c0;rw [show (1:Int)+(c:Int)=((c+1:Nat):Int) by omega];have hv:(i+1)*(c+1)<=16:=by
  have:i=0\/i=1\/i=2\/i=3:=by omega
  rcases this with rfl|rfl|rfl|rfl
  ·have:(16:Int)/((0+1:Nat):Int)=16:=by decide
   omega
  ·have:(16:Int)/((1+1:Nat):Int)=8:=by decide
   omega
  ·have:(16:Int)/((2+1:Nat):Int)=5:=by decide
   omega
  ·have:(16:Int)/((3+1:Nat):Int)=4:=by decide
   omega
 have sp:=qme (h:=i+1) (v:=c+1) (a:=a+1) (by omega) (by omega) (by omega) hv;have gt:=qi6 (h:=i+1) (v:=c+1) (a:=a+1) (by omega) (by omega) (by omega) hv;generalize spr (qF (i+1) (c+1)) (qF (a+1) 2) 2 2=told at sp gt;refine ⟨_,sp,?_⟩;have as:∀ ρ:Rho,KW [false,false,false,true,true] false 5 (Wk.d (.cells told)) ρ=(dm [false,false,false,true,true] ρ).set 5 (.sh (Wk.d (.cells told))):=λρ=>rfl;rw [as,h3]
 try simp only [Pu.pwA,qcg,qaS,dm]
 refine ⟨by omega,λw1 o1 z1=>⟨by omega,λw2 o2 z2=>qob (by omega) λw3 m g3 hm=>?_⟩⟩;have g0:Gw (.cells [((0:Int),(0:Int))]):=⟨by simp,by simp,by simp,λp hp=>by rw [List.mem_singleton.mp hp];simp⟩
 have gs:∀ w∈[w1,w2,w3,.cells [((0:Int),(0:Int))],.cells told],Gw w:=by
  intro w hw;simp only [mem_cons,not_mem_nil,or_false] at hw;rcases hw with rfl|rfl|rfl|rfl|rfl
  ·exact qk1 o1 z1
  ·exact qk1 o2 z2
  ·exact g3
  ·exact g0
  ·exact gt
 generalize PyData.tuple [PyData.str (Str.ofString "block"),PyData.int ((a+1:Nat):Int),PyData.int 2]=two;generalize PyData.int ((i+1:Nat):Int)=high;refine KH (f:=Wk.d) [w1,w2,w3,.cells [((0:Int),(0:Int))],.cells told] XB.mn (λ_ ρ n=>∃ s6 s7 s8 s9 s10,ρ=[.un,.sh (.int k),.un,.sh high,.sh two,.sh (Wk.d (.cells told)),s6,s7,s8,s9,s10]) ⟨_,_,_,_,_,rfl⟩ ?_ ?_
 ·rintro j w ρ n hw ⟨s6,s7,s8,s9,s10,rfl⟩;have g:=gs w (mem_of_getElem? hw);have rd:=rdb g;obtain ⟨tx,sh⟩:=qm8 g;have jo:=rd.jo;refine ⟨_,rfl,?_⟩;unfold XB;refine WQ λY4 h4=>?_;simp only [rd.ww,sD,ZU,sh,R4,qcn,Pu.pwA] at jo ⊢
  try simp only [Pu.pwA,jo]
  refine ⟨_,rfl,?_⟩;rw [qaU,h4]
  try simp (disch:=omega) only [Pu.pwA,qlT]
  refine KH (KS 0 (2:Int).toNat) WU.mn (λ_ ρ n'=>∃ s9 s10,ρ=[.un,.sh (.int k),.un,.sh high,.sh two,.sh (Wk.d (.cells told)),.sh (Wk.d w),.sh (.str (wkT w)),.sh (.str tx),s9,s10]) ⟨_,_,rfl⟩ ?_ ?_
  ·rintro t x ρ n' hx ⟨s9,s10,rfl⟩;refine ⟨_,rfl,?_⟩;unfold WU;refine WQ λY5 h5=>?_
   try simp only [Pu.pwA,rd.wt,ZU,sh,qoE]
   rw [h5];refine WQ λY6 h6=>?_
   try simp only [Pu.pwA,rd.wo]
   rw [h6];have sm:=qfN (n:=3) (qkZ g)
   try simp only [Pu.pwA,sm,rd.iw,rd.wt,qoE,Bool.not_true]
   exact ⟨false,rfl,_,_,rfl⟩
  ·rintro ρ n' ⟨s9,s10,rfl⟩;exact ⟨_,_,_,_,_,rfl⟩
 ·rintro ρ n ⟨s6,s7,s8,s9,s10,rfl⟩
  try simp only [Pu.pwA]
end K78
namespace K78
open PySem L2 L3 Bk
abbrev qku : Env := { scope := PySem.Challenge.pw_bankwalk_k78_walks_written_and_read.main.scope,locals := mainNs,globals := mainNs,cells := [],code := .ref 13,frame := some 14 }
abbrev qaE : List Stmt := PySem.W.behindTheImports PySem.Challenge.pw_bankwalk_k78_walks_written_and_read
abbrev WY:Code:=.body qaE qku
abbrev qhJ:List Frame:=[PySem.W.topFrame ⟨0,0,0,0⟩]
def zH:Obj:=Hd.oT []
def ZG:Obj:=⟨.none,none,.fields #[],#[]⟩
def qlz:Obj:=Hd.oC [.str "<module>" 182,.str "<module>" 183,.str "/claim/cut.py" 184,.int (1) 0,.int (0) 0,.int (0) 0,.int (0) 0,.int (0) 0,.ref 11,.bool false,.int (181) 0,.ref 12,.none,.none,.none,.none,.int (185) 0,.int (1) 0,.str "/claim/cut.py" 186]
def qlI:Obj:=⟨.type "frame",none,.plain,#[some (.ref 13),some (.ref 3),some (.ref 3),none,some (.str "__main__" 164),none,some (.ref 0)]⟩
def qjr (P:Params):Heap:=⟨Array.mk [PySem.W.boot_o_0 P,PySem.W.boot_o_1 P,PySem.W.boot_o_2 P,PySem.W.boot_o_3 P,PySem.W.boot_o_4 P,PySem.W.boot_o_5 P,PySem.W.boot_o_6 P,PySem.W.boot_o_7 P,PySem.W.boot_o_8 P,PySem.W.boot_o_9 P,PySem.W.boot_o_10 P,zH,ZG,qlz,qlI],{ }⟩
def qkL (P:Params):PySem.W.BT:=(Hd.nd (PySem.W.boot_o_0 P) (Hd.nd (PySem.W.boot_o_1 P) (Hd.nd (PySem.W.boot_o_3 P) (Hd.lf (PySem.W.boot_o_7 P)) (Hd.lf zH)) (Hd.nd (PySem.W.boot_o_5 P) (Hd.lf (PySem.W.boot_o_9 P)) (Hd.lf qlz))) (Hd.nd (PySem.W.boot_o_2 P) (Hd.nd (PySem.W.boot_o_4 P) (Hd.lf (PySem.W.boot_o_8 P)) (Hd.lf ZG)) (Hd.nd (PySem.W.boot_o_6 P) (Hd.lf (PySem.W.boot_o_10 P)) (Hd.lf qlI))))
set_option maxRecDepth 100000 in
set_option maxHeartbeats 0 in
def qli (w : World) (os : OsState) : PySem.W.topGo treeTable PySem.Challenge.pw_bankwalk_k78_walks_written_and_read w 11 (some (Value.ref 6)) 12 ⟨PySem.W.boot_heap w.params,Array.mk [],PySem.W.boot_drawn,PySem.W.boot_toks,os⟩ (PySem.W.topStub PySem.Challenge.pw_bankwalk_k78_walks_written_and_read) = some (⟨qjr w.params,#[],{ },187,os⟩,⟨denote treeTable WY,WY,⟨0,0,0,0⟩,qhJ⟩) := by kernel_rfl
set_option maxRecDepth 100000 in
set_option maxHeartbeats 0 in
def qhA (w : World) (os : OsState) : PySem.W.segRun treeTable PySem.Challenge.pw_bankwalk_k78_walks_written_and_read w 11 (some (Value.ref 6)) 1 1 ⟨qjr w.params,#[],{ },187,os⟩ (PySem.W.blockOf qaE qku WY ⟨0,0,0,0⟩ qhJ) = some (.next,(⟨qkL w.params,15,{ },#[],{ },187,os⟩ : PySem.W.SharedT).abs,WY,⟨0,0,0,0⟩) := by kernel_rfl
def qpu (P:Params):Obj:=Hd.oD P 17 [(.str "__name__" 165,.str "bankwalk.walks" 269),(.str "__doc__" 166,.none),(.str "__package__" 167,.none),(.str "__loader__" 168,.builtin "__main__.__loader__#opaque"),(.str "__spec__" 169,.none),(.str "__annotations__" 170,.ref 6),(.str "__builtins__" 171,.ref 4),(.str "__file__" 173,.str "/claim/cut.py" 172),(.str "__cached__" 174,.none),(.str "is_number" 195,.ref 21),(.str "is_at_least" 203,.ref 28),(.str "are_at_least" 209,.ref 33),(.str "is_pair" 216,.ref 40),(.str "BankError" 236,.ref 50),(.str "NoWalk" 252,.ref 63),(.str "BadText" 268,.ref 75),(.str "STRIDES" 288,.ref 78)]
def qo7:Obj:=⟨.none,none,.fields #[.int (2) 0,.int (0) 0,.ref 20,.int (4) 0,.int (0) 0,.ref 27,.int (6) 0,.int (0) 0,.ref 32,.int (8) 0,.int (0) 0,.ref 39,.int (11) 0,.int (0) 0,.ref 46,.int (13) 0,.int (0) 0,.ref 59,.int (15) 0,.int (0) 0,.ref 71],#[]⟩
def qoq:Obj:=Hd.oN je 192
def qov:Obj:=Hd.oG "is_number" jp
def qnP:Obj:=Hd.oK "is_number" 189 2 1 181 15 16 .none (.ref 17) (.ref 18) 19 193 194
def qfl:Obj:=Hd.oF "is_number" jp (.str "bankwalk.basics" 187) (.ref 20)
def qhT:Obj:=Hd.oN zW 199
def qjo:Obj:=Hd.oG "is_at_least" zA
def qgm:Obj:=Hd.oK "is_at_least" 196 4 2 181 22 23 .none (.ref 24) (.ref 25) 26 201 202
def qfz:Obj:=Hd.oF "is_at_least" zA (.str "bankwalk.basics" 187) (.ref 27)
def qjU:Obj:=Hd.oG "are_at_least" zu
def qfY:Obj:=Hd.oK "are_at_least" 204 6 2 181 29 30 .none .none .none 31 207 208
def qgz:Obj:=Hd.oF "are_at_least" zu (.str "bankwalk.basics" 187) (.ref 32)
def qhv:Obj:=Hd.oN je 213
def qjp:Obj:=Hd.oG "is_pair" QI
def qe3:Obj:=Hd.oK "is_pair" 210 8 1 181 34 35 .none (.ref 36) (.ref 37) 38 214 215
def qfX:Obj:=Hd.oF "is_pair" QI (.str "bankwalk.basics" 187) (.ref 39)
def qhL:Obj:=Hd.oT [.type "ValueError"]
def LC:Obj:=⟨.type "builtin_function_or_method",none,.fields #[.builtin "type.__prepare__",.type "type"],#[]⟩
def qi1 (P:Params):Obj:=Hd.oD P 4 [(.str "__module__" 226,.str "bankwalk.errors" 217),(.str "__qualname__" 228,.str "BankError" 227),(.str "__firstlineno__" 230,.int (11) 229),(.str "__static_attributes__" 231,.ref 48)]
def qi5:Obj:=Hd.oC [.str "BankError" 221,.str "BankError" 222,.str "/claim/cut.py" 223,.int (11) 0,.int (0) 0,.int (0) 0,.int (0) 0,.int (0) 0,.ref 44,.bool false,.int (181) 0,.ref 45,.none,.none,.none,.none,.int (224) 0,.int (11) 0,.str "/claim/cut.py" 225]
def qhU:Obj:=⟨.type "frame",none,.plain,#[some (.ref 46),some (.ref 3),some (.ref 43),none,some (.str "bankwalk.errors" 217),none,some (.ref 0)]⟩
def qhs (P:Params):Obj:=Hd.oD P 3 [(.str "__module__" 226,.str "bankwalk.errors" 217),(.str "__firstlineno__" 230,.int (11) 229),(.str "__static_attributes__" 231,.ref 48),(.str "__weakref__" 233,.ref 51),(.str "__doc__" 234,.none)]
def qkp:Obj:=⟨.type "type",none,.cls ({ name:=Str.ofString "BankError",bases:=[Value.type "ValueError"],  mro:=    [Value.ref 50,Value.type "ValueError",Value.type "Exception",Value.type "BaseException",Value.type "object"],  ns:=49,qualname:=Str.ofString "BankError",subclasses:=[Value.ref 63,Value.ref 75] }),#[some (.ref 41),none,some (.str "BankError" 219),some (.str "BankError" 227),some (.builtin "ValueError.__new__"),some (.bool true)]⟩
def qgU:Obj:=⟨.type "getset_descriptor",none,.fields #[.str "__weakref__" 232,.ref 50,.builtin "ExceptionGroup.__weakref__",.none],#[]⟩
def qgW:Obj:=⟨.type "super",none,.fields #[.ref 50,.ref 50,.ref 50],#[]⟩
def qhI:Obj:=⟨.type "builtin_function_or_method",none,.fields #[.builtin "object.__init_subclass__",.ref 50],#[]⟩
def qbF:Obj:=Hd.oT [.ref 50]
def qkG (P:Params):Obj:=Hd.oD P 4 [(.str "__module__" 244,.str "bankwalk.errors" 217),(.str "__qualname__" 246,.str "NoWalk" 245),(.str "__firstlineno__" 248,.int (13) 247),(.str "__static_attributes__" 249,.ref 61)]
def qkf:Obj:=Hd.oC [.str "NoWalk" 239,.str "NoWalk" 240,.str "/claim/cut.py" 241,.int (13) 0,.int (0) 0,.int (0) 0,.int (0) 0,.int (0) 0,.ref 57,.bool false,.int (181) 0,.ref 58,.none,.none,.none,.none,.int (242) 0,.int (13) 0,.str "/claim/cut.py" 243]
def qkU:Obj:=⟨.type "frame",none,.plain,#[some (.ref 59),some (.ref 3),some (.ref 56),none,some (.str "bankwalk.errors" 217),none,some (.ref 0)]⟩
def qh2 (P:Params):Obj:=Hd.oD P 2 [(.str "__module__" 244,.str "bankwalk.errors" 217),(.str "__firstlineno__" 248,.int (13) 247),(.str "__static_attributes__" 249,.ref 61),(.str "__doc__" 250,.none)]
def qkm:Obj:=⟨.type "type",none,.cls ({ name:=Str.ofString "NoWalk",bases:=[Value.ref 50],  mro:=    [Value.ref 63,Value.ref 50,Value.type "ValueError",Value.type "Exception",Value.type "BaseException",      Value.type "object"],  ns:=62,qualname:=Str.ofString "NoWalk" }),#[some (.ref 54),none,some (.str "NoWalk" 237),some (.str "NoWalk" 245),some (.builtin "ValueError.__new__"),some (.bool true)]⟩
def qi9:Obj:=⟨.type "super",none,.fields #[.ref 63,.ref 63,.ref 63],#[]⟩
def qlm:Obj:=⟨.type "builtin_function_or_method",none,.fields #[.builtin "object.__init_subclass__",.ref 63],#[]⟩
def qic (P:Params):Obj:=Hd.oD P 4 [(.str "__module__" 260,.str "bankwalk.errors" 217),(.str "__qualname__" 262,.str "BadText" 261),(.str "__firstlineno__" 264,.int (15) 263),(.str "__static_attributes__" 265,.ref 73)]
def qg0:Obj:=Hd.oC [.str "BadText" 255,.str "BadText" 256,.str "/claim/cut.py" 257,.int (15) 0,.int (0) 0,.int (0) 0,.int (0) 0,.int (0) 0,.ref 69,.bool false,.int (181) 0,.ref 70,.none,.none,.none,.none,.int (258) 0,.int (15) 0,.str "/claim/cut.py" 259]
def qjm:Obj:=⟨.type "frame",none,.plain,#[some (.ref 71),some (.ref 3),some (.ref 68),none,some (.str "bankwalk.errors" 217),none,some (.ref 0)]⟩
def qhD (P:Params):Obj:=Hd.oD P 2 [(.str "__module__" 260,.str "bankwalk.errors" 217),(.str "__firstlineno__" 264,.int (15) 263),(.str "__static_attributes__" 265,.ref 73),(.str "__doc__" 266,.none)]
def qkF:Obj:=⟨.type "type",none,.cls ({ name:=Str.ofString "BadText",bases:=[Value.ref 50],  mro:=    [Value.ref 75,Value.ref 50,Value.type "ValueError",Value.type "Exception",Value.type "BaseException",      Value.type "object"],  ns:=74,qualname:=Str.ofString "BadText" }),#[some (.ref 66),none,some (.str "BadText" 253),some (.str "BadText" 261),some (.builtin "ValueError.__new__"),some (.bool true)]⟩
def qjz:Obj:=⟨.type "super",none,.fields #[.ref 75,.ref 75,.ref 75],#[]⟩
def qjj:Obj:=⟨.type "builtin_function_or_method",none,.fields #[.builtin "object.__init_subclass__",.ref 75],#[]⟩
def qfU (P:Params):Obj:=Hd.oD P 4 [(.str "row" 271,.ref 79),(.str "column" 274,.ref 80),(.str "slant" 277,.ref 81),(.str "back" 280,.ref 82)]
def qgH:Obj:=Hd.oT [.int (0) 272,.int (1) 273]
def qeW:Obj:=Hd.oT [.int (1) 275,.int (0) 276]
def qfH:Obj:=Hd.oT [.int (1) 278,.int (1) 279]
def qff:Obj:=Hd.oT [.int (1) 281,.int (-1) 283]
def qhC (P:Params):PySem.W.BT:=(Hd.nd (PySem.W.boot_o_0 P) (Hd.nd (PySem.W.boot_o_1 P) (Hd.nd (qpu P) (Hd.nd (PySem.W.boot_o_7 P) (Hd.nd zH (Hd.nd qjU (Hd.lf qkm) .nil) (Hd.nd qhU (Hd.lf qgH) .nil)) (Hd.nd ZG (Hd.nd qe3 (Hd.lf qg0) .nil) (Hd.lf LC))) (Hd.nd zH (Hd.nd qov (Hd.nd ZG (Hd.lf LC) .nil) (Hd.lf qgU)) (Hd.nd qgm (Hd.nd (qi1 P) (Hd.lf qkF) .nil) (Hd.lf qkf)))) (Hd.nd (PySem.W.boot_o_5 P) (Hd.nd (PySem.W.boot_o_9 P) (Hd.nd qoq (Hd.nd qgz (Hd.lf qlm) .nil) (Hd.nd (qhs P) (Hd.lf qfH) .nil)) (Hd.nd zH (Hd.nd qhL (Hd.lf zH) .nil) (Hd.lf zH))) (Hd.nd qlz (Hd.nd qfl (Hd.nd zH (Hd.lf zH) .nil) (Hd.lf qhI)) (Hd.nd zH (Hd.nd ZG (Hd.lf qjj) .nil) (Hd.lf zH))))) (Hd.nd (PySem.W.boot_o_2 P) (Hd.nd (PySem.W.boot_o_4 P) (Hd.nd (PySem.W.boot_o_8 P) (Hd.nd ZG (Hd.nd qfY (Hd.lf qi9) .nil) (Hd.nd zH (Hd.lf qeW) .nil)) (Hd.nd qhT (Hd.nd qfX (Hd.lf qjm) .nil) (Hd.lf (qkG P)))) (Hd.nd qo7 (Hd.nd qnP (Hd.nd qhv (Hd.lf (qic P)) .nil) (Hd.lf qgW)) (Hd.nd qfz (Hd.nd zH (Hd.lf qjz) .nil) (Hd.lf qkU)))) (Hd.nd (PySem.W.boot_o_6 P) (Hd.nd (PySem.W.boot_o_10 P) (Hd.nd zH (Hd.nd zH (Hd.lf qbF) .nil) (Hd.nd qkp (Hd.lf qff) .nil)) (Hd.nd qjo (Hd.nd LC (Hd.lf (qhD P)) .nil) (Hd.lf ZG))) (Hd.nd qlI (Hd.nd zH (Hd.nd qjp (Hd.lf ZG) .nil) (Hd.lf qbF)) (Hd.nd ZG (Hd.nd qi5 (Hd.lf (qfU P)) .nil) (Hd.lf (qh2 P)))))))
abbrev qdS:List Stmt:=(qaE.drop 0).take 11
def qdn (os : OsState) (w : World) : Prop := PySem.W.segRunT treeTable PySem.Challenge.pw_bankwalk_k78_walks_written_and_read w 11 (some (Value.ref 6)) 1 841 (⟨qkL w.params,15,{ },#[],{ },187,os⟩ : PySem.W.SharedT) (PySem.W.piecesOf qdS qku WY ⟨0,0,0,0⟩ qhJ) = some (.next,(⟨qhC w.params,83,{ },#[],{ },289,os⟩ : PySem.W.SharedT),WY,⟨18,0,18,7⟩)
set_option maxRecDepth 100000 in
set_option maxHeartbeats 0 in
def qkB (w:World) (os:OsState):qdn os w:=
 PySem.W.byRow2 "special-get-raises" (P:=qdn os) (λw=>show _=_ by kernel_rfl) (λw=>show _=_ by kernel_rfl) w
def qky (P:Params):Obj:=Hd.oD P 41 [(.str "__name__" 165,.str "law_bankwalk_k78_walks_written_and_read" 383),(.str "__doc__" 166,.none),(.str "__package__" 167,.none),(.str "__loader__" 168,.builtin "__main__.__loader__#opaque"),(.str "__spec__" 169,.none),(.str "__annotations__" 170,.ref 6),(.str "__builtins__" 171,.ref 4),(.str "__file__" 173,.str "/claim/cut.py" 172),(.str "__cached__" 174,.none),(.str "is_number" 195,.ref 21),(.str "is_at_least" 203,.ref 28),(.str "are_at_least" 209,.ref 33),(.str "is_pair" 216,.ref 40),(.str "BankError" 236,.ref 50),(.str "NoWalk" 252,.ref 63),(.str "BadText" 268,.ref 75),(.str "STRIDES" 288,.ref 78),(.str "is_step" 295,.ref 89),(.str "is_cells" 301,.ref 94),(.str "is_walk" 309,.ref 101),(.str "strung" 315,.ref 106),(.str "cells_of" 321,.ref 111),(.str "FIGURES" 325,.str "0123456789" 324),(.str "MOST_FIGURES" 327,.int (4) 326),(.str "in_words" 333,.ref 116),(.str "in_rows" 339,.ref 121),(.str "walk_text" 346,.ref 128),(.str "number_of_word" 352,.ref 133),(.str "numbers_of" 358,.ref 138),(.str "rows_of" 364,.ref 143),(.str "walk_of" 374,.ref 150),(.str "spread" 382,.ref 155),(.str "_law_mix" 393,.ref 162),(.str "_law_left" 403,.ref 169),(.str "_law_pick" 412,.ref 176),(.str "_law_many" 419,.ref 183),(.str "_law_walk" 436,.ref 190),(.str "_law_walk_words" 442,.ref 195),(.str "_law_same" 448,.ref 200),(.str "_law_far" 457,.ref 207),(.str "law" 474,.ref 214)]
def qn0:Obj:=⟨.none,none,.fields #[.int (2) 0,.int (0) 0,.ref 20,.int (4) 0,.int (0) 0,.ref 27,.int (6) 0,.int (0) 0,.ref 32,.int (8) 0,.int (0) 0,.ref 39,.int (11) 0,.int (0) 0,.ref 46,.int (13) 0,.int (0) 0,.ref 59,.int (15) 0,.int (0) 0,.ref 71,.int (19) 0,.int (0) 0,.ref 88,.int (23) 0,.int (0) 0,.ref 93,.int (29) 0,.int (0) 0,.ref 100,.int (40) 0,.int (0) 0,.ref 105,.int (42) 0,.int (0) 0,.ref 110,.int (55) 0,.int (0) 0,.ref 115,.int (57) 0,.int (0) 0,.ref 120,.int (59) 0,.int (0) 0,.ref 127,.int (63) 0,.int (0) 0,.ref 132,.int (71) 0,.int (0) 0,.ref 137,.int (73) 0,.int (0) 0,.ref 142,.int (81) 0,.int (0) 0,.ref 149,.int (88) 0,.int (0) 0,.ref 154,.int (95) 0,.int (0) 0,.ref 161,.int (98) 0,.int (0) 0,.ref 168,.int (102) 0,.int (0) 0,.ref 175,.int (109) 0,.int (0) 0,.ref 182,.int (111) 0,.int (0) 0,.ref 189,.int (130) 0,.int (0) 0,.ref 194,.int (137) 0,.int (0) 0,.ref 199,.int (145) 0,.int (0) 0,.ref 206,.int (151) 0,.int (0) 0,.ref 213],#[]⟩
def qnf:Obj:=Hd.oN je 292
def qmb:Obj:=Hd.oG "is_step" QM
def qkI:Obj:=Hd.oK "is_step" 289 19 1 181 83 84 .none (.ref 85) (.ref 86) 87 293 294
def qh5:Obj:=Hd.oF "is_step" QM (.str "bankwalk.walks" 269) (.ref 88)
def qnX:Obj:=Hd.oG "is_cells" jU
def qjh:Obj:=Hd.oK "is_cells" 296 23 1 181 90 91 .none .none .none 92 299 300
def qhb:Obj:=Hd.oF "is_cells" jU (.str "bankwalk.walks" 269) (.ref 93)
def qm9:Obj:=Hd.oN Z2 305
def qmr:Obj:=Hd.oG "is_walk" QP
def qj5:Obj:=Hd.oK "is_walk" 302 29 1 181 95 96 .none (.ref 97) (.ref 98) 99 307 308
def qkx:Obj:=Hd.oF "is_walk" QP (.str "bankwalk.walks" 269) (.ref 100)
def qnm:Obj:=Hd.oG "strung" ZO
def qiv:Obj:=Hd.oK "strung" 310 40 3 181 102 103 .none .none .none 104 313 314
def qk4:Obj:=Hd.oF "strung" ZO (.str "bankwalk.walks" 269) (.ref 105)
def qm5:Obj:=Hd.oG "cells_of" jK
def qgY:Obj:=Hd.oK "cells_of" 316 42 1 181 107 108 .none .none .none 109 319 320
def qhq:Obj:=Hd.oF "cells_of" jK (.str "bankwalk.walks" 269) (.ref 110)
def qm1:Obj:=Hd.oG "in_words" jV
def qi0:Obj:=Hd.oK "in_words" 328 55 1 181 112 113 .none .none .none 114 331 332
def qhR:Obj:=Hd.oF "in_words" jV (.str "bankwalk.texts" 322) (.ref 115)
def qod:Obj:=Hd.oG "in_rows" QS
def qiY:Obj:=Hd.oK "in_rows" 334 57 1 181 117 118 .none .none .none 119 337 338
def qiB:Obj:=Hd.oF "in_rows" QS (.str "bankwalk.texts" 322) (.ref 120)
def qmL:Obj:=Hd.oN jL 343
def qnG:Obj:=Hd.oG "walk_text" jq
def qgT:Obj:=Hd.oK "walk_text" 340 59 1 181 122 123 .none (.ref 124) (.ref 125) 126 344 345
def qgX:Obj:=Hd.oF "walk_text" jq (.str "bankwalk.texts" 322) (.ref 127)
def qm0:Obj:=Hd.oG "number_of_word" zb
def qjg:Obj:=Hd.oK "number_of_word" 347 63 1 181 129 130 .none .none .none 131 350 351
def qjD:Obj:=Hd.oF "number_of_word" zb (.str "bankwalk.texts" 322) (.ref 132)
def qmn:Obj:=Hd.oG "numbers_of" zO
def qle:Obj:=Hd.oK "numbers_of" 353 71 1 181 134 135 .none .none .none 136 356 357
def qj3:Obj:=Hd.oF "numbers_of" zO (.str "bankwalk.texts" 322) (.ref 137)
def qnI:Obj:=Hd.oG "rows_of" QF
def qkA:Obj:=Hd.oK "rows_of" 359 73 1 181 139 140 .none .none .none 141 362 363
def qkl:Obj:=Hd.oF "rows_of" QF (.str "bankwalk.texts" 322) (.ref 142)
def qoc:Obj:=Hd.oN ZX 368
def qnE:Obj:=Hd.oG "walk_of" QU
def qj7:Obj:=Hd.oK "walk_of" 365 81 1 181 144 145 .none (.ref 146) (.ref 147) 148 372 373
def qiR:Obj:=Hd.oF "walk_of" QU (.str "bankwalk.texts" 322) (.ref 149)
def qnq:Obj:=Hd.oG "spread" ZP
def qja:Obj:=Hd.oK "spread" 377 88 4 181 151 152 .none .none .none 153 380 381
def qkk:Obj:=Hd.oF "spread" ZP (.str "bankwalk.joining" 375) (.ref 154)
def qnC:Obj:=Hd.oN ES 388
def qn6:Obj:=Hd.oG "_law_mix" QR
def qiy:Obj:=Hd.oK "_law_mix" 385 95 2 181 156 157 .none (.ref 158) (.ref 159) 160 391 392
def qd7:Obj:=Hd.oF "_law_mix" QR (.str "law_bankwalk_k78_walks_written_and_read" 383) (.ref 161)
def qi3:Obj:=Hd.oN VR 397
def qke:Obj:=Hd.oG "_law_left" jW
def qc7:Obj:=Hd.oK "_law_left" 394 98 2 181 163 164 .none (.ref 165) (.ref 166) 167 401 402
def qdz:Obj:=Hd.oF "_law_left" jW (.str "law_bankwalk_k78_walks_written_and_read" 383) (.ref 168)
def qkX:Obj:=Hd.oN YZ 407
def qk0:Obj:=Hd.oG "_law_pick" jM
def qeS:Obj:=Hd.oK "_law_pick" 404 102 2 181 170 171 .none (.ref 172) (.ref 173) 174 410 411
def qed:Obj:=Hd.oF "_law_pick" jM (.str "law_bankwalk_k78_walks_written_and_read" 383) (.ref 175)
def qik:Obj:=Hd.oN VC 416
def qk2:Obj:=Hd.oG "_law_many" jN
def qdf:Obj:=Hd.oK "_law_many" 413 109 1 181 177 178 .none (.ref 179) (.ref 180) 181 417 418
def qec:Obj:=Hd.oF "_law_many" jN (.str "law_bankwalk_k78_walks_written_and_read" 383) (.ref 182)
def qlv:Obj:=Hd.oN Y8 423
def qij:Obj:=Hd.oG "_law_walk" jQ
def qdD:Obj:=Hd.oK "_law_walk" 420 111 1 181 184 185 .none (.ref 186) (.ref 187) 188 434 435
def qeT:Obj:=Hd.oF "_law_walk" jQ (.str "law_bankwalk_k78_walks_written_and_read" 383) (.ref 189)
def qhV:Obj:=Hd.oG "_law_walk_words" q0
def qeC:Obj:=Hd.oK "_law_walk_words" 437 130 1 181 191 192 .none .none .none 193 440 441
def qdq:Obj:=Hd.oF "_law_walk_words" q0 (.str "law_bankwalk_k78_walks_written_and_read" 383) (.ref 194)
def qim:Obj:=Hd.oG "_law_same" jJ
def qet:Obj:=Hd.oK "_law_same" 443 137 2 181 196 197 .none .none .none 198 446 447
def qey:Obj:=Hd.oF "_law_same" jJ (.str "law_bankwalk_k78_walks_written_and_read" 383) (.ref 199)
def qhB:Obj:=Hd.oN Z4 452
def qib:Obj:=Hd.oG "_law_far" QG
def qdV:Obj:=Hd.oK "_law_far" 449 145 1 181 201 202 .none (.ref 203) (.ref 204) 205 455 456
def qdE:Obj:=Hd.oF "_law_far" QG (.str "law_bankwalk_k78_walks_written_and_read" 383) (.ref 206)
def qiX:Obj:=Hd.oN qa2 461
def qi2:Obj:=Hd.oG "law" Z0
def qef:Obj:=Hd.oK "law" 458 151 1 181 208 209 .none (.ref 210) (.ref 211) 212 472 473
def qdT:Obj:=Hd.oF "law" Z0 (.str "law_bankwalk_k78_walks_written_and_read" 383) (.ref 213)
def qfh (P:Params):PySem.W.BT:=(Hd.nd (PySem.W.boot_o_0 P) (Hd.nd (PySem.W.boot_o_1 P) (Hd.nd (qky P) (Hd.nd (PySem.W.boot_o_7 P) (Hd.nd zH (Hd.nd qjU (Hd.nd qkm (Hd.lf qgT) (Hd.lf zH)) (Hd.nd zH (Hd.lf zH) .nil)) (Hd.nd qhU (Hd.nd qgH (Hd.lf qkl) (Hd.lf qdE)) (Hd.nd qhq (Hd.lf qeS) .nil))) (Hd.nd ZG (Hd.nd qe3 (Hd.nd qg0 (Hd.lf ZG) (Hd.lf qet)) (Hd.nd ZG (Hd.lf qke) .nil)) (Hd.nd LC (Hd.nd qmb (Hd.lf zH) .nil) (Hd.nd qod (Hd.lf qec) .nil)))) (Hd.nd zH (Hd.nd qov (Hd.nd ZG (Hd.nd LC (Hd.lf qm0) (Hd.lf qdq)) (Hd.nd qmr (Hd.lf zH) .nil)) (Hd.nd qgU (Hd.nd zH (Hd.lf zH) (Hd.lf zH)) (Hd.nd qi0 (Hd.lf qik) .nil))) (Hd.nd qgm (Hd.nd (qi1 P) (Hd.nd qkF (Hd.lf zH) (Hd.lf qhB)) (Hd.nd zH (Hd.lf ZG) .nil)) (Hd.nd qkf (Hd.nd ZG (Hd.lf qkk) .nil) (Hd.nd ZG (Hd.lf zH) .nil))))) (Hd.nd (PySem.W.boot_o_5 P) (Hd.nd (PySem.W.boot_o_9 P) (Hd.nd qoq (Hd.nd qgz (Hd.nd qlm (Hd.lf zH) (Hd.lf qhV)) (Hd.nd qm9 (Hd.lf qiy) .nil)) (Hd.nd (qhs P) (Hd.nd qfH (Hd.lf ZG) (Hd.lf ZG)) (Hd.nd ZG (Hd.lf zH) .nil))) (Hd.nd zH (Hd.nd qhL (Hd.nd zH (Hd.lf qle) (Hd.lf zH)) (Hd.nd qiv (Hd.lf qdz) .nil)) (Hd.nd zH (Hd.nd qh5 (Hd.lf qnq) .nil) (Hd.nd qiB (Hd.lf ZG) .nil)))) (Hd.nd qlz (Hd.nd qfl (Hd.nd zH (Hd.nd zH (Hd.lf qjD) (Hd.lf ZG)) (Hd.nd qkx (Hd.lf qi3) .nil)) (Hd.nd qhI (Hd.nd qnf (Hd.lf qj7) (Hd.lf qef)) (Hd.nd zH (Hd.lf qk2) .nil))) (Hd.nd zH (Hd.nd ZG (Hd.nd qjj (Hd.lf qnI) (Hd.lf qib)) (Hd.nd qm5 (Hd.lf zH) .nil)) (Hd.nd zH (Hd.nd qjh (Hd.lf ZG) .nil) (Hd.nd zH (Hd.lf qdD) .nil)))))) (Hd.nd (PySem.W.boot_o_2 P) (Hd.nd (PySem.W.boot_o_4 P) (Hd.nd (PySem.W.boot_o_8 P) (Hd.nd ZG (Hd.nd qfY (Hd.nd qi9 (Hd.lf qgX) (Hd.lf ZG)) (Hd.nd ZG (Hd.lf qn6) .nil)) (Hd.nd zH (Hd.nd qeW (Hd.lf zH) (Hd.lf zH)) (Hd.nd zH (Hd.lf qed) .nil))) (Hd.nd qhT (Hd.nd qfX (Hd.nd qjm (Hd.lf qmn) (Hd.lf qey)) (Hd.nd qnm (Hd.lf qc7) .nil)) (Hd.nd (qkG P) (Hd.nd qkI (Hd.lf ZG) .nil) (Hd.nd qiY (Hd.lf zH) .nil)))) (Hd.nd qn0 (Hd.nd qnP (Hd.nd qhv (Hd.nd (qic P) (Hd.lf qjg) (Hd.lf zH)) (Hd.nd qj5 (Hd.lf ZG) .nil)) (Hd.nd qgW (Hd.nd ZG (Hd.lf qnE) (Hd.lf qi2)) (Hd.nd qhR (Hd.lf zH) .nil))) (Hd.nd qfz (Hd.nd zH (Hd.nd qjz (Hd.lf ZG) (Hd.lf zH)) (Hd.nd ZG (Hd.lf qkX) .nil)) (Hd.nd qkU (Hd.nd qnX (Hd.lf zH) .nil) (Hd.nd qmL (Hd.lf qij) .nil))))) (Hd.nd (PySem.W.boot_o_6 P) (Hd.nd (PySem.W.boot_o_10 P) (Hd.nd zH (Hd.nd zH (Hd.nd qbF (Hd.lf ZG) (Hd.lf qeC)) (Hd.nd zH (Hd.lf qd7) .nil)) (Hd.nd qkp (Hd.nd qff (Hd.lf qoc) (Hd.lf qiX)) (Hd.nd qm1 (Hd.lf ZG) .nil))) (Hd.nd qjo (Hd.nd LC (Hd.nd (qhD P) (Hd.lf qj3) (Hd.lf ZG)) (Hd.nd qk4 (Hd.lf zH) .nil)) (Hd.nd ZG (Hd.nd zH (Hd.lf qja) .nil) (Hd.nd zH (Hd.lf qlv) .nil)))) (Hd.nd qlI (Hd.nd zH (Hd.nd qjp (Hd.nd ZG (Hd.lf zH) (Hd.lf qim)) (Hd.nd zH (Hd.lf zH) .nil)) (Hd.nd qbF (Hd.nd zH (Hd.lf qiR) (Hd.lf qdT)) (Hd.nd ZG (Hd.lf qdf) .nil))) (Hd.nd ZG (Hd.nd qi5 (Hd.nd (qfU P) (Hd.lf qkA) (Hd.lf qdV)) (Hd.nd qgY (Hd.lf qk0) .nil)) (Hd.nd (qh2 P) (Hd.nd qhb (Hd.lf qnC) .nil) (Hd.nd qnG (Hd.lf qeT) .nil)))))))
abbrev qeb:List Stmt:=(qaE.drop 11).take 27
set_option maxRecDepth 100000 in
set_option maxHeartbeats 0 in
def qkM (w : World) (os : OsState) : PySem.W.segRunT treeTable PySem.Challenge.pw_bankwalk_k78_walks_written_and_read w 11 (some (Value.ref 6)) 1 684 (⟨qhC w.params,83,{ },#[],{ },289,os⟩ : PySem.W.SharedT) (PySem.W.piecesOf qeb qku WY ⟨18,0,18,7⟩ qhJ) = some (.next,(⟨qfh w.params,215,{ },#[],{ },475,os⟩ : PySem.W.SharedT),WY,⟨151,0,165,15⟩) := by kernel_rfl
abbrev qgA (P:Params):Heap:=PySem.W.absHeap (qfh P) 215 { }
def Kf (P:Params):PySem.W.Frag:=[(3,qky P),(20,qnP),(21,qfl),(27,qgm),(28,qfz),(32,qfY),(33,qgz),(39,qe3),(40,qfX),(78,qfU P),(79,qgH),(80,qeW),(81,qfH),(82,qff),(88,qkI),(89,qh5),(93,qjh),(94,qhb),(100,qj5),(101,qkx),(105,qiv),(106,qk4),(110,qgY),(111,qhq),(115,qi0),(116,qhR),(120,qiY),(121,qiB),(127,qgT),(128,qgX),(132,qjg),(133,qjD),(137,qle),(138,qj3),(142,qkA),(143,qkl),(149,qj7),(150,qiR),(154,qja),(155,qkk),(161,qiy),(162,qd7),(168,qc7),(169,qdz),(175,qeS),(176,qed),(182,qdf),(183,qec),(189,qdD),(190,qeT),(194,qeC),(195,qdq),(199,qet),(200,qey),(206,qdV),(207,qdE),(213,qef),(214,qdT)]
def qll {l:PySem.W.OpenLaw} {w:World} {h:Heap} {mg:Str->Option Value} {fa:Addr} (X:(Kf w.params).In h) (G:h.Ns mainGlobals mg) (hfa:mg "law" = some (.ref fa)) :
  ∃ fd:FuncData,(∀ (s:Shared) (v:Value),BindsTo s fd ⟨[v],[]⟩ [("_law_script",v)])/\∀ base:Heap,(Kf w.params).In base->base.Ns mainGlobals mg->FnOk l.prog w (Kf w.params) mg base CX0 6 fa fd ["_law_script"] (lSp (Kf w.params) WB):=by
 have e:=hfa.symm.trans (Hd.zV X G "law" (.ref 214) (by kernel_rfl));cases e;have F0:=Hd.js (K:=Kf w.params) "is_number" jp 21 (.str "bankwalk.basics" 187) (.ref 20) (by kernel_rfl) (by kernel_rfl) (by kernel_rfl);have b0:=F0.binds (ps:=JU) λ_ _ _ _ _ _ us hl=>by obtain ⟨_,rfl⟩:=Pu.XY hl;rfl
 have m0:=Hd.zV X G "is_number" (.ref 21) (by kernel_rfl);have F1:=Hd.js (K:=Kf w.params) "is_at_least" zA 28 (.str "bankwalk.basics" 187) (.ref 27) (by kernel_rfl) (by kernel_rfl) (by kernel_rfl);have b1:=F1.binds (ps:=QW) λ_ _ _ _ _ _ us hl=>by obtain ⟨_,_,rfl⟩:=Pu.qfn hl;rfl
 have m1:=Hd.zV X G "is_at_least" (.ref 28) (by kernel_rfl);have F2:=Hd.js (K:=Kf w.params) "are_at_least" zu 33 (.str "bankwalk.basics" 187) (.ref 32) (by kernel_rfl) (by kernel_rfl) (by kernel_rfl);have b2:=F2.binds (ps:=QB) λ_ _ _ _ _ _ us hl=>by obtain ⟨_,_,rfl⟩:=Pu.qfn hl;rfl
 have m2:=Hd.zV X G "are_at_least" (.ref 33) (by kernel_rfl);have F3:=Hd.js (K:=Kf w.params) "is_pair" QI 40 (.str "bankwalk.basics" 187) (.ref 39) (by kernel_rfl) (by kernel_rfl) (by kernel_rfl);have b3:=F3.binds (ps:=U2) λ_ _ _ _ _ _ us hl=>by obtain ⟨_,rfl⟩:=Pu.XY hl;rfl
 have m3:=Hd.zV X G "is_pair" (.ref 40) (by kernel_rfl);have F4:=Hd.js (K:=Kf w.params) "is_step" QM 89 (.str "bankwalk.walks" 269) (.ref 88) (by kernel_rfl) (by kernel_rfl) (by kernel_rfl);have b4:=F4.binds (ps:=EJ) λ_ _ _ _ _ _ us hl=>by obtain ⟨_,rfl⟩:=Pu.XY hl;rfl
 have m4:=Hd.zV X G "is_step" (.ref 89) (by kernel_rfl);have F5:=Hd.js (K:=Kf w.params) "is_cells" jU 94 (.str "bankwalk.walks" 269) (.ref 93) (by kernel_rfl) (by kernel_rfl) (by kernel_rfl);have b5:=F5.binds (ps:=Y9) λ_ _ _ _ _ _ us hl=>by obtain ⟨_,rfl⟩:=Pu.XY hl;rfl
 have m5:=Hd.zV X G "is_cells" (.ref 94) (by kernel_rfl);have F6:=Hd.js (K:=Kf w.params) "is_walk" QP 101 (.str "bankwalk.walks" 269) (.ref 100) (by kernel_rfl) (by kernel_rfl) (by kernel_rfl);have b6:=F6.binds (ps:=UY) λ_ _ _ _ _ _ us hl=>by obtain ⟨_,rfl⟩:=Pu.XY hl;rfl
 have m6:=Hd.zV X G "is_walk" (.ref 101) (by kernel_rfl);have F7:=Hd.js (K:=Kf w.params) "strung" ZO 106 (.str "bankwalk.walks" 269) (.ref 105) (by kernel_rfl) (by kernel_rfl) (by kernel_rfl);have b7:=F7.binds (ps:=XI) λ_ _ _ _ _ _ us hl=>by obtain ⟨_,_,_,rfl⟩:=Pu.qoK hl;rfl
 have m7:=Hd.zV X G "strung" (.ref 106) (by kernel_rfl);have F8:=Hd.js (K:=Kf w.params) "cells_of" jK 111 (.str "bankwalk.walks" 269) (.ref 110) (by kernel_rfl) (by kernel_rfl) (by kernel_rfl);have b8:=F8.binds (ps:=YS) λ_ _ _ _ _ _ us hl=>by obtain ⟨_,rfl⟩:=Pu.XY hl;rfl
 have m8:=Hd.zV X G "cells_of" (.ref 111) (by kernel_rfl);have F9:=Hd.js (K:=Kf w.params) "in_words" jV 116 (.str "bankwalk.texts" 322) (.ref 115) (by kernel_rfl) (by kernel_rfl) (by kernel_rfl);have b9:=F9.binds (ps:=VL) λ_ _ _ _ _ _ us hl=>by obtain ⟨_,rfl⟩:=Pu.XY hl;rfl
 have m9:=Hd.zV X G "in_words" (.ref 116) (by kernel_rfl);have F10:=Hd.js (K:=Kf w.params) "in_rows" QS 121 (.str "bankwalk.texts" 322) (.ref 120) (by kernel_rfl) (by kernel_rfl) (by kernel_rfl);have b10:=F10.binds (ps:=ET) λ_ _ _ _ _ _ us hl=>by obtain ⟨_,rfl⟩:=Pu.XY hl;rfl
 have m10:=Hd.zV X G "in_rows" (.ref 121) (by kernel_rfl);have F11:=Hd.js (K:=Kf w.params) "walk_text" jq 128 (.str "bankwalk.texts" 322) (.ref 127) (by kernel_rfl) (by kernel_rfl) (by kernel_rfl);have b11:=F11.binds (ps:=JT) λ_ _ _ _ _ _ us hl=>by obtain ⟨_,rfl⟩:=Pu.XY hl;rfl
 have m11:=Hd.zV X G "walk_text" (.ref 128) (by kernel_rfl);have F12:=Hd.js (K:=Kf w.params) "number_of_word" zb 133 (.str "bankwalk.texts" 322) (.ref 132) (by kernel_rfl) (by kernel_rfl) (by kernel_rfl);have b12:=F12.binds (ps:=jw) λ_ _ _ _ _ _ us hl=>by obtain ⟨_,rfl⟩:=Pu.XY hl;rfl
 have m12:=Hd.zV X G "number_of_word" (.ref 133) (by kernel_rfl);have F13:=Hd.js (K:=Kf w.params) "numbers_of" zO 138 (.str "bankwalk.texts" 322) (.ref 137) (by kernel_rfl) (by kernel_rfl) (by kernel_rfl);have b13:=F13.binds (ps:=ZR) λ_ _ _ _ _ _ us hl=>by obtain ⟨_,rfl⟩:=Pu.XY hl;rfl
 have m13:=Hd.zV X G "numbers_of" (.ref 138) (by kernel_rfl);have F14:=Hd.js (K:=Kf w.params) "rows_of" QF 143 (.str "bankwalk.texts" 322) (.ref 142) (by kernel_rfl) (by kernel_rfl) (by kernel_rfl);have b14:=F14.binds (ps:=UR) λ_ _ _ _ _ _ us hl=>by obtain ⟨_,rfl⟩:=Pu.XY hl;rfl
 have m14:=Hd.zV X G "rows_of" (.ref 143) (by kernel_rfl);have F15:=Hd.js (K:=Kf w.params) "walk_of" QU 150 (.str "bankwalk.texts" 322) (.ref 149) (by kernel_rfl) (by kernel_rfl) (by kernel_rfl);have b15:=F15.binds (ps:=U7) λ_ _ _ _ _ _ us hl=>by obtain ⟨_,rfl⟩:=Pu.XY hl;rfl
 have m15:=Hd.zV X G "walk_of" (.ref 150) (by kernel_rfl);have F16:=Hd.js (K:=Kf w.params) "spread" ZP 155 (.str "bankwalk.joining" 375) (.ref 154) (by kernel_rfl) (by kernel_rfl) (by kernel_rfl);have b16:=F16.binds (ps:=WF) λ_ _ _ _ _ _ us hl=>by obtain ⟨_,_,_,_,rfl⟩:=Pu.qpC hl;rfl
 have m16:=Hd.zV X G "spread" (.ref 155) (by kernel_rfl);have F17:=Hd.js (K:=Kf w.params) "_law_mix" QR 162 (.str "law_bankwalk_k78_walks_written_and_read" 383) (.ref 161) (by kernel_rfl) (by kernel_rfl) (by kernel_rfl);have b17:=F17.binds (ps:=EY) λ_ _ _ _ _ _ us hl=>by obtain ⟨_,_,rfl⟩:=Pu.qfn hl;rfl
 have m17:=Hd.zV X G "_law_mix" (.ref 162) (by kernel_rfl);have F18:=Hd.js (K:=Kf w.params) "_law_left" jW 169 (.str "law_bankwalk_k78_walks_written_and_read" 383) (.ref 168) (by kernel_rfl) (by kernel_rfl) (by kernel_rfl);have b18:=F18.binds (ps:=VE) λ_ _ _ _ _ _ us hl=>by obtain ⟨_,_,rfl⟩:=Pu.qfn hl;rfl
 have m18:=Hd.zV X G "_law_left" (.ref 169) (by kernel_rfl);have F19:=Hd.js (K:=Kf w.params) "_law_pick" jM 176 (.str "law_bankwalk_k78_walks_written_and_read" 383) (.ref 175) (by kernel_rfl) (by kernel_rfl) (by kernel_rfl);have b19:=F19.binds (ps:=VU) λ_ _ _ _ _ _ us hl=>by obtain ⟨_,_,rfl⟩:=Pu.qfn hl;rfl
 have m19:=Hd.zV X G "_law_pick" (.ref 176) (by kernel_rfl);have F20:=Hd.js (K:=Kf w.params) "_law_many" jN 183 (.str "law_bankwalk_k78_walks_written_and_read" 383) (.ref 182) (by kernel_rfl) (by kernel_rfl) (by kernel_rfl);have b20:=F20.binds (ps:=YW) λ_ _ _ _ _ _ us hl=>by obtain ⟨_,rfl⟩:=Pu.XY hl;rfl
 have m20:=Hd.zV X G "_law_many" (.ref 183) (by kernel_rfl);have F21:=Hd.js (K:=Kf w.params) "_law_walk" jQ 190 (.str "law_bankwalk_k78_walks_written_and_read" 383) (.ref 189) (by kernel_rfl) (by kernel_rfl) (by kernel_rfl);have b21:=F21.binds (ps:=VT) λ_ _ _ _ _ _ us hl=>by obtain ⟨_,rfl⟩:=Pu.XY hl;rfl
 have m21:=Hd.zV X G "_law_walk" (.ref 190) (by kernel_rfl);have F22:=Hd.js (K:=Kf w.params) "_law_walk_words" q0 195 (.str "law_bankwalk_k78_walks_written_and_read" 383) (.ref 194) (by kernel_rfl) (by kernel_rfl) (by kernel_rfl);have b22:=F22.binds (ps:=jB) λ_ _ _ _ _ _ us hl=>by obtain ⟨_,rfl⟩:=Pu.XY hl;rfl
 have m22:=Hd.zV X G "_law_walk_words" (.ref 195) (by kernel_rfl);have F23:=Hd.js (K:=Kf w.params) "_law_same" jJ 200 (.str "law_bankwalk_k78_walks_written_and_read" 383) (.ref 199) (by kernel_rfl) (by kernel_rfl) (by kernel_rfl);have b23:=F23.binds (ps:=VJ) λ_ _ _ _ _ _ us hl=>by obtain ⟨_,_,rfl⟩:=Pu.qfn hl;rfl
 have m23:=Hd.zV X G "_law_same" (.ref 200) (by kernel_rfl);have F24:=Hd.js (K:=Kf w.params) "_law_far" QG 207 (.str "law_bankwalk_k78_walks_written_and_read" 383) (.ref 206) (by kernel_rfl) (by kernel_rfl) (by kernel_rfl);have b24:=F24.binds (ps:=EN) λ_ _ _ _ _ _ us hl=>by obtain ⟨_,rfl⟩:=Pu.XY hl;rfl
 have m24:=Hd.zV X G "_law_far" (.ref 207) (by kernel_rfl);have F25:=Hd.js (K:=Kf w.params) "law" Z0 214 (.str "law_bankwalk_k78_walks_written_and_read" 383) (.ref 213) (by kernel_rfl) (by kernel_rfl) (by kernel_rfl);have g_isinstance:=Hd.J7 X G "isinstance" (by kernel_rfl);have g_bool:=Hd.J7 X G "bool" (by kernel_rfl);have g_int:=Hd.J7 X G "int" (by kernel_rfl);have g_all:=Hd.J7 X G "all" (by kernel_rfl);have g_len:=Hd.J7 X G "len" (by kernel_rfl);have g_tuple:=Hd.J7 X G "tuple" (by kernel_rfl);have g_set:=Hd.J7 X G "set" (by kernel_rfl);have g_str:=Hd.J7 X G "str" (by kernel_rfl);have g_STRIDES:Tb (Kf w.params) mg w "STRIDES" zE:=⟨78,_,4,Hd.zV X G "STRIDES" (.ref 78) (by kernel_rfl),(show (Kf w.params).lookup 78=some ⟨.type "dict",none,.dict #[⟨PyData.keyHash w.params "row",.str "row" 271,.ref 79⟩,⟨PyData.keyHash w.params "column",.str "column" 274,.ref 80⟩,⟨PyData.keyHash w.params "slant",.str "slant" 277,.ref 81⟩,⟨PyData.keyHash w.params "back",.str "back" 280,.ref 82⟩] 4,#[]⟩ by kernel_rfl),rfl,(.cons (v:=.ref 79) rfl (S8 (show (Kf w.params).lookup 79=some ⟨.type "tuple",none,.seq #[.int (0) 272,.int (1) 273] 0,#[]⟩ by kernel_rfl)) (.cons (v:=.ref 80) rfl (S8 (show (Kf w.params).lookup 80=some ⟨.type "tuple",none,.seq #[.int (1) 275,.int (0) 276] 0,#[]⟩ by kernel_rfl)) (.cons (v:=.ref 81) rfl (S8 (show (Kf w.params).lookup 81=some ⟨.type "tuple",none,.seq #[.int (1) 278,.int (1) 279] 0,#[]⟩ by kernel_rfl)) (.cons (v:=.ref 82) rfl (S8 (show (Kf w.params).lookup 82=some ⟨.type "tuple",none,.seq #[.int (1) 281,.int (-1) 283] 0,#[]⟩ by kernel_rfl)) .nil))))⟩
 have g_range:=Hd.J7 X G "range" (by kernel_rfl);have g_list:=Hd.J7 X G "list" (by kernel_rfl);have g_FIGURES:∃ t,mg "FIGURES" = some (.str "0123456789" t):=⟨324,Hd.zV X G "FIGURES" (.str "0123456789" 324) (by kernel_rfl)⟩
 have g_MOST_FIGURES:∃ t,mg "MOST_FIGURES" = some (.int 4 t):=⟨326,Hd.zV X G "MOST_FIGURES" (.int 4 326) (by kernel_rfl)⟩
 have g_abs:=Hd.J7 X G "abs" (by kernel_rfl);have g_enumerate:=Hd.J7 X G "enumerate" (by kernel_rfl);have g_zip:=Hd.J7 X G "zip" (by kernel_rfl);have g_min:=Hd.J7 X G "min" (by kernel_rfl);refine ⟨PySem.W.fnOf "law" "law" (Q7 Z0) (zP Z0) (qh Z0) .none .none .none (.str "law_bankwalk_k78_walks_written_and_read" 383) none (.ref 213) .none,λs v=>.of_eq rfl,λbase Xb _=>?_⟩;have O_is_number:=C4 (P:=l.prog) (w:=w) (base:=base) (k:=0) F0 b0 m0  g_isinstance g_bool g_int CK;have O_is_at_least:=DG (P:=l.prog) (w:=w) (base:=base) (k:=1) F1 b1 m1 O_is_number  DH;have O_are_at_least:=UQ (P:=l.prog) (w:=w) (base:=base) (k:=2) F2 b2 m2 O_is_at_least g_all EB;have O_is_pair:=LH (P:=l.prog) (w:=w) (base:=base) (k:=1) F3 b3 m3 O_is_number g_len g_isinstance g_tuple LM;have O_is_step:=K8 (P:=l.prog) (w:=w) (base:=base) (k:=2) F4 b4 m4 (O_is_number.mono (by decide)) O_is_at_least g_len LK;have O_is_cells:=R5 (P:=l.prog) (w:=w) (base:=base) (k:=2) F5 b5 m5 O_is_pair g_len g_isinstance g_tuple g_all g_set RN;have O_is_walk:=LF (P:=l.prog) (w:=w) (base:=base) (k:=3) F6 b6 m6 (O_is_at_least.mono (by decide)) O_are_at_least O_is_step O_is_cells g_isinstance g_str g_len g_tuple g_STRIDES L8;have O_strung:=qbo (P:=l.prog) (w:=w) (base:=base) (k:=0) F7 b7 m7  g_range Pv.qa8;have O_cells_of:=RR (P:=l.prog) (w:=w) (base:=base) (k:=1) F8 b8 m8 O_strung g_list g_range g_STRIDES Pv.R0;have O_in_words:=SE (P:=l.prog) (w:=w) (base:=base) (k:=0) F9 b9 m9  g_str SL;have O_in_rows:=LA (P:=l.prog) (w:=w) (base:=base) (k:=1) F10 b10 m10 O_in_words  K0;have O_walk_text:=CL (P:=l.prog) (w:=w) (base:=base) (k:=2) F11 b11 m11 O_in_rows (O_in_words.mono (by decide))  CU;have O_number_of_word:=YR (P:=l.prog) (w:=w) (base:=base) (k:=0) F12 b12 m12  g_FIGURES g_all g_len g_MOST_FIGURES g_int g_str Y0;have O_numbers_of:=WG (P:=l.prog) (w:=w) (base:=base) (k:=1) F13 b13 m13 O_number_of_word g_tuple XE;have O_rows_of:=LG (P:=l.prog) (w:=w) (base:=base) (k:=2) F14 b14 m14 O_numbers_of g_tuple KZ;have O_walk_of:=LI (P:=l.prog) (w:=w) (base:=base) (k:=4) F15 b15 m15 (O_rows_of.mono (by decide)) (O_numbers_of.mono (by decide)) O_is_walk  LW;have O_spread:=qaX (P:=l.prog) (w:=w) (base:=base) (k:=4) F16 b16 m16 (O_cells_of.mono (by decide)) O_is_walk g_tuple qaK;have O_law_mix:=K4 (P:=l.prog) (w:=w) (base:=base) (k:=0) F17 b17 m17   Bk.LD;have O_law_left:=RO (P:=l.prog) (w:=w) (base:=base) (k:=0) F18 b18 m18  g_len g_abs Bk.SI;have O_law_pick:=RK (P:=l.prog) (w:=w) (base:=base) (k:=1) F19 b19 m19 O_law_mix  Bk.SM;have O_law_many:=SQ (P:=l.prog) (w:=w) (base:=base) (k:=2) F20 b20 m20 O_law_pick  Bk.R7;have O_law_walk:=RU (P:=l.prog) (w:=w) (base:=base) (k:=3) F21 b21 m21 (O_law_pick.mono (by decide)) O_law_many g_int g_range g_tuple Bk.CY;have O_law_walk_words:=VB (P:=l.prog) (w:=w) (base:=base) (k:=0) F22 b22 m22  g_str g_enumerate Y7;have O_law_far:=L7 (P:=l.prog) (w:=w) (base:=base) (k:=2) F24 b24 m24 O_law_pick g_int KT;have O_law_same_0:=qcW (P:=l.prog) (w:=w) (base:=base) F23 b23 m23;have O_law_same_1:=Q6 (P:=l.prog) (w:=w) (base:=base) (k:=0) F23 b23 m23 O_law_same_0 g_isinstance g_list g_tuple g_zip g_all g_len g_str g_bool g_int (Bk.ZD 0);have O_law_same_2:=Q6 (P:=l.prog) (w:=w) (base:=base) (k:=1) F23 b23 m23 O_law_same_1 g_isinstance g_list g_tuple g_zip g_all g_len g_str g_bool g_int (Bk.ZD 1);have O_law_same_3:=Q6 (P:=l.prog) (w:=w) (base:=base) (k:=2) F23 b23 m23 O_law_same_2 g_isinstance g_list g_tuple g_zip g_all g_len g_str g_bool g_int (Bk.ZD 2);have O_law_same_4:=Q6 (P:=l.prog) (w:=w) (base:=base) (k:=3) F23 b23 m23 O_law_same_3 g_isinstance g_list g_tuple g_zip g_all g_len g_str g_bool g_int (Bk.ZD 3);exact qjX (k:=5) F25 (O_law_left.mono (by decide)) (O_law_pick.mono (by decide)) O_spread (O_law_walk.mono (by decide)) (O_law_far.mono (by decide)) (O_law_walk_words.mono (by decide)) (O_walk_text.mono (by decide)) O_walk_of (O_is_walk.mono (by decide)) (O_law_same_4.mono (by decide)) g_len g_min g_range g_str (qje qhr)
set_option maxRecDepth 100000 in
set_option maxHeartbeats 0 in
def qjM (w : World) (os : OsState) : PySem.W.topRun treeTable PySem.Challenge.pw_bankwalk_k78_walks_written_and_read w 11 (some (Value.ref 6)) 2 (⟨qfh w.params,215,{ },#[],{ },475,os⟩ : PySem.W.SharedT).abs (PySem.W.restOf [] qku WY ⟨151,0,165,15⟩ qhJ) = some ⟨qgA w.params,#[],{ },475,os⟩ := by kernel_rfl
def qoe:(qdS++(qeb++[]))=qaE:=by kernel_rfl
set_option maxRecDepth 100000 in
set_option maxHeartbeats 0 in
def qf3 (w : World) (os : OsState) : PySem.W.topRun treeTable PySem.Challenge.pw_bankwalk_k78_walks_written_and_read w 11 (some (Value.ref 6)) (12 + (1 + (841 + (684 + 2)))) ⟨PySem.W.boot_heap w.params,Array.mk [],PySem.W.boot_drawn,PySem.W.boot_toks,os⟩ (PySem.W.topStub PySem.Challenge.pw_bankwalk_k78_walks_written_and_read) = some ⟨qgA w.params,#[],{ },475,os⟩ := by
 have h:=(PySem.W.piece_app (PySem.W.segRun_of (qkB w os)) (PySem.W.piece_app (PySem.W.segRun_of (qkM w os)) (qjM w os)))
 rw [qoe] at h;exact PySem.W.go_top (qli w os) (PySem.W.piece_block (qhA w os) h)
abbrev Q : Program := PySem.W.view PySem.Challenge.pw_bankwalk_k78_walks_written_and_read [1,2,3,4,6,7,8,10,11,12,13,14,15,17,18,19,20,21,22,23,24,25,27,29,30,31,32,33,34,35,36,37]
set_option maxRecDepth 100000 in
set_option maxHeartbeats 0 in
def left : PySem.W.LeftO PySem.Challenge.pw_bankwalk_k78_walks_written_and_read Q ["STRIDES"] (λs=>PySem.W.xlAt Q [] s&&PySem.W.recOk [] s) (λs=>([3,20,21,27,28,32,33,39,40,78,79,80,81,82,88,89,93,94,100,101,105,106,110,111,115,116,120,121,127,128,132,133,137,138,142,143,149,150,154,155,161,162,168,169,175,176,182,183,189,190,194,195,199,200,206,207,213,214]:List Addr).map s.heap.get?) (λw=>(Kf w.params).map λp=>some p.2) 3172:=
 PySem.W.LeftO.of_pieces (H₀:=PySem.W.boot_heap) (H₁:=qgA) (gs₀:=Array.mk []) (gs₁:=#[]) (d₀:=PySem.W.boot_drawn) (d₁:={ }) (k₀:=PySem.W.boot_toks) (k₁:=475) (m₀:=11) (ann:=some (Value.ref 6)) (M:=(12+(1+(841+(684+2)))))
  (PySem.W.boot_open (by kernel_rfl) (by kernel_rfl) (λs=>by kernel_rfl)) (λw=>by kernel_rfl) qf3 (by kernel_rfl) (λw=>by kernel_rfl)
end K78
open PySem PySem.W PyProof.Rows
set_option maxRecDepth 100000 in
set_option maxHeartbeats 0 in
theorem PySem.Challenge.cw_bankwalk_k78_walks_written_and_read_holds : PySem.Challenge.rw_bankwalk_k78_walks_written_and_read.Holds :=
 Hd.head (l := PySem.Challenge.rw_bankwalk_k78_walks_written_and_read) (q := K78.Q) (loose := ["STRIDES"]) (K:=K78.Kf) (as:=[3,20,21,27,28,32,33,39,40,78,79,80,81,82,88,89,93,94,100,101,105,106,110,111,115,116,120,121,127,128,132,133,137,138,142,143,149,150,154,155,161,162,168,169,175,176,182,183,189,190,194,195,199,200,206,207,213,214]) (N:=3172) (k:=6) (x:="_law_script")
  (d:=⟨"law",L2.Q7 K78.Z0,L2.zP K78.Z0,L2.qh K78.Z0,⟨151,0,165,15⟩⟩) (λ_=>by kernel_rfl) (by kernel_rfl) K78.left (by kernel_rfl) (by kernel_rfl) (by kernel_rfl) (by kernel_rfl) (by kernel_rfl)
  ⟨rfl,rfl,rfl,rfl,rfl,by decide +kernel⟩ (by w_witness2) rfl (by kernel_rfl) ⟨rfl,by decide,by decide,rfl⟩ (λw=>by kernel_rfl) λw mg fa h KX G hmg=>K78.qll KX G hmg
