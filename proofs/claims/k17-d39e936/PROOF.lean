import PyProof.Rows.All
import Wide.All
import OpenK.AllK
import Wide.FinOn
import Lean
import PyProof.EqAt
import PyProof.EqKinds
import PyProof.TupleCall
import PyProof.NeKinds
import KE.KRevSl
import PyProof.FactsAll.bool_2
import PyProof.Rows.EqBoolInt
import PyProof.Rows.IntBool
import PySem.Challenge.RW_bankwalk_k17_clashes_shown
-- CHANGE: your row's module here,as the last of these rows
set_option Elab.async false
set_option genSizeOf false
set_option genInjectivity false
noncomputable section
abbrev Frg:=PySem.W.Frag
open List (getElem_cons_zero length_cons getElem?_cons_succ getElem_cons_succ getElem?_cons_zero length_nil set_cons_zero set_cons_succ length_map not_mem_nil mem_append_right map_cons mem_cons getElem?_set getElem?_map cons_append size_toArray getElem?_eq_getElem map_map mem_of_getElem? mem_map length_append getD_eq_getElem?_getD mem_range length_range)
def obb{α β:Type _}{o:Option α}{f:α->Option β}{b:β}(h:o.bind f=some b):∃a,o=some a/\f a=some b:=Option.bind_eq_some_iff.mp h
set_option linter.all false
set_option maxRecDepth 100000
namespace L2
open PySem PySem.Spec PyProof.Rows
abbrev Key:=Sum Int Str
def qnF:Key->Value->Bool
 |.inl k,v=>Value.isInt k v
 |.inr x,v=>Value.isStrOf x v
def qqX (w:World):Key->Int
 |.inl k=>hashInt k
 |.inr x=>hashStr w x
def zU:∀ {k:Key} {v:Value},qnF k v=true->(∃ i t,k=Sum.inl i/\v=Value.int i t)\/(∃ x t,k=Sum.inr x/\v=Value.str x t)
 |.inl i,v,h=>by
  obtain ⟨t,e⟩:=Value.isInt_shape (k:=i) (v:=v) h;exact .inl ⟨i,t,rfl,e⟩
 |.inr x,v,h=>by
  obtain ⟨t,e⟩:=Value.isStrOf_shape (x:=x) (v:=v) h;exact .inr ⟨x,t,rfl,e⟩
def qnq (a b:Int):decide ((Sum.inl a:Key)=Sum.inl b)=(a==b):=by
 by_cases e:a=b
 ·subst e;simp
 ·have h:¬ (Sum.inl a:Key)=Sum.inl b:=λq=>e (Sum.inl.inj q);rw [decide_eq_false h];exact (beq_eq_false_iff_ne.mpr e).symm
def qnT (a b:Str):decide ((Sum.inr a:Key)=Sum.inr b)=decide (a=b):=by
 by_cases e:a=b
 ·subst e;simp
 ·have h:¬ (Sum.inr a:Key)=Sum.inr b:=λq=>e (Sum.inr.inj q);rw [decide_eq_false h,decide_eq_false e]
def qkR (a:Int) (b:Str):decide ((Sum.inl a:Key)=Sum.inr b)=false:=decide_eq_false (λq=>nomatch q)
def qna (a:Str) (b:Int):decide ((Sum.inr a:Key)=Sum.inl b)=false:=decide_eq_false (λq=>nomatch q)
def qbD (prog:Program) (w:World):PySem.KeyKind prog w Key where
 is:=qnF
 hash:=qqX w
 inj:=λv a b ha hb=>by
  rcases zU ha with ⟨i,t,rfl,rfl⟩|⟨x,t,rfl,rfl⟩
  ·rcases zU hb with ⟨j,u,rfl,e⟩|⟨y,u,rfl,e⟩
   ·injection e with e1 _;rw [e1]
   ·exact nomatch e
  ·rcases zU hb with ⟨j,u,rfl,e⟩|⟨y,u,rfl,e⟩
   ·exact nomatch e
   ·injection e with e1 _;rw [e1]
 byValue:=λk v h=>by
  rcases zU h with ⟨i,t,rfl,rfl⟩|⟨x,t,rfl,rfl⟩<;>rfl
 pyHash:=λhv h=>by
  rcases zU hv with ⟨i,t,rfl,rfl⟩|⟨x,t,rfl,rfl⟩
  ·exact wpAny_pyHash_int h
  ·exact wpAny_pyHash_str h
 eqBool:=λhu hv h=>by
  rcases zU hu with ⟨i,t,rfl,rfl⟩|⟨x,t,rfl,rfl⟩
  ·rcases zU hv with ⟨j,u,rfl,rfl⟩|⟨y,u,rfl,rfl⟩
   ·rw [qnq] at h;exact wpAny_eqBool_int h
   ·rw [qkR] at h;exact SeqAt.EqAt.int_str i t y u _ _ _ _ h
  ·rcases zU hv with ⟨j,u,rfl,rfl⟩|⟨y,u,rfl,rfl⟩
   ·rw [qna] at h;exact SeqAt.EqAt.str_int x t j u _ _ _ _ h
   ·rw [qnT] at h;exact wpAny_eqBool_str h
 «strs»:=λk x t v h=>by
  rcases zU h with ⟨i,u,rfl,e⟩|⟨y,u,rfl,e⟩
  ·exact nomatch e
  ·injection e with e1 _;subst e1;cases v<;>rfl
set_option genInjectivity true in
inductive V where
 |non|bl (b:Bool)|int (i:Int)|str (x:Str)|byt (b:Array UInt8)|flt (b:UInt64)|ref (a:Addr)|ty (n:String)
 deriving DecidableEq
def jT:V->Value->Prop
 |.non,u=>u=Value.none
 |.bl b,u=>u=Value.bool b
 |.int i,u=>∃ t,u=Value.int i t
 |.str x,u=>∃ t,u=Value.str x t
 |.byt b,u=>∃ t,u=Value.bytes b t
 |.flt b,u=>∃ t,u=Value.float b t
 |.ref a,u=>u=Value.ref a
 |.ty n,u=>u=Value.type n
abbrev jx:List V->List Value->Prop:=Paired jT
def jx.length {xs:List V} {us:List Value} (r:jx xs us):xs.length=us.length:=Paired.length r
def jx.get:∀ {xs:List V} {us:List Value} {i:Nat} {x:V},jx xs us->xs[i]?=some x->∃ u,us[i]?=some u/\jT x u
 |_,_,_,_,.nil,e=>by simp at e
 |_,_,0,_,.cons r _,e=>by simp at e;subst e;exact ⟨_,rfl,r⟩
 |_,_,i+1,x,.cons _ t,e=>by
  obtain ⟨u,h1,h2⟩:=jx.get (i:=i) (x:=x) t (by simpa using e);exact ⟨u,by simpa using h1,h2⟩
def jx.set {x:V} {u:Value} (r:jT x u):∀ {xs:List V} {us:List Value} (i:Nat),jx xs us->jx (xs.set i x) (us.set i u)
 |_,_,_,.nil=>.nil
 |_,_,0,.cons _ t=>.cons r t
 |_,_,i+1,.cons q t=>.cons q (jx.set r i t)
def jx.append:∀ {xs ys:List V} {us ws:List Value},jx xs us->jx ys ws->jx (xs++ys) (us++ws)
 |_,_,_,_,.nil,s=>s
 |_,_,_,_,.cons r t,s=>.cons r (jx.append t s)
def jx.take:∀ {xs:List V} {us:List Value} (n:Nat),jx xs us->jx (xs.take n) (us.take n)
 |_,_,0,_=>.nil
 |_,_,_+1,.nil=>.nil
 |_,_,n+1,.cons r t=>.cons r (jx.take n t)
def jx.drop:∀ {xs:List V} {us:List Value} (n:Nat),jx xs us->jx (xs.drop n) (us.drop n)
 |_,_,0,r=>r
 |_,_,_+1,.nil=>.nil
 |_,_,n+1,.cons _ t=>jx.drop n t
def qqj:Option V->Option Value->Prop
 |some v,some u=>jT v u
 |none,none=>True
 |_,_=>False
def KV {κ:Type}:List (κ×V)->List (κ×Value)->Prop:=Paired λ(p:κ×V) (q:κ×Value)=>p.1=q.1/\jT p.2 q.2
def kV:Key->V
 |.inl i=>.int i
 |.inr x=>.str x
inductive HO where
 /-- a list -/
 |lst (xs:List V)
 /-- a tuple (never changes) -/
 |tup (xs:List V)
 /-- a dict whose keys are ints and texts;one whose keys are tuples of ints and texts (the empty one is both) -/
 |dK (kvs:List (Key×V))|dT (kvs:List (List Key×V))
 /-- a set of ints: its members,its size -/
 |set (S:Int->Bool) (n:Nat)
 /-- an instance of the class at C,its dict at dx,its attributes -/
 |ins (C dx:Addr) (fs:List (Str×V))
 /-- the dict of the instance at x -/
 |own (x:Addr)
 /-- the dict of an exception -/
 |xd (fs:List (Str×V))
 /-- a bound method,f of x -/
 |met (f x:Addr)
 /-- a range object lo,lo+1,.. below hi -/
 |rng (lo hi:Int)
 /-- a thing that is known to the object (the script;a dict while a loop walks it): read,never written while it is so -/
 |frz (o:Obj) (u:HO)
 /-- a code object's table -/
 |tbl (ps:Array Value)
 /-- any other thing,by what is true of its one object (a def of one's own: SetO a S n:=HO.ext λh=>..) -/
 |ext (φ:Heap->Prop)
abbrev Hp:=Addr->Option HO
def upd (H:Hp) (a:Addr) (o:HO):Hp:=λb=>if b=a then some o else H b
def zG {H:Hp} {a:Addr} {o:HO}:upd H a o a=some o:=by unfold upd;rw [if_pos rfl]
def qT {H:Hp} {a b:Addr} {o:HO} (h:b≠a):upd H a o b=H b:=by unfold upd;rw [if_neg h]
def qE {H:Hp} {a b:Addr} {o:HO} (h:H a=some o) (h':H b=none):a≠b:=by
 intro e;subst e;rw [h] at h';cases h'
section
variable (P:Program) (w:World)
def D9 (H:Hp) (h:Heap) (a:Addr):HO->Prop
 |.lst xs=>xs.length<=sizeLine/\∃ (its:List Value) (n:Nat),jx xs its/\h.get? a=some { cls:=.type "list",data:=.seq its.toArray n }
 |.tup xs=>xs.length<=sizeLine/\∃ its:List Value,jx xs its/\IsTup h a its.toArray
 |.dK kvs=>kvs.length<=sizeLine/\(a==sysModules)=false/\∃ vs,KV kvs vs/\h.DictOf (qbD P w) a vs
 |.dT kvs=>kvs.length<=sizeLine/\(a==sysModules)=false/\∃ xs:List (List Key×Addr×Value),
   Paired (λ(p:List Key×V) (q:List Key×Addr×Value)=>p.1=q.1/\H q.2.1=some (.tup (p.1.map kV))/\jT p.2 q.2.2) kvs xs /\
   ∃ o es ep,h.get? a=some o/\o.ExactDict/\o.data=.dict es ep/\es.toList=xs.map (entryOfKey (tupleKind (qbD P w)))/\(xs.map (·.1)).Nodup
 |.set S n=>h.SetOf (intKind P w) a S n
 |.ins C dx fs=>H dx=some (.own a)/\fs.length<=1000/\dx≠a/\h.get? a=some (PySem.W.instObj C dx) /\
   ∃ mA,h.Ns1 dx mA/\(∀ f,qqj (fs.lookup f) (mA f))/\PySem.Within mA (fs.map (·.1))
 |.own _=>∃ o,h.get? a=some o
 |.xd fs=>∃ mA,h.Ns1 a mA/\∀ f,qqj (fs.lookup f) (mA f)
 |.rng lo hi=>∃ t u v,h.get? a=some { cls:=.type "range",data:=.fields #[.int lo t,.int hi u,.int 1 v] }
 |.frz o u=>h.get? a=some o/\D9 H h a u
 |.tbl ps=>h.get? a=some { cls:=.none,data:=.fields ps }
 |.met f x=>h.get? a=some (PySem.W.methodObj (.ref f) (.ref x))
 |.ext φ=>φ h/\(∃ o,h.get? a=some o)/\∀ h1 h2:Heap,φ h1->(∀ o,h1.get? a=some o->h2.get? a=some o)->φ h2
def HOk (H:Hp) (h:Heap):Prop:=∀ a o,H a=some o->D9 P w H h a o
end
section
variable {P:Program} {w:World} {H H':Hp} {h h':Heap} {a:Addr} {o:HO}
def D9.lt (x:D9 P w H h a o):a<h.objs.size:=by
 cases o with
 |lst xs=>obtain ⟨_,_,_,_,e⟩:=x;exact Heap.lt_size e
 |tup xs=>obtain ⟨_,_,_,p⟩:=x;exact p.lt
 |dK kvs=>obtain ⟨_,_,_,_,o,_,_,e,_⟩:=x;exact Heap.lt_size e
 |dT kvs=>obtain ⟨_,_,_,_,o,_,_,e,_⟩:=x;exact Heap.lt_size e
 |set S n=>obtain ⟨o,_,_,_,e,_⟩:=x;exact Heap.lt_size e
 |ins C dx fs=>obtain ⟨_,_,_,e,_⟩:=x;exact Heap.lt_size e
 |own y=>obtain ⟨_,e⟩:=x;exact Heap.lt_size e
 |xd fs=>obtain ⟨_,⟨_,_,_,e,_⟩,_⟩:=x;exact Heap.lt_size e
 |rng lo hi=>obtain ⟨_,_,_,e⟩:=x;exact Heap.lt_size e
 |frz ob u=>obtain ⟨e,_⟩:=x;exact Heap.lt_size e
 |tbl ps=>exact Heap.lt_size (show h.get? a=some _ from x)
 |met f y=>exact Heap.lt_size (show h.get? a=some _ from x)
 |ext φ=>obtain ⟨_,⟨_,e⟩,_⟩:=x;exact Heap.lt_size e
def Paired.mapP {α β:Type} {F G:α->β->Prop}:∀ {l₁:List α} {l₂:List β},Paired F l₁ l₂->(∀ a b,F a b->G a b)->Paired G l₁ l₂
 |_,_,.nil,_=>.nil
 |_,_,.cons r t,f=>.cons (f _ _ r) (Paired.mapP t f)
def D9.stay (x:D9 P w H h a o) (k:∀ b u,(b=a\/H b=some (.own a))->h.get? b=some u->h'.get? b=some u)
  (ho:∀ b,H b=some (.own a)->H' b=some (.own a)) (ht:∀ b xs,H b=some (.tup xs)->H' b=some (.tup xs)):D9 P w H' h' a o:=by
 induction o with
 |lst xs=>obtain ⟨z,its,n,r,e⟩:=x;exact ⟨z,its,n,r,k _ _ (.inl rfl) e⟩
 |tup xs=>obtain ⟨z,its,r,ob,e,c⟩:=x;exact ⟨z,its,r,ob,k _ _ (.inl rfl) e,c⟩
 |dK kvs=>obtain ⟨z,y,vs,r,ob,es,ep,e,c⟩:=x;exact ⟨z,y,vs,r,ob,es,ep,k _ _ (.inl rfl) e,c⟩
 |dT kvs=>
  obtain ⟨z,y,xs,r,ob,es,ep,e,c⟩:=x;exact ⟨z,y,xs,Paired.mapP r λp q z=>⟨z.1,ht _ _ z.2.1,z.2.2⟩,ob,es,ep,k _ _ (.inl rfl) e,c⟩
 |set S n=>obtain ⟨ob,es,ep,t,e,c⟩:=x;exact ⟨ob,es,ep,t,k _ _ (.inl rfl) e,c⟩
 |ins C dx fs=>
  obtain ⟨d,z,ne,e,mA,⟨od,es,ep,e2,c⟩,r⟩:=x;exact ⟨ho _ d,z,ne,k _ _ (.inl rfl) e,mA,⟨od,es,ep,k _ _ (.inr d) e2,c⟩,r⟩
 |own y=>obtain ⟨ob,e⟩:=x;exact ⟨ob,k _ _ (.inl rfl) e⟩
 |xd fs=>obtain ⟨mA,⟨od,es,ep,e,c⟩,r⟩:=x;exact ⟨mA,⟨od,es,ep,k _ _ (.inl rfl) e,c⟩,r⟩
 |rng lo hi=>obtain ⟨t,u,v,e⟩:=x;exact ⟨t,u,v,k _ _ (.inl rfl) e⟩
 |frz ob u ih=>obtain ⟨e,q⟩:=x;exact ⟨k _ _ (.inl rfl) e,ih q⟩
 |tbl ps=>
  have e:h.get? a=some { cls:=.none,data:=.fields ps }:=x;show h'.get? a=some { cls:=.none,data:=.fields ps };exact k a _ (.inl rfl) e
 |met f y=>
  have e:h.get? a=some (PySem.W.methodObj (.ref f) (.ref y)):=x;show h'.get? a=some (PySem.W.methodObj (.ref f) (.ref y));exact k a _ (.inl rfl) e
 |ext φ=>obtain ⟨p,⟨o,e⟩,st⟩:=x;exact ⟨st _ _ p λo q=>k _ _ (.inl rfl) q,⟨o,k _ _ (.inl rfl) e⟩,st⟩
def HOk.lt (x:HOk P w H h) (e:H a=some o):a<h.objs.size:=(x a o e).lt
def HOk.fresh (x:HOk P w H h) (e:h.objs.size<=a):H a=none:=by
 cases q:H a with
 |none=>rfl
 |some u=>exact absurd (Nat.lt_of_lt_of_le (x.lt q) e) (Nat.lt_irrefl _)
def HOk.kept (x:HOk P w H h) (k:∀ b u,h.get? b=some u->h'.get? b=some u):HOk P w H h':=λa o e=>
 (x a o e).stay (λb u _ q=>k b u q) (λ_ q=>q) λ_ _ q=>q
def HOk.laid (x:HOk P w H h) (k:∀ b u,h.get? b=some u->h'.get? b=some u) (hp:h.objs.size<=a) (new:D9 P w (upd H a o) h' a o):HOk P w (upd H a o) h':=λb u e=>by
 have hn:=x.fresh hp;by_cases hb:b=a
 ·subst hb;rw [zG] at e;cases e;exact new
 ·rw [qT hb] at e;exact (x b u e).stay (λc v _ q=>k c v q) (λc q=>by rw [qT (qE q hn)];exact q) λc xs q=>by rw [qT (qE q hn)];exact q
end
def Rd (H:Hp) (a:Addr) (u:HO):Prop:=H a=some u\/∃ o,H a=some (.frz o u)
def Rd.ok {P:Program} {w:World} {H:Hp} {h:Heap} {a:Addr} {u:HO} (r:Rd H a u) (x:HOk P w H h):D9 P w H h a u:=by
 rcases r with r|⟨o,r⟩
 ·exact x a u r
 ·obtain ⟨_,q⟩:=x a _ r;exact q
def Mut:Option HO->Prop
 |some (.lst _)=>True
 |some (.dK _)=>True
 |some (.dT _)=>True
 |some (.set _ _)=>True
 |some (.ins _ _ _)=>True
 |some (.ext _)=>True
 |_=>False
section
variable {P:Program} {w:World} {H:Hp} {h h':Heap} {x e:Addr} {o':HO}
def HOk.write (ok:HOk P w H h) (mu:Mut (H x)) (he:e=x\/H e=some (.own x)) (k:∀ b u,b≠e->h.get? b=some u->h'.get? b=some u) (heo:∃ u,h'.get? e=some u)
  (new:D9 P w (upd H x o') h' x o'):HOk P w (upd H x o') h':=λb u q=>by
 have nown:∀ c y,H c=some (.own y)->c≠x:=λc y r z=>by subst z;rw [r] at mu;exact mu
 have ntup:∀ c xs,H c=some (.tup xs)->c≠x:=λc xs r z=>by subst z;rw [r] at mu;exact mu
 by_cases hb:b=x
 ·subst hb;rw [zG] at q;cases q;exact new
 ·rw [qT hb] at q;by_cases hbe:b=e
  ·have q':H b=some (.own x):=by
    rcases he with z|z
    ·exact absurd (hbe.trans z) hb
    ·rw [hbe];exact z
   rw [q] at q';cases q';obtain ⟨v,hv⟩:=heo;exact ⟨v,by rw [hbe];exact hv⟩
  ·refine (ok b u q).stay (λc v hc r=>k c v ?_ r) (λc r=>by rw [qT (nown c b r)];exact r) λc xs r=>by rw [qT (ntup c xs r)];exact r
   rcases hc with rfl|hc
   ·exact hbe
   ·rintro rfl;rcases he with z|z
    ·exact nown c b hc z
    ·rw [hc] at z;cases z;exact hb rfl
end
structure Un (fs ex:List Addr) (H H':Hp) (h h':Heap):Prop where
 keep:∀ b o,h.get? b=some o->H b=none->b∉fs->b∉ex->h'.get? b=some o
 slot:∀ b o,h.get? b=some o->H b=none->b∈fs->b∉ex->∃ sl,h'.get? b=some { o with slots:=sl }
 free:∀ b o,h.get? b=some o->H b=none->b∉ex->H' b=none
 there:∀ b o,h.get? b=some o->b∉ex->∃ o',h'.get? b=some o'
 tups:∀ b xs,H b=some (.tup xs)->H' b=some (.tup xs)
 frzs:∀ b o u,H b=some (.frz o u)->H' b=some (.frz o u)
 tbls:∀ b ps,H b=some (.tbl ps)->∃ more,H' b=some (.tbl (ps++more))
section
variable {fs fs' ex ex':List Addr} {H H1 H2:Hp} {h h1 h2 h':Heap} {a x e:Addr} {o:HO}
def Un.any (u:Un fs ex H H1 h h1) {b:Addr} {ob:Obj} (q:h.get? b=some ob) (n:H b=none) (hx:b∉ex):∃ sl,h1.get? b=some { ob with slots:=sl }:=by
 by_cases hb:b∈fs
 ·exact u.slot b ob q n hb hx
 ·exact ⟨ob.slots,u.keep b ob q n hb hx⟩
def Un.kept (k:∀ b u,h.get? b=some u->h'.get? b=some u):Un fs ex H H h h':=
 ⟨λb ob q _ _ _=>k b ob q,λb ob q _ _ _=>⟨ob.slots,k b ob q⟩,λ_ _ _ n _=>n,λb ob q _=>⟨ob,k b ob q⟩,λ_ _ q=>q,λ_ _ _ q=>q,λ_ ps q=>⟨#[],by rw [q];simp⟩⟩
def Un.refl:Un fs ex H H h h:=Un.kept λ_ _ q=>q
def Un.laid (k:∀ b u,h.get? b=some u->h'.get? b=some u) (hp:h.objs.size<=a) (hn:H a=none):Un fs ex H (upd H a o) h h' where
 keep:=λb u q _ _ _=>k b u q
 slot:=λb u q _ _ _=>⟨u.slots,k b u q⟩
 free:=λb u q n _=>by rw [qT (Nat.ne_of_lt (Nat.lt_of_lt_of_le (Heap.lt_size q) hp))];exact n
 there:=λb u q _=>⟨u,k b u q⟩
 tups:=λb xs q=>by rw [qT (qE q hn)];exact q
 frzs:=λb u xs q=>by rw [qT (qE q hn)];exact q
 tbls:=λb ps q=>⟨#[],by rw [qT (qE q hn),q];simp⟩
def Un.write (mu:Mut (H x)) (he:e=x\/H e=some (.own x)) (k:∀ b u,b≠e->h.get? b=some u->h'.get? b=some u) (heo:∃ u,h'.get? e=some u):Un fs ex H (upd H x o) h h':=by
 have hx:∀ b,H b=none->b≠x:=λb n z=>by subst z;rw [n] at mu;exact mu
 have hb:∀ b,H b=none->b≠e:=λb n z=>by
  subst z;rcases he with r|r
  ·exact hx b n r
  ·rw [n] at r;cases r
 have hm:∀ b u,H b=some u->¬ Mut (some u)->b≠x:=λb u q nm z=>by subst z;rw [q] at mu;exact nm mu
 refine ⟨λb u q n _ _=>k b u (hb b n) q,λb u q n _ _=>⟨u.slots,k b u (hb b n) q⟩,λb u q n _=>by rw [qT (hx b n)];exact n,λb u q _=>?_,
  λb xs q=>by rw [qT (hm b _ q λz=>z)];exact q,λb u xs q=>by rw [qT (hm b _ q λz=>z)];exact q,λb ps q=>⟨#[],by rw [qT (hm b _ q λz=>z),q];simp⟩⟩
 by_cases hbe:b=e
 ·subst hbe;exact heo
 ·exact ⟨u,k b u hbe q⟩
end
def trk (h:Heap) (H:Hp):List Addr:=(List.range h.objs.size).filter λa=>(H a).isSome
def qek (h:Heap) (H:Hp):Heap:=PySem.W.hideAll h (trk h H)
def qde (h:Heap) (H:Hp):(qek h H).objs.size=h.objs.size:=PySem.W.hideAll_size _ _
def qel {h:Heap} {H:Hp} {b:Addr} {o:Obj} (e:h.get? b=some o) (n:H b=none):(qek h H).get? b=some o:=
 PySem.W.hideAll_get _ e λhm=>by
  have q:(H b).isSome=true:=(List.mem_filter.mp hm).2;rw [n] at q;simp at q
def qh5 {h:Heap} {H:Hp} {b:Addr} {o:Obj} (e:(qek h H).get? b=some o):h.get? b=some o/\H b=none:=by
 have e':h.get? b=some o:=PySem.W.of_hideAll (trk h H) e;refine ⟨e',?_⟩;cases q:H b with
 |none=>rfl
 |some x=>
  have hm:b∈trk h H:=List.mem_filter.mpr ⟨mem_range.mpr (Heap.lt_size e'),by simp [q]⟩;have z:(qek h H).get? b=none:=PySem.W.hideAll_none (trk h H) hm;rw [z] at e;cases e
def qhW (g h:Heap) (L:Addr):List (Addr×Obj):=(List.range h.objs.size).filterMap λa=>if a=L\/(g.get? a).isSome=true then none else (h.get? a).map λo=>(a,o)
def ZY (g h:Heap) (L d:Addr):List (Addr×Obj):=(qhW g h L).filter λp=>decide (p.1≠d)
structure Mod (K:Frg) (mg:Str->Option Value) (base:Heap):Prop where
 kin:K.In base
 glob:base.Ns mainGlobals mg
 blt:∃ mb,base.Ns builtinsNs mb/\∀ x:Str,x≠"__name__" -> mb x=bootBuiltins x
 nolimit:base.NoLimit
structure Cx where
 prog:Program
 w:World
 K:PySem.W.Frag
 mg:Str->Option Value
 base:Heap
 A:Around
 N:List Str
 s₀:Shared
 H₀:Hp
 env:Env
 outer:List Env
 stack:List Env
 ex:List Addr
 fn:Str->Bool
 calm:Bool
 pn:List (Addr×Obj)
 xe:Value->Shared->Prop
def frs (l:List Env):List Addr:=l.filterMap (·.frame)
abbrev Cx.fs (X:Cx):List Addr:=frs X.outer
def Vis (sc:Scope) (x:Str):Prop:=sc.names.lookup x=some .local\/sc.names.lookup x=some .cell\/sc.names.lookup x=some .free
def Loc (sc:Scope) (x:Str):Prop:=sc.names.lookup x=some .local\/sc.names.lookup x=some .cell
def qqR (env:Env) (h:Heap) (m:Str->Option Value) (x:Str) (u:Value):Prop:=
 (env.kindOf x=some .local/\m x=some u)\/((env.kindOf x=some .cell\/env.kindOf x=some .free)/\∃ c,env.cells.lookup x=some c/\h.IsCell c (some u))
structure Cx.Ok (X:Cx):Prop where
 mod:Mod X.K X.mg X.base
 kind:X.env.scope.kind=.function
 glob:X.env.globals=mainGlobals
 blt:X.env.builtins=builtinsNs
 above:X.s₀.heap.objs.size<=X.env.locals
 inj:∀ x y c,X.env.cells.lookup x=some c->X.env.cells.lookup y=some c->x=y
 has:∀ x,(X.env.kindOf x=some .cell\/X.env.kindOf x=some .free)->∃ c,X.env.cells.lookup x=some c
 cab:∀ x c,X.fn x=true->X.env.cells.lookup x=some c->X.s₀.heap.objs.size<=c
 hd:X.calm=true->X.A.handled=none
 frames:X.A.frames=some X.stack
 stk:X.stack=X.outer\/(X.stack=X.env::X.outer/\X.env.frame=some X.env.locals)
 exf:∀ b∈X.ex,b≠X.env.locals/\∀ x c,X.env.cells.lookup x=some c->c≠b
 bs:∀ b o,X.base.get? b=some o->X.s₀.heap.get? b=some o/\X.H₀ b=none
 bsz:X.base.objs.size<=X.s₀.heap.objs.size
 noex:∀ b o,X.base.get? b=some o->b∉X.ex
 exfs:∀ b∈X.ex,b∉X.fs
 funs:X.s₀.heap.FunFrames X.base X.outer
 frf:∀ b∈X.fs,X.H₀ b=none
structure Inv (X:Cx) (pins:List (Addr×Obj)) (σ:List (Option V)) (H:Hp) (s:Shared):Prop where
 ok:X.Ok
 os:s.os=X.s₀.os
 bare:AllBare s.gens
 base:Un X.fs X.ex X.H₀ H X.s₀.heap s.heap
 loc:∃ m,s.heap.Ns X.env.locals m/\∀ (i:Nat) (x:Str) (v:V),X.N[i]?=some x->σ[i]?=some (some v)->Vis X.env.scope x->∃ u,jT v u/\qqR X.env s.heap m x u
 cell:∀ x c,X.env.cells.lookup x=some c->∃ v,s.heap.IsCell c v
 free:H X.env.locals=none
 freeC:∀ x c,X.env.cells.lookup x=some c->H c=none
 pin:∀ p∈X.pn++pins,s.heap.get? p.1=some p.2/\H p.1=none/\p.1≠X.env.locals/\p.1∉X.fs/\∀ v,p.2.data≠.cell v
 hok:HOk X.prog X.w H s.heap
 len:σ.length=X.N.length
section
variable {X:Cx} {pins:List (Addr×Obj)} {σ:List (Option V)} {H H':Hp} {s:Shared} {h':Heap}
def Cx.Ok.nofr (ok:X.Ok) {b:Addr} {o:Obj} (e:X.base.get? b=some o):b∉X.fs:=λhb=>by
 have:=(ok.funs.mem hb).1;rw [e] at this;cases this
def Inv.bs (I:Inv X pins σ H s):∀ b o,X.base.get? b=some o->s.heap.get? b=some o/\H b=none:=λb o e=>
 ⟨I.base.keep b o (I.ok.bs b o e).1 (I.ok.bs b o e).2 (I.ok.nofr e) (I.ok.noex b o e),I.base.free b o (I.ok.bs b o e).1 (I.ok.bs b o e).2 (I.ok.noex b o e)⟩
def Inv.bk (I:Inv X pins σ H s):∀ b o,X.base.get? b=some o->s.heap.get? b=some o:=λb o e=>(I.bs b o e).1
def Inv.mod (I:Inv X pins σ H s):Mod X.K X.mg X.base:=I.ok.mod
def Inv.kIn (I:Inv X pins σ H s):X.K.In s.heap:=I.ok.mod.kin.keeps I.bk
def Inv.nolimit (I:Inv X pins σ H s):s.heap.NoLimit:=I.ok.mod.nolimit.keeps I.bk
def Inv.fr (I:Inv X pins σ H s):∃ m,Fr X.base X.env.locals s.heap m:=
 let ⟨m,hn,_⟩:=I.loc
 ⟨m,hn,I.bk,Nat.le_trans I.ok.bsz I.ok.above⟩
def Inv.lt (I:Inv X pins σ H s):X.env.locals<s.heap.objs.size:=let ⟨_,hn,_⟩:=I.loc;hn.lt
def Inv.sz (I:Inv X pins σ H s):X.s₀.heap.objs.size<=s.heap.objs.size:=Nat.le_trans I.ok.above (Nat.le_of_lt I.lt)
def Inv.nofs (I:Inv X pins σ H s) {a:Addr} (h:s.heap.objs.size<=a):a∉X.fs:=λhb=>by
 obtain ⟨_,o,ho,_⟩:=I.ok.funs.mem hb;exact absurd (Nat.lt_of_lt_of_le (Heap.lt_size ho) (Nat.le_trans I.sz h)) (Nat.lt_irrefl _)
def Inv.cne (I:Inv X pins σ H s):∀ x c,X.env.cells.lookup x=some c->c≠X.env.locals:=λx c e z=>by
 obtain ⟨v,o,ho,hd⟩:=I.cell x c e;obtain ⟨m,⟨o',es,ep,ho',hd',_⟩,_⟩:=I.loc;rw [z,ho'] at ho;cases ho;rw [hd'] at hd;cases hd
def Inv.funs (I:Inv X pins σ H s):s.heap.FunFrames X.base X.outer:=by
 have all:∀ (l:List Env),(∀ b∈frs l,b∈X.fs)->X.s₀.heap.FunFrames X.base l->s.heap.FunFrames X.base l:=by
  intro l;induction l with
  |nil=>intro _ _;trivial
  |cons env r ih=>
   intro hs hl;obtain ⟨hk,⟨L,o,hf,hn,ho,hd⟩,hr⟩:=hl;have hL:L∈X.fs:=hs L (by unfold frs;rw [List.filterMap_cons,hf];exact List.mem_cons_self);obtain ⟨sl,e⟩:=I.base.slot L o ho (I.ok.frf L hL) hL λz=>I.ok.exfs L z hL;exact ⟨hk,⟨L,_,hf,hn,e,hd⟩,ih (λb hb=>hs b (by unfold frs;rw [List.filterMap_cons,hf];exact List.mem_cons_of_mem _ hb)) hr⟩
 exact all X.outer (λ_ hb=>hb) I.ok.funs
def Inv.stack (I:Inv X pins σ H s):s.heap.FunFrames X.base X.stack:=by
 rcases I.ok.stk with e|⟨e,hf⟩
 ·rw [e];exact I.funs
 ·rw [e];obtain ⟨m,hn,_⟩:=I.loc;refine .cons (by rw [I.ok.kind];decide) hf hn ?_ I.funs;exact Heap.get?_none_of_le (Nat.le_trans I.ok.bsz I.ok.above)
def Inv.stkSub (I:Inv X pins σ H s):∀ b∈frs X.stack,b∈X.env.locals::X.fs:=λb hb=>by
 rcases I.ok.stk with e|⟨e,hf⟩
 ·rw [e] at hb;exact List.mem_cons_of_mem _ hb
 ·rw [e] at hb;unfold frs at hb;rw [List.filterMap_cons,hf] at hb;exact hb
def Inv.stkFree (I:Inv X pins σ H s):∀ b∈frs X.stack,H b=none:=λb hb=>by
 rcases mem_cons.mp (I.stkSub b hb) with e|hb
 ·rw [e];exact I.free
 ·obtain ⟨_,o,ho,_⟩:=I.ok.funs.mem hb;exact I.base.free b o ho (I.ok.frf b hb) λz=>I.ok.exfs b z hb
def Inv.step {g':Array GenState} {t':Nat} {d':Drawn} {ch:List Addr} (I:Inv X pins σ H s)
  (hch:∀ b∈ch,(b∈X.ex\/X.s₀.heap.objs.size<=b)/\b≠X.env.locals/\(∀ x c,X.env.cells.lookup x=some c->c≠b)/\∀ p∈X.pn++pins,p.1≠b)
  (keep:∀ b o,b≠X.env.locals->b∉X.fs->b∉ch->s.heap.get? b=some o->H b=none->h'.get? b=some o)
  (slot:∀ b o,b≠X.env.locals->b∈X.fs->b∉ch->s.heap.get? b=some o->H b=none->∃ sl,h'.get? b=some { o with slots:=sl }) (free:∀ b o,b∉ch->s.heap.get? b=some o->H b=none->H' b=none)
  (there:∀ b o,b∉ch->s.heap.get? b=some o->∃ o',h'.get? b=some o')
  (tups:∀ b xs,H b=some (.tup xs)->H' b=some (.tup xs)) (frzs:∀ b o u,H b=some (.frz o u)->H' b=some (.frz o u)) (tbls:∀ b ps,H b=some (.tbl ps)->∃ more,H' b=some (.tbl (ps++more)))
  (ns:∀ m,s.heap.Ns X.env.locals m->h'.Ns X.env.locals m) (hok:HOk X.prog X.w H' h') (hg:AllBare g') :
  Inv X pins σ H' { s with heap:=h',gens:=g',drawn:=d',toks:=t' }:=by
 have neL:∀ b o,X.s₀.heap.get? b=some o->b≠X.env.locals:=λb o e=>Nat.ne_of_lt (Nat.lt_of_lt_of_le (Heap.lt_size e) I.ok.above);have neC:∀ b o,X.s₀.heap.get? b=some o->b∉X.ex->b∉ch:=λb o e hx hb=>by
  rcases (hch b hb).1 with z|z
  ·exact hx z
  ·exact absurd (Nat.lt_of_lt_of_le (Heap.lt_size e) z) (Nat.lt_irrefl _)
 have cellK:∀ x c,X.env.cells.lookup x=some c->∀ v,s.heap.IsCell c v->h'.IsCell c v:=λx c e v ⟨o,ho,hd⟩=>by
  have nch:c∉ch:=λz=>(hch c z).2.2.1 x c e rfl;by_cases hc:c∈X.fs
  ·obtain ⟨sl,q⟩:=slot c o (I.cne x c e) hc nch ho (I.freeC x c e);exact ⟨_,q,hd⟩
  ·exact ⟨o,keep c o (I.cne x c e) hc nch ho (I.freeC x c e),hd⟩
 refine ⟨I.ok,I.os,hg,⟨λb o e n hb hx=>?_,λb o e n hb hx=>?_,λb o e n hx=>?_,λb o e hx=>?_,λb xs e=>tups b xs (I.base.tups b xs e),λb o xs e=>frzs b o xs (I.base.frzs b o xs e),λb ps e=>?_⟩,?_,λx c e=>?_,?_,λx c e=>?_,λp hp=>?_,hok,I.len⟩
 ·exact keep b o (neL b o e) hb (neC b o e hx) (I.base.keep b o e n hb hx) (I.base.free b o e n hx)
 ·obtain ⟨sl,e1⟩:=I.base.slot b o e n hb hx;obtain ⟨sl',e2⟩:=slot b _ (neL b o e) hb (neC b o e hx) e1 (I.base.free b o e n hx);exact ⟨sl',e2⟩
 ·obtain ⟨o',e1⟩:=I.base.there b o e hx;exact free b o' (neC b o e hx) e1 (I.base.free b o e n hx)
 ·obtain ⟨o',e1⟩:=I.base.there b o e hx;exact there b o' (neC b o e hx) e1
 ·obtain ⟨m1,e1⟩:=I.base.tbls b ps e;obtain ⟨m2,e2⟩:=tbls b _ e1;exact ⟨m1++m2,by rw [e2,Array.append_assoc]⟩
 ·obtain ⟨m,hn,hl⟩:=I.loc;refine ⟨m,ns m hn,λi x v e1 e2 e3=>?_⟩;obtain ⟨u,r,l⟩:=hl i x v e1 e2 e3;refine ⟨u,r,?_⟩;rcases l with l|⟨k,c,e,z⟩
  ·exact .inl l
  ·exact .inr ⟨k,c,e,cellK x c e _ z⟩
 ·obtain ⟨v,z⟩:=I.cell x c e;exact ⟨v,cellK x c e v z⟩
 ·obtain ⟨m,⟨o,_,_,ho,_⟩,_⟩:=I.loc;exact free _ o (λz=>(hch _ z).2.1 rfl) ho I.free
 ·obtain ⟨v,o,ho,hd⟩:=I.cell x c e;exact free c o (λz=>(hch c z).2.2.1 x c e rfl) ho (I.freeC x c e)
 ·obtain ⟨e,n,ne,nf,d⟩:=I.pin p hp;have nch:p.1∉ch:=λz=>(hch p.1 z).2.2.2 p hp rfl;exact ⟨keep p.1 p.2 ne nf nch e n,free p.1 p.2 nch e n,ne,nf,d⟩
def Inv.un {t':Nat} (I:Inv X pins σ H s) (u:Un X.fs [] H H' s.heap h') (hok:HOk X.prog X.w H' h'):Inv X pins σ H' { s with heap:=h',toks:=t' }:=by
 obtain ⟨m,⟨o,es,ep,ho,r⟩,_⟩:=id I.loc;obtain ⟨sl,hL⟩:=u.any ho I.free (by simp);exact I.step (g':=s.gens) (d':=s.drawn) (ch:=[]) (λ_ z=>nomatch z) (λb o _ hb _ e n=>u.keep b o e n hb (by simp)) (λb o _ hb _ e n=>u.slot b o e n hb (by simp)) (λb o _ e n=>u.free b o e n (by simp)) (λb o _ e=>u.there b o e (by simp)) u.tups u.frzs u.tbls (λm' hm=>by
  obtain ⟨o',es',ep',ho',r'⟩:=hm;rw [ho] at ho';cases ho';exact ⟨_,es',ep',hL,r'⟩) hok I.bare
def Inv.call {g':Array GenState} {t':Nat} {d':Drawn} {ch:List Addr} (I:Inv X pins σ H s) (u:Un (frs X.stack) ch H H' s.heap h') (hok:HOk X.prog X.w H' h') (hg:AllBare g')
  (hch:∀ b∈ch,(b∈X.ex\/X.s₀.heap.objs.size<=b)/\b≠X.env.locals/\(∀ x c,X.env.cells.lookup x=some c->c≠b)/\∀ p∈X.pn++pins,p.1≠b) :
  Inv X pins σ H' { s with heap:=h',gens:=g',drawn:=d',toks:=t' }:=by
 obtain ⟨m,⟨o,es,ep,ho,r⟩,_⟩:=id I.loc;obtain ⟨sl,hL⟩:=u.any ho I.free λz=>(hch _ z).2.1 rfl;exact I.step (ch:=ch) hch (λb o hL hb hc e n=>u.keep b o e n (λz=>(mem_cons.mp (I.stkSub b z)).elim hL hb) hc) (λb o _ _ hc e n=>u.any e n hc) (λb o hc e n=>u.free b o e n hc) (λb o hc e=>u.there b o e hc) u.tups u.frzs u.tbls (λm' hm=>by
  obtain ⟨o',es',ep',ho',r'⟩:=hm;rw [ho] at ho';cases ho';exact ⟨_,es',ep',hL,r'⟩) hok hg
def Inv.turned {t':Nat} {it:Addr} (I:Inv X pins σ H s) (k:∀ b o,b≠it->s.heap.get? b=some o->h'.get? b=some o) (hn:H it=none) (hL:it≠X.env.locals)
  (h1:it∈X.ex\/X.s₀.heap.objs.size<=it) (h2:∀ x c,X.env.cells.lookup x=some c->c≠it) (h3:∀ p∈X.pn++pins,p.1≠it):Inv X pins σ H { s with heap:=h',toks:=t' }:=by
 have nit:∀ b u,H b=some u->b≠it:=λb u e z=>by rw [z,hn] at e;cases e
 refine I.step (g':=s.gens) (d':=s.drawn) (ch:=[it]) (λb hb=>?_) (λb o _ _ hc e _=>k b o (λz=>hc (by simp [z])) e) (λb o _ _ hc e _=>⟨o.slots,k b o (λz=>hc (by simp [z])) e⟩) (λ_ _ _ _ n=>n)
  (λb o hc e=>⟨o,k b o (λz=>hc (by simp [z])) e⟩) (λ_ _ e=>e) (λ_ _ _ e=>e) (λb ps e=>⟨#[],by rw [e];simp⟩) (λm hm=>?_) (λb u e=>?_) I.bare
 ·have e:b=it:=by simpa using hb
  subst e;exact ⟨h1,hL,h2,h3⟩
 ·obtain ⟨o,es,ep,ho,r⟩:=hm;exact ⟨o,es,ep,k _ o (Ne.symm hL) ho,r⟩
 ·refine (I.hok b u e).stay (λc v hc q=>k c v ?_ q) (λ_ q=>q) λ_ _ q=>q;rcases hc with z|z
  ·rw [z];exact nit b u e
  ·exact nit c _ z
def Inv.tok (I:Inv X pins σ H s) (t:Nat):Inv X pins σ H { s with toks:=t }:=I.un (h':=s.heap) (t':=t) Un.refl I.hok
def Inv.kept {t':Nat} (I:Inv X pins σ H s) (k:∀ b u,s.heap.get? b=some u->h'.get? b=some u):Inv X pins σ H { s with heap:=h',toks:=t' }:=I.un (Un.kept k) (I.hok.kept k)
def Inv.laid {a:Addr} {o:HO} {t':Nat} (I:Inv X pins σ H s) (k:∀ b u,s.heap.get? b=some u->h'.get? b=some u) (hp:s.heap.objs.size<=a) (new:D9 X.prog X.w (upd H a o) h' a o) :
  Inv X pins σ (upd H a o) { s with heap:=h',toks:=t' }:=I.un (Un.laid k hp (I.hok.fresh hp)) (I.hok.laid k hp new)
def Inv.write {x e:Addr} {o:HO} {t':Nat} (I:Inv X pins σ H s) (mu:Mut (H x)) (he:e=x\/H e=some (.own x)) (k:∀ b u,b≠e->s.heap.get? b=some u->h'.get? b=some u) (heo:∃ u,h'.get? e=some u)
  (new:D9 X.prog X.w (upd H x o) h' x o):Inv X pins σ (upd H x o) { s with heap:=h',toks:=t' }:=I.un (Un.write mu he k heo) (I.hok.write mu he k heo new)
def Inv.pins_of {pins':List (Addr×Obj)} (I:Inv X pins σ H s) (h:∀ p∈pins',s.heap.get? p.1=some p.2/\H p.1=none/\p.1≠X.env.locals/\p.1∉X.fs/\∀ v,p.2.data≠.cell v):Inv X pins' σ H s:=
 ⟨I.ok,I.os,I.bare,I.base,I.loc,I.cell,I.free,I.freeC,λp hp=>(List.mem_append.mp hp).elim (λz=>I.pin p (List.mem_append_left _ z)) (h p),I.hok,I.len⟩
def qas {N:List Str} (hN:N.Nodup) {i j:Nat} {x:Str} (a:N[i]?=some x) (b:N[j]?=some x):i=j:=by
 obtain ⟨h1,e1⟩:=List.getElem?_eq_some_iff.mp a;obtain ⟨h2,e2⟩:=List.getElem?_eq_some_iff.mp b;exact (List.getElem_inj hN).mp (e1.trans e2.symm)
def MX {M:Model} {A:Around} {E:Value->Shared->Prop} {i:Nat} {x:Str} {v:V} {u:Value} {Q:Unit->Shared->Prop} (I:Inv X pins σ H s) (hN:X.N.Nodup) (hi:X.N[i]?=some x) (hx:Loc X.env.scope x) (r:jT v u)
  (h:∀ s',Inv X pins (σ.set i (some v)) H s'->(∃ a,Heap.SameBut a s.heap s'.heap/\(a=X.env.locals\/X.env.cells.lookup x=some a))->Q () s') (hf:X.fn x=true\/X.env.scope.names.lookup x=some .local:=by first|exact .inl rfl|exact .inr rfl|assumption):wpAny M A (storeName X.env x u) Q E s:=by
 obtain ⟨m,hn,hl⟩:=id I.loc;have hcls:(X.env.scope.kind==.class||(X.env.scope.kind==.module&&X.env.locals != X.env.globals))=false:=by rw [I.ok.kind];rfl
 have hiσ:i<σ.length:=by rw [I.len];exact (List.getElem?_eq_some_iff.mp hi).1
 have cne:=I.cne;have tracked:∀ {a:Addr} {h':Heap},(∃ o,s.heap.get? a=some o/\H a=none)->Heap.SameBut a s.heap h'->HOk X.prog X.w H h':=λ{a h'} ha hs b ob e=>by
  obtain ⟨_,_,hfree⟩:=ha;refine (I.hok b ob e).stay (λc w' hc q=>(hs.2 c ?_).trans q) (λ_ q=>q) λ_ _ q=>q;rintro rfl;rcases hc with rfl|hc
  ·rw [hfree] at e;cases e
  ·rw [hfree] at hc;cases hc
 rcases hx with hk|hk
 ·refine wpAny_storeName_local hk hn (λh' hn' hs=>?_) hcls;obtain ⟨oL,_,_,hoL,_⟩:=id hn;refine h _ ⟨I.ok,I.os,I.bare,⟨λb o e n hb hx=>?_,λb o e n hb hx=>?_,I.base.free,λb o e hx=>?_,I.base.tups,I.base.frzs,I.base.tbls⟩,⟨_,hn',λj y v' e1 e2 e3=>?_⟩,λy c e=>?_,I.free,I.freeC,λp hp=>?_,tracked ⟨oL,hoL,I.free⟩ hs,by simpa using I.len⟩ ⟨_,hs,.inl rfl⟩
  ·exact (hs.2 b (Nat.ne_of_lt (Nat.lt_of_lt_of_le (Heap.lt_size e) I.ok.above))).trans (I.base.keep b o e n hb hx)
  ·obtain ⟨sl,e1⟩:=I.base.slot b o e n hb hx;exact ⟨sl,(hs.2 b (Nat.ne_of_lt (Nat.lt_of_lt_of_le (Heap.lt_size e) I.ok.above))).trans e1⟩
  ·obtain ⟨o',e1⟩:=I.base.there b o e hx;exact ⟨o',(hs.2 b (Nat.ne_of_lt (Nat.lt_of_lt_of_le (Heap.lt_size e) I.ok.above))).trans e1⟩
  ·by_cases hj:j=i
   ·subst hj;rw [hi] at e1;cases e1;rw [List.getElem?_set_self hiσ] at e2;cases e2;exact ⟨u,r,.inl ⟨hk,by simp⟩⟩
   ·rw [List.getElem?_set_ne (Ne.symm hj)] at e2;obtain ⟨u',r',q⟩:=hl j y v' e1 e2 e3;refine ⟨u',r',?_⟩;rcases q with ⟨k,e⟩|⟨k,c,e,z⟩
    ·refine .inl ⟨k,?_⟩;have:y≠x:=λe=>hj (qas hN e1 (e▸hi));simp [this,e]
    ·exact .inr ⟨k,c,e,z.sameBut hs (cne y c e)⟩
  ·obtain ⟨w',z⟩:=I.cell y c e;exact ⟨w',z.sameBut hs (cne y c e)⟩
  ·obtain ⟨e,n,ne,nf,d⟩:=I.pin p hp;exact ⟨(hs.2 p.1 ne).trans e,n,ne,nf,d⟩
 ·have hfn:X.fn x=true:=by
   rcases hf with z|z
   ·exact z
   ·rw [z] at hk;cases hk
  obtain ⟨c,hc⟩:=I.ok.has x (.inl hk);obtain ⟨w',z⟩:=I.cell x c hc;refine wpAny_storeName_cell I.ok.kind hk hc z (λh' hc' hs=>?_);obtain ⟨oc,hoc,hocd⟩:=id z;refine h { s with heap:=h' } ⟨I.ok,I.os,I.bare,⟨λb o e n hb hx=>?_,λb o e n hb hx=>?_,I.base.free,λb o e hx=>?_,I.base.tups,I.base.frzs,I.base.tbls⟩,⟨m,hn.sameBut hs (Ne.symm (cne x c hc)),λj y v' e1 e2 e3=>?_⟩,λy c' e=>?_,I.free,I.freeC,λp hp=>?_,tracked ⟨oc,hoc,I.freeC x c hc⟩ hs,by simpa using I.len⟩ ⟨c,hs,.inr hc⟩
  ·exact (hs.2 b (Nat.ne_of_lt (Nat.lt_of_lt_of_le (Heap.lt_size e) (I.ok.cab x c hfn hc)))).trans (I.base.keep b o e n hb hx)
  ·obtain ⟨sl,e1⟩:=I.base.slot b o e n hb hx;exact ⟨sl,(hs.2 b (Nat.ne_of_lt (Nat.lt_of_lt_of_le (Heap.lt_size e) (I.ok.cab x c hfn hc)))).trans e1⟩
  ·obtain ⟨o',e1⟩:=I.base.there b o e hx;exact ⟨o',(hs.2 b (Nat.ne_of_lt (Nat.lt_of_lt_of_le (Heap.lt_size e) (I.ok.cab x c hfn hc)))).trans e1⟩
  ·by_cases hj:j=i
   ·subst hj;rw [hi] at e1;cases e1;rw [List.getElem?_set_self hiσ] at e2;cases e2;exact ⟨u,r,.inr ⟨.inl hk,c,hc,hc'⟩⟩
   ·rw [List.getElem?_set_ne (Ne.symm hj)] at e2;obtain ⟨u',r',q⟩:=hl j y v' e1 e2 e3;refine ⟨u',r',?_⟩;rcases q with q|⟨k,c',e,z'⟩
    ·exact .inl q
    ·refine .inr ⟨k,c',e,z'.sameBut hs ?_⟩;rintro rfl;exact hj (qas hN e1 (I.ok.inj _ _ _ e hc▸hi))
  ·by_cases hcc:c'=c
   ·subst hcc;exact ⟨_,hc'⟩
   ·obtain ⟨w2,z2⟩:=I.cell y c' e;exact ⟨w2,z2.sameBut hs hcc⟩
  ·obtain ⟨e,n,ne,nf,d⟩:=I.pin p hp;refine ⟨(hs.2 p.1 ?_).trans e,n,ne,nf,d⟩;intro q;rw [q,hoc] at e;have q':oc=p.2:=Option.some.inj e;exact d w' (by rw [← q'];exact hocd)
def DO {M:Model} {A:Around} {E:Value->Shared->Prop} {i:Nat} {x:Str} {v:V} {u:Value} {Q:Unit->Shared->Prop} (I:Inv X pins σ H s) (hN:X.N.Nodup) (hi:X.N[i]?=some x) (hx:Loc X.env.scope x) (r:jT v u)
  (h:∀ s',Inv X pins (σ.set i (some v)) H s'->Q () s') (hf:X.fn x=true\/X.env.scope.names.lookup x=some .local:=by first|exact .inl rfl|exact .inr rfl|assumption):wpAny M A (storeName X.env x u) Q E s:=
 MX I hN hi hx r (λs' I' _=>h s' I') hf
def Inv.call' {s':Shared} {ch:List Addr} (I:Inv X pins σ H s) (ho:s'.os=s.os) (u:Un (frs X.stack) ch H H' s.heap s'.heap) (hok:HOk X.prog X.w H' s'.heap) (hg:AllBare s'.gens)
  (hch:∀ b∈ch,(b∈X.ex\/X.s₀.heap.objs.size<=b)/\b≠X.env.locals/\(∀ x c,X.env.cells.lookup x=some c->c≠b)/\∀ p∈X.pn++pins,p.1≠b):Inv X pins σ H' s':=by
 obtain ⟨h',g',d',t',o'⟩:=s';have e:o'=s.os:=ho;subst e;exact I.call (g':=g') (t':=t') (d':=d') u hok hg hch
end
abbrev XK:=Value->Option Addr->Hp->Prop
abbrev St:=List (Option V)
abbrev VK:=V->Hp->Prop
abbrev TE:=St->Hp->VK->Prop
abbrev TT:=St->Hp->(Bool->Hp->Prop)->Prop
abbrev TA:=St->Hp->(List V->Hp->Prop)->Prop
structure Ends where
 nx:St->Hp->Prop
 rt:VK
 bk:St->Hp->Prop:=λ_ _=>False
 ct:St->Hp->Prop:=λ_ _=>False
abbrev TS:=Ends->St->Hp->Prop
def EP (X:Cx) (pins:List (Addr×Obj)) (σ:St) (Q:VK) (u:Value) (s':Shared):Prop:=∃ v H',Inv X pins σ H' s'/\jT v u/\Q v H'
def TP (X:Cx) (pins:List (Addr×Obj)) (σ:St) (Q:Bool->Hp->Prop) (b:Bool) (s':Shared):Prop:=∃ H',Inv X pins σ H' s'/\Q b H'
def AP (X:Cx) (pins:List (Addr×Obj)) (σ:St) (Q:List V->Hp->Prop) (us:List Value) (s':Shared):Prop:=∃ vs H',Inv X pins σ H' s'/\jx vs us/\Q vs H'
def SP (X:Cx) (pins:List (Addr×Obj)) (D:Ends) (f:Flow) (s':Shared):Prop:=
 match f with
 |.next=>∃ σ' H',Inv X pins σ' H' s'/\D.nx σ' H'
 |.brk=>∃ σ' H',Inv X pins σ' H' s'/\D.bk σ' H'
 |.cont=>∃ σ' H',Inv X pins σ' H' s'/\D.ct σ' H'
 |.ret u=>∃ v σ' H',Inv X pins σ' H' s'/\jT v u/\D.rt v H'
def PE (X:Cx) (e:Expr) (t:TE):Prop:=
 ∀ (pins:List (Addr×Obj)) (s:Shared) (σ:St) (H:Hp) (Q:VK),Inv X pins σ H s->t σ H Q->wpAny (model X.prog X.w) X.A (eval e X.env) (EP X pins σ Q) X.xe s
def PT (X:Cx) (e:Expr) (t:TT):Prop:=
 ∀ (pins:List (Addr×Obj)) (s:Shared) (σ:St) (H:Hp) (Q:Bool->Hp->Prop),Inv X pins σ H s->t σ H Q->wpAny (model X.prog X.w) X.A (isTrue e X.env (eval e X.env)) (TP X pins σ Q) X.xe s
def PW (X:Cx) (e:Expr) (t:TT):Prop:=
 ∀ (whole:Sem Value) (pins:List (Addr×Obj)) (s:Shared) (σ:St) (H:Hp) (Q:Bool->Hp->Prop),Inv X pins σ H s->t σ H Q->wpAny (model X.prog X.w) X.A (isTrue e X.env whole) (TP X pins σ Q) X.xe s
def PW.pt {X:Cx} {e:Expr} {t:TT} (h:PW X e t):PT X e t:=h _
def PA (X:Cx) (es:List Expr) (t:TA):Prop:=
 ∀ (pos:Pos) (pins:List (Addr×Obj)) (s:Shared) (σ:St) (H:Hp) (Q:List V->Hp->Prop),Inv X pins σ H s->t σ H Q->wpAny (model X.prog X.w) X.A (spliced (backTo pos (starEach es X.env))) (AP X pins σ Q) X.xe s
def PS (X:Cx) (st:Stmt) (t:TS):Prop:=
 ∀ (pins:List (Addr×Obj)) (s:Shared) (σ:St) (H:Hp) (D:Ends),Inv X pins σ H s->t D σ H->wpAny (model X.prog X.w) X.A (exec st X.env) (SP X pins D) X.xe s
def PSs (X:Cx) (st:List Stmt) (t:TS):Prop:=
 ∀ (pins:List (Addr×Obj)) (s:Shared) (σ:St) (H:Hp) (D:Ends),Inv X pins σ H s->t D σ H->wpAny (model X.prog X.w) X.A (execs st X.env) (SP X pins D) X.xe s
def thn {α:Type} {t:Sem α} {Q Q':α->Shared->Prop} {M:Model} {A:Around} {E:Value->Shared->Prop} {s:Shared} (h:wpAny M A t Q E s) (hQ:∀ a s,Q a s->Q' a s):wpAny M A t Q' E s:=wpAny_mono h hQ λ_ _ x=>x
section
variable {X:Cx}
def qqS (i:Nat):TE:=λσ H Q=>∃ v,σ[i]?=some (some v)/\Q v H
def tC (v:V):TE:=λ_ H Q=>Q v H
def qlk {i:Nat} {x:Str} {pos:Pos} (hN:X.N[i]?=some x) (hv:Vis X.env.scope x) (hd:(x==("__debug__" : Str))=false:=by decide) (hcd:(x==("__classdict__" : Str))=false:=by decide):PE X (.Name x pos) (qqS i):=by
 intro pins s σ H Q I h;obtain ⟨v,e,h⟩:=h;obtain ⟨m,hn,hl⟩:=I.loc;obtain ⟨u,r,l⟩:=hl i x v hN e hv;have fin:EP X pins σ Q u s:=⟨v,H,I,r,h⟩
 rcases l with ⟨hk,hm⟩|⟨hk,c,hc,hcell⟩
 ·exact wpAny_Name (wpAny_loadName_local I.ok.kind hk hn hm fin) hd
 ·rcases hk with hk|hk
  ·exact wpAny_Name (wpAny_loadName_cell I.ok.kind hk hc hcell fin) hd
  ·exact wpAny_Name (wpAny_loadName_free I.ok.kind hk hc hcell fin hcd) hd
def qkF {i j pos}:PE X (.Constant (.int i) j pos) (tC (.int i)):=λ_ _ _ H _ I h=>wpAny_Constant_int ⟨.int i,H,I.tok _,⟨_,rfl⟩,h⟩
def qp9 {b j pos}:PE X (.Constant (.bool b) j pos) (tC (.bl b)):=λ_ _ _ H _ I h=>Constant_bool ⟨.bl b,H,I,rfl,h⟩
def qm3 {j pos}:PE X (.Constant .none j pos) (tC .non):=λ_ _ _ H _ I h=>Constant_none ⟨.non,H,I,rfl,h⟩
def qeR {x j pos}:PE X (.Constant (.str x) j pos) (tC (.str x)):=λ_ _ _ H _ I h=>Calls.Constant_str ⟨.str x,H,I.tok _,⟨_,rfl⟩,h⟩
def Gl (X:Cx) (x:Str):Prop:=X.env.kindOf x=some .globalImplicit
def qb2 {E:Value->Shared->Prop} {pins:List (Addr×Obj)} {s:Shared} {σ:St} {H:Hp} {x:Str} {u:Value} {pos:Pos} {Q:Value->Shared->Prop} (I:Inv X pins σ H s) (hg:Gl X x) (hm:X.mg x=some u) (h:Q u s)
  (hd:(x==("__debug__" : Str))=false:=by decide):wpAny (model X.prog X.w) X.A (eval (.Name x pos) X.env) Q E s:=
 Calls.Name_function_global I.ok.kind hg (Calls.loadGlobal_global (by rw [I.ok.glob];exact I.mod.glob.keeps I.bk) hm h) hd
def C7 {E:Value->Shared->Prop} {pins:List (Addr×Obj)} {s:Shared} {σ:St} {H:Hp} {x:Str} {u:Value} {pos:Pos} {Q:Value->Shared->Prop} (I:Inv X pins σ H s) (hg:Gl X x) (hm:X.mg x=none) (hv:bootBuiltins x=some u) (h:Q u s)
  (hn:x≠"__name__" := by decide) (hd:(x==("__debug__" : Str))=false:=by decide):wpAny (model X.prog X.w) X.A (eval (.Name x pos) X.env) Q E s:=by
 obtain ⟨mb,h1,h2⟩:=I.mod.blt;exact Calls.Name_function_global I.ok.kind hg (Calls.loadGlobal_builtin (by rw [I.ok.glob];exact I.mod.glob.keeps I.bk) hm (by rw [I.ok.blt];exact h1.keeps I.bk) ((h2 x hn).trans hv) h) hd
def qg3 {x:Str} {v:V} {u:Value} {pos:Pos} (hg:Gl X x) (hm:X.mg x=some u) (r:jT v u) (hd:(x==("__debug__" : Str))=false:=by decide):PE X (.Name x pos) (tC v):=
 λ_ _ _ H _ I h=>qb2 I hg hm ⟨v,H,I,r,h⟩ hd
def qhg {x:Str} {v:V} {u:Value} {pos:Pos} (hg:Gl X x) (hm:X.mg x=none) (hv:bootBuiltins x=some u) (r:jT v u) (hn:x≠"__name__" := by decide) (hd:(x==("__debug__" : Str))=false:=by decide):PE X (.Name x pos) (tC v):=
 λ_ _ _ H _ I h=>C7 I hg hm hv ⟨v,H,I,r,h⟩ hn hd
variable {a b:Expr} {ta tb:TE} {pos:Pos}
def tB (t:TE):TT:=λσ H Q=>t σ H λx H1=>∃ c,x=.bl c/\Q c H1
def qjN {e:Expr} {t:TE} (h:PE X e t) (he:∀ whole,isTrue e X.env whole=(do let v←whole;standAt e.pos;holding [v] (truthy v)):=by intro _;rfl):PT X e (tB t):=by
 intro pins s σ H Q I hw;refine isTrue_plain (thn (h pins s σ H _ I hw) λv s1 ⟨x,H1,I1,r1,q1⟩=>?_) (he _);obtain ⟨d,rfl,q⟩:=q1;cases r1;exact wpAny_truthy_bool ⟨H1,I1,q⟩
variable {tA tB':TT} {ZY:List Expr}
def qru (t u:TT):TT:=λσ H Q=>t σ H λc H1=>if c=true then u σ H1 Q else Q false H1
def tOr (t u:TT):TT:=λσ H Q=>t σ H λc H1=>if c=true then Q true H1 else u σ H1 Q
def qrn (t:TT):TT:=λσ H Q=>t σ H λc H1=>Q (!c) H1
def qip (ha:PT X a tA):PW X (.BoolOp .And [a] pos) tA:=by
 intro wh pins s σ H Q I h;refine isTrue_and (thn (ha pins s σ H Q I h) λc s1 e=>?_);cases c with
 |true=>exact isTrue_and_nil e
 |false=>exact e
def qkS (ha:PT X a tA):PW X (.BoolOp .Or [a] pos) tA:=by
 intro wh pins s σ H Q I h;refine isTrue_or (thn (ha pins s σ H Q I h) λc s1 e=>?_);cases c with
 |false=>exact isTrue_or_nil e
 |true=>exact e
def qnd (ha:PT X a tA) (hb:PW X (.BoolOp .And (b::ZY) pos) tB'):PW X (.BoolOp .And (a::b::ZY) pos) (qru tA tB'):=by
 intro wh pins s σ H Q I h;refine isTrue_and (thn (ha pins s σ H _ I h) λc s1 ⟨H1,I1,q1⟩=>?_);cases c with
 |true=>exact hb wh pins s1 σ H1 Q I1 q1
 |false=>exact ⟨H1,I1,q1⟩
def qoK (ha:PT X a tA) (hb:PW X (.BoolOp .Or (b::ZY) pos) tB'):PW X (.BoolOp .Or (a::b::ZY) pos) (tOr tA tB'):=by
 intro wh pins s σ H Q I h;refine isTrue_or (thn (ha pins s σ H _ I h) λc s1 ⟨H1,I1,q1⟩=>?_);cases c with
 |true=>exact ⟨H1,I1,q1⟩
 |false=>exact hb wh pins s1 σ H1 Q I1 q1
def qlu (ha:PT X a tA):PT X (.UnaryOp .Not a pos) (qrn tA):=by
 intro pins s σ H Q I h;exact isTrue_not (ha pins s σ H (λc H1=>Q (!c) H1) I h)
def qo2 (ta tb:TE):TE:=λσ H Q=>ta σ H λx H1=>∃ c,x=.bl c/\if c=true then tb σ H1 Q else Q (.bl false) H1
def qoD (ta:TE):TE:=λσ H Q=>ta σ H λx H1=>∃ c,x=.bl c/\Q (.bl (!c)) H1
def qi6 {op} {t:TE} (h:PE X a t):PE X (.BoolOp op [a] pos) t:=λpins s σ H Q I hw=>BoolOp_one (h pins s σ H Q I hw)
def qkZ (ha:PE X a ta) (hb:PE X (.BoolOp .And (b::ZY) pos) tb):PE X (.BoolOp .And (a::b::ZY) pos) (qo2 ta tb):=by
 intro pins s σ H Q I h;refine BoolOp_and (thn (ha pins s σ H _ I h) λv s1 ⟨x,H1,I1,r1,q1⟩=>?_);obtain ⟨c,rfl,q1⟩:=q1;cases r1;refine wpAny_truthy_bool ?_;cases c with
 |true=>exact hb pins s1 σ H1 Q I1 q1
 |false=>exact ⟨.bl false,H1,I1,rfl,q1⟩
def qlE (ha:PE X a ta):PE X (.UnaryOp .Not a pos) (qoD ta):=by
 intro pins s σ H Q I h;refine UnaryOp_ (thn (ha pins s σ H _ I h) λv s1 ⟨x,H1,I1,r1,q1⟩=>?_);obtain ⟨c,rfl,q1⟩:=q1;cases r1;exact not_of (wpAny_truthy_bool ⟨.bl (!c),H1,I1,rfl,q1⟩)
def tIf (t:TT) (ta tb:TE):TE:=λσ H Q=>t σ H λc H1=>if c=true then ta σ H1 Q else tb σ H1 Q
def qd8 {c:Expr} (hc:PT X c tA) (ha:PE X a ta) (hb:PE X b tb):PE X (.IfExp c a b pos) (tIf tA ta tb):=by
 intro pins s σ H Q I h;refine wpAny_IfExp (thn (hc pins s σ H _ I h) λd s1 ⟨H1,I1,q1⟩=>?_);cases d with
 |true=>exact ha pins s1 σ H1 Q I1 q1
 |false=>exact hb pins s1 σ H1 Q I1 q1
end
def SqL (K:Frg) (H:Hp) (a:Addr) (xs:List V):Prop:=
 Rd H a (.lst xs) ∨
  ∃ (o:Obj) (its:Array Value) (n:Nat),K.lookup a=some o/\o.cls=.type "list"/\o.dict=none/\o.data=.seq its n/\its.size<=sizeLine/\jx xs its.toList
def SqT (K:Frg) (H:Hp) (a:Addr) (xs:List V):Prop:=
 Rd H a (.tup xs) ∨
  ∃ (o:Obj) (its:Array Value) (n:Nat),K.lookup a=some o/\o.cls=.type "tuple"/\o.data=.seq its n/\its.size<=sizeLine/\jx xs its.toList
def qra:Value->Option V
 |.none=>some .non
 |.bool b=>some (.bl b)
 |.int i _=>some (.int i)
 |.str x _=>some (.str x)
 |.bytes b _=>some (.byt b)
 |.float b _=>some (.flt b)
 |.ref a=>some (.ref a)
 |.type n=>some (.ty n)
 |_=>none
def jT.abs {x:V} {u:Value} (r:jT x u):qra u=some x:=by
 cases x with
 |non=>cases r;rfl
 |bl _=>cases r;rfl
 |int _=>obtain ⟨t,rfl⟩:=r;rfl
 |str _=>obtain ⟨t,rfl⟩:=r;rfl
 |byt _=>obtain ⟨t,rfl⟩:=r;rfl
 |flt _=>obtain ⟨t,rfl⟩:=r;rfl
 |ref _=>cases r;rfl
 |ty _=>cases r;rfl
def jT.inj {x y:V} {u:Value} (r:jT x u) (q:jT y u):x=y:=Option.some.inj (r.abs.symm.trans q.abs)
def jx.inj:∀ {xs ys:List V} {us:List Value},jx xs us->jx ys us->xs=ys
 |_,_,_,.nil,.nil=>rfl
 |_,_,_,.cons r t,.cons r' t'=>by rw [r.inj r',jx.inj t t']
section
variable {X:Cx} {pins:List (Addr×Obj)} {σ:St} {H:Hp} {s:Shared} {a:Addr} {xs ys:List V}
def SqL.of {K:Frg} (h:H a=some (.lst xs)):SqL K H a xs:=.inl (.inl h)
def SqT.of {K:Frg} (h:H a=some (.tup xs)):SqT K H a xs:=.inl (.inl h)
def Inv.list (I:Inv X pins σ H s) (h:SqL X.K H a xs):∃ its:List Value,jx xs its/\PlainL s.heap a its.toArray/\xs.length<=sizeLine:=by
 rcases h with h|⟨o,its,n,hk,hc,hd,hs,hz,r⟩
 ·obtain ⟨z,its,n,r,e⟩:=h.ok I.hok;exact ⟨its,r,⟨_,n,e,rfl,rfl,rfl⟩,z⟩
 ·refine ⟨its.toList,r,⟨o,n,I.kIn a o hk,hc,hd,by simpa using hs⟩,?_⟩;have e:=r.length;simp only [Array.length_toList] at e;omega
def Inv.tuple (I:Inv X pins σ H s) (h:SqT X.K H a xs):∃ its:List Value,jx xs its/\IsTup s.heap a its.toArray/\xs.length<=sizeLine:=by
 rcases h with h|⟨o,its,n,hk,hc,hs,hz,r⟩
 ·obtain ⟨z,its,r,p⟩:=h.ok I.hok;exact ⟨its,r,p,z⟩
 ·refine ⟨its.toList,r,⟨o,I.kIn a o hk,hc,n,by simpa using hs⟩,?_⟩;have e:=r.length;simp only [Array.length_toList] at e;omega
def Inv.list_inj (I:Inv X pins σ H s) (h:SqL X.K H a xs) (h':SqL X.K H a ys):xs=ys:=by
 obtain ⟨its,r,⟨o,n,e,_,_,d⟩,_⟩:=I.list h;obtain ⟨its',r',⟨o',n',e',_,_,d'⟩,_⟩:=I.list h';rw [e] at e';cases e';rw [d] at d';injection d' with d1 _;have:its=its':=by simpa using congrArg Array.toList d1
 subst this;exact r.inj r'
def Inv.tuple_inj (I:Inv X pins σ H s) (h:SqT X.K H a xs) (h':SqT X.K H a ys):xs=ys:=by
 obtain ⟨its,r,⟨o,e,_,n,d⟩,_⟩:=I.tuple h;obtain ⟨its',r',⟨o',e',_,n',d'⟩,_⟩:=I.tuple h';rw [e] at e';cases e';rw [d] at d';injection d' with d1 _;have:its=its':=by simpa using congrArg Array.toList d1
 subst this;exact r.inj r'
end
abbrev Cx.wish (X:Cx) (E:Value->Shared->Prop):Cx:={ X with xe:=E }
abbrev Cx.nox (X:Cx):Cx:=X.wish λ_ _=>False
def Cx.Ok.wish {X:Cx} (ok:X.Ok) (E:Value->Shared->Prop):(X.wish E).Ok:=
 ⟨ok.mod,ok.kind,ok.glob,ok.blt,ok.above,ok.inj,ok.has,ok.cab,ok.hd,ok.frames,ok.stk,ok.exf,ok.bs,ok.bsz,ok.noex,ok.exfs,ok.funs,ok.frf⟩
def Cx.Ok.unwish {X:Cx} {E:Value->Shared->Prop} (ok:(X.wish E).Ok):X.Ok:=
 ⟨ok.mod,ok.kind,ok.glob,ok.blt,ok.above,ok.inj,ok.has,ok.cab,ok.hd,ok.frames,ok.stk,ok.exf,ok.bs,ok.bsz,ok.noex,ok.exfs,ok.funs,ok.frf⟩
section
variable {X:Cx} {pins:List (Addr×Obj)} {σ:St} {H:Hp} {s:Shared} {E:Value->Shared->Prop}
def Inv.wish (I:Inv X pins σ H s) (E:Value->Shared->Prop):Inv (X.wish E) pins σ H s:=⟨I.ok.wish E,I.os,I.bare,I.base,I.loc,I.cell,I.free,I.freeC,I.pin,I.hok,I.len⟩
def Inv.unwish (I:Inv (X.wish E) pins σ H s):Inv X pins σ H s:=⟨I.ok.unwish,I.os,I.bare,I.base,I.loc,I.cell,I.free,I.freeC,I.pin,I.hok,I.len⟩
def SP.unwish {D:Ends} {f:Flow} {s':Shared} (h:SP (X.wish E) pins D f s'):SP X pins D f s':=by
 cases f with
 |next=>obtain ⟨σ',H',I,q⟩:=h;exact ⟨σ',H',I.unwish,q⟩
 |brk=>obtain ⟨σ',H',I,q⟩:=h;exact ⟨σ',H',I.unwish,q⟩
 |cont=>obtain ⟨σ',H',I,q⟩:=h;exact ⟨σ',H',I.unwish,q⟩
 |ret u=>obtain ⟨v,σ',H',I,r,q⟩:=h;exact ⟨v,σ',H',I.unwish,r,q⟩
def PSs.nox {st:List Stmt} {t:TS} (h:PSs X.nox st t):PSs X st t:=λpins s σ H D I hw=>
 wpAny_mono (h pins s σ H D (I.wish _) hw) (λ_ _ q=>q.unwish) λ_ _ z=>False.elim z
end
section
variable {X:Cx} {st:Stmt} {ZY:List Stmt} {t u:TS} {e:Expr} {te:TE} {pos:Pos}
def qpw:TS:=λD σ H=>D.nx σ H
def qrq (t u:TS):TS:=λD σ H=>t { D with nx:=u D } σ H
def qid:PSs X [] qpw:=λ_ _ σ H _ I h=>wpAny_execs_nil ⟨σ,H,I,h⟩
def qd3 (h1:PS X st t) (h2:PSs X ZY u):PSs X (st::ZY) (qrq t u):=by
 intro pins s σ H D I h;refine wpAny_execs_cons (thn (h1 pins s σ H { D with nx:=u D } I h) λf s1 q=>?_);cases f with
 |next=>
  obtain ⟨σ',H',I',q⟩:=q;exact h2 pins s1 σ' H' D I' q
 |ret v=>exact q
 |brk=>exact q
 |cont=>exact q
def qh3 (h1:PS X st t):PSs X [st] t:=by
 intro pins s σ H D I h;refine wpAny_execs_cons (thn (h1 pins s σ H D I h) λf s1 q=>?_);cases f with
 |next=>exact wpAny_execs_nil q
 |ret v=>exact q
 |brk=>exact q
 |cont=>exact q
def Inv.quiet {pins:List (Addr×Obj)} {σ:St} {H:Hp} {s:Shared} (I:Inv X pins σ H s):interactive X.env=false:=by simp [interactive,I.ok.kind]
def qoy (te:TE):TS:=λD σ H=>te σ H λ_ H1=>D.nx σ H1
def qho (he:PE X e te) (hs:swapsWith e none pos.line X.env=pure false:=by rfl):PS X (.Expr e pos) (qoy te):=by
 intro pins s σ H D I h;exact wpAny_Expr_any (thn (he pins s σ H _ I h) λv s1 ⟨x,H1,I1,r1,q1⟩=>⟨σ,H1,I1,q1⟩) I.quiet hs
def qrf (te:TE):TS:=λD σ H=>te σ H D.rt
def qmH (he:PE X e te):PS X (.Return (some e) pos) (qrf te):=by
 intro pins s σ H D I h;exact wpAny_Return_some (thn (he pins s σ H _ I h) λv s1 ⟨x,H1,I1,r1,q1⟩=>⟨x,σ,H1,I1,r1,q1⟩)
def qrt (c:TT) (t u:TS):TS:=λD σ H=>c σ H λb H1=>if b=true then t D σ H1 else u D σ H1
def qpZ {c:Expr} {a b:List Stmt} {tc:TT} (hc:PT X c tc) (ha:PSs X a t) (hb:PSs X b u):PS X (.If c a b pos) (qrt tc t u):=by
 intro pins s σ H D I h;refine wpAny_If (thn (hc pins s σ H _ I h) λd s1 ⟨H1,I1,q1⟩=>?_);cases d with
 |true=>exact ha pins s1 σ H1 D I1 q1
 |false=>exact hb pins s1 σ H1 D I1 q1
end
abbrev TG:=V->St->Hp->(St->Hp->Prop)->Prop
abbrev TGs:=List V->St->Hp->(St->Hp->Prop)->Prop
def PG (X:Cx) (target:Expr) (t:TG):Prop:=
 ∀ (pins:List (Addr×Obj)) (s:Shared) (σ:St) (H:Hp) (v:V) (u:Value) (Q:St->Hp->Prop),Inv X pins σ H s->jT v u->t v σ H Q ->
  wpAny (model X.prog X.w) X.A (assign target X.env u) (λ_ s'=>∃ σ' H',Inv X pins σ' H' s'/\Q σ' H') X.xe s
def PGs (X:Cx) (ts:List Expr) (t:TGs):Prop:=
 ∀ (pins:List (Addr×Obj)) (s:Shared) (σ:St) (H:Hp) (vs:List V) (us:List Value) (Q:St->Hp->Prop),Inv X pins σ H s->jx vs us->t vs σ H Q ->
  wpAny (model X.prog X.w) X.A (assignInOrder ((assignEach ts X.env).map (·.2)) us) (λ_ s'=>∃ σ' H',Inv X pins σ' H' s'/\Q σ' H') X.xe s
abbrev qpE:=V->V->V->Hp->(Hp->Prop)->Prop
def qqp (X:Cx) (t:qpE):Prop:=
 ∀ (pins:List (Addr×Obj)) (s:Shared) (σ:St) (H:Hp) (o i v:V) (ov iv u:Value) (Q:Hp->Prop),Inv X pins σ H s->jT o ov->jT i iv->jT v u->t o i v H Q ->
  wpAny (model X.prog X.w) X.A (setItem ov iv u) (λ_ s'=>∃ H',Inv X pins σ H' s'/\Q H') X.xe s
abbrev TIp:=V->V->Hp->VK->Prop
def PIp (X:Cx) (op:Operator) (t:TIp):Prop:=
 ∀ (pins:List (Addr×Obj)) (s:Shared) (σ:St) (H:Hp) (x y:V) (v u:Value) (Q:VK),Inv X pins σ H s->jT x v->jT y u->t x y H Q ->
  wpAny (model X.prog X.w) X.A (inplaceOp op v u) (EP X pins σ Q) X.xe s
section
variable {X:Cx} {pos:Pos}
def qg5 (i:Nat):TG:=λv σ H Q=>Q (σ.set i (some v)) H
def qhO {i:Nat} {x:Str} (hN:X.N.Nodup) (hi:X.N[i]?=some x) (hx:Loc X.env.scope x) (hf:X.fn x=true\/X.env.scope.names.lookup x=some .local:=by first|exact .inl rfl|exact .inr rfl|assumption):PG X (.Name x pos) (qg5 i):=by
 intro pins s σ H v u Q I r h;exact wpAny_assign_Name (DO I hN hi hx r (λs' I'=>⟨_,H,I',h⟩) hf)
def K3:TGs:=λvs σ H Q=>vs=[]/\Q σ H
def jk (t:TG) (u:TGs):TGs:=λvs σ H Q=>∃ v r,vs=v::r/\t v σ H λσ' H'=>u r σ' H' Q
def qhT:PGs X [] K3:=by
 intro pins s σ H vs us Q I r h;obtain ⟨e,h⟩:=h;subst e;cases r;exact assignInOrder_nil ⟨σ,H,I,h⟩
def qdR {e:Expr} {es:List Expr} {t:TG} {u:TGs} (h1:PG X e t) (h2:PGs X es u)
  (hs:(assignEach (e::es) X.env).map (·.2)=assign e X.env::(assignEach es X.env).map (·.2):=by rfl):PGs X (e::es) (jk t u):=by
 intro pins s σ H vs us Q I r h;obtain ⟨v,vr,e1,h⟩:=h;subst e1;cases r with
 |cons r rr=>
  rw [hs];refine assignInOrder_cons (thn (h1 pins s σ H _ _ _ I r h) λ_ s1 ⟨σ1,H1,I1,q1⟩=>?_);exact h2 pins s1 σ1 H1 _ _ Q I1 rr q1
def LW (K:Frg) (n:Nat) (t:TGs):TG:=λv σ H Q=>∃ a xs,v=.ref a/\SqT K H a xs/\xs.length=n/\t xs σ H Q
def qnW {es:List Expr} {k:Nat} {t:TGs} {n:Nat} (hc:X.calm=true) (h:PGs X es t)
  (hn:(assignEach es X.env).length=n:=by rfl) (hst:(assignEach es X.env).findIdx? (·.1)=none:=by rfl):PG X (.Tuple es k pos) (LW X.K n t):=by
 intro pins s σ H v u Q I r hw;obtain ⟨a,xs,e1,hq,hl,hw⟩:=hw;subst e1;cases r;obtain ⟨its,rv,ht,hz⟩:=I.tuple hq;refine assign_Tuple_tuple (I.ok.hd hc) ht (by simp [hn,← hl,rv.length]) hst λh' hx=>?_;have I1:Inv X pins σ H { s with heap:=h' }:=I.kept (t':=s.toks) λb o e=>hx b o (Nat.ne_of_lt (Heap.lt_size e)) e;exact h pins _ σ H xs _ Q I1 (by simpa using rv) hw
def qqU (to ti:TE) (t:qpE):TG:=λv σ H Q=>to σ H λo H1=>ti σ H1 λi H2=>t o i v H2 λH3=>Q σ H3
def qjb {o i:Expr} {to ti:TE} {t:qpE} (ho:PE X o to) (hi:PE X i ti) (hs:qqp X t)
  (ha:∀ v,assign (.Subscript o i pos) X.env v=(do
   let ov←holding [v] (eval o X.env)
   let iv←holding [v,ov] (eval i X.env)
   standAt pos
   holding [v,ov,iv] (setItem ov iv v)
   release [v,ov,iv] []):=by intro _;rfl):PG X (.Subscript o i pos) (qqU to ti t):=by
 intro pins s σ H v u Q I r h;rw [ha];refine wpAny_bind (wpAny_holding (thn (ho pins s σ H _ I h) λov s1 ⟨x,H1,I1,r1,q1⟩=>?_));refine wpAny_bind (wpAny_holding (thn (hi pins s1 σ H1 _ I1 q1) λiv s2 ⟨y,H2,I2,r2,q2⟩=>?_));refine wpAny_bind (wpAny_standAt (wpAny_bind (wpAny_holding (thn (hs pins s2 σ H2 x y v ov iv u _ I2 r1 r2 r q2) λ_ s3 ⟨H3,I3,q3⟩=>?_))));exact wpAny_release ⟨σ,H3,I3,q3⟩
def qoz (te:TE) (g:TG):TS:=λD σ H=>te σ H λx H1=>g x σ H1 D.nx
def qjg {tg e:Expr} {te:TE} {g:TG} (he:PE X e te) (hg:PG X tg g) (hs:swapsWithSole [tg] e pos.line X.env=pure false:=by rfl) (hw:swappedStores [tg] e X.env=pure none:=by rfl)
  (h1:(assignEach [tg] X.env).map (·.2)=[assign tg X.env]:=by rfl):PS X (.Assign [tg] e pos) (qoz te g):=by
 intro pins s σ H D I h;refine wpAny_Assign_stores (thn (he pins s σ H _ I h) λv s1 ⟨x,H1,I1,r1,q1⟩=>?_) hs hw;rw [h1];exact thn (hg pins s1 σ H1 x v _ I1 r1 q1) λ_ s2 q=>q
def qmp {i:Nat} {x:Str} {e:Expr} {te:TE} {pos':Pos} (hN:X.N.Nodup) (hi:X.N[i]?=some x) (hx:Loc X.env.scope x) (he:PE X e te) (hs:swapsWith e (some (.Name x pos')) pos.line X.env=pure false:=by rfl) (hf:X.fn x=true\/X.env.scope.names.lookup x=some .local:=by first|exact .inl rfl|exact .inr rfl|assumption) :
  PS X (.Assign [.Name x pos'] e pos) (qoz te (qg5 i)):=by
 intro pins s σ H D I h;refine wpAny_Assign_Name (thn (he pins s σ H _ I h) λv s1 ⟨y,H1,I1,r1,q1⟩=>?_) hs;exact DO I1 hN hi hx r1 (λs2 I2=>⟨_,H1,I2,q1⟩) hf
def qqO (i j:Nat) (ta:TA):TS:=λD σ H=>ta σ H λvs H1=>∃ v w,vs=[v,w]/\D.nx ((σ.set i (some v)).set j (some w)) H1
def qlM {i j:Nat} {x y:Str} {a b:Expr} {ta:TA} {px py pt:Pos} {kt k2 pt2} (hc:X.calm=true) (hN:X.N.Nodup) (hi:X.N[i]?=some x) (hj:X.N[j]?=some y) (hij:i≠j)
  (hx:X.env.scope.names.lookup x=some .local) (hy:X.env.scope.names.lookup y=some .local) (ha:PA X [a,b] ta)
  (hw:swappedStores [.Tuple [.Name x px,.Name y py] kt pt] (.Tuple [a,b] k2 pt2) X.env=pure (some [x,y]))
  (hs:swapsWithSole [.Tuple [.Name x px,.Name y py] kt pt] (.Tuple [a,b] k2 pt2) pos.line X.env=pure false:=by rfl) :
  PS X (.Assign [.Tuple [.Name x px,.Name y py] kt pt] (.Tuple [a,b] k2 pt2) pos) (qqO i j ta):=by
 intro pins s σ H D I h;rw [exec_Assign_arm];refine wpAny_bind (wpAny_standAt ?_);rw [hs];refine wpAny_bind (wpAny_pure ?_);rw [if_neg (by decide)];refine wpAny_bind (Tuple_ (thn (ha _ pins s σ H _ I h) λus s1 ⟨vs,H1,I1,r1,q1⟩=>?_));obtain ⟨v,w,e1,q1⟩:=q1;subst e1;obtain ⟨u1,u2,rfl,rv,rw'⟩:∃ u1 u2,us=[u1,u2]/\jT v u1/\jT w u2:=by
  cases r1 with
  |cons p q=>
   cases q with
   |cons p' q'=>
    cases q';exact ⟨_,_,rfl,p,p'⟩
 refine wpAny_newObj_type ?_ (by show 2<=sizeLine;decide);have I2:Inv X pins σ H1 { s1 with heap:=s1.heap.push { cls:=.type "tuple",data:=.seq [u1,u2].toArray } }:=I1.kept (t':=s1.toks) λb o e=>Heap.get?_push_of_some _ e;rw [hw];refine wpAny_bind (wpAny_pure ?_);show wpAny (model X.prog X.w) X.A (do rule "assign.swapped-stores";let items←unpackItems (.ref s1.heap.objs.size) 2 none;assignInOrder [λv=>bindName X.env y v,λv=>bindName X.env x v] items.reverse;pure Flow.next) _ _ _;refine wpAny_bind (wpAny_rule (wpAny_bind (unpackItems_tuple (items:=#[u1,u2]) (I.ok.hd hc) (IsTup.new s1.heap _) λh' hx'=>?_)));have I3:=I2.kept (h':=h') (t':=s1.toks) λb o e=>hx' b o (Nat.ne_of_lt (Heap.lt_size e)) e;show wpAny _ _ (assignInOrder [λv=>bindName X.env y v,λv=>bindName X.env x v] [u2,u1] >>= λ_=>pure Flow.next) _ _ _;refine wpAny_bind (assignInOrder_cons (wpAny_bindName (DO I3 hN hj (.inl hy) rw' (λs2 I4=>?_) (.inr hy))));refine assignInOrder_cons (wpAny_bindName (DO I4 hN hi (.inl hx) rv (λs3 I5=>assignInOrder_nil (wpAny_pure ?_)) (.inr hx)));rw [List.set_comm _ _ (Ne.symm hij)] at I5;exact ⟨_,H1,I5,q1⟩
def qrk (i:Nat) (te:TE) (ti:TIp):TS:=λD σ H=>∃ x,σ[i]?=some (some x)/\te σ H λy H1=>ti x y H1 λz H2=>D.nx (σ.set i (some z)) H2
def qmj {i:Nat} {x:Str} {e:Expr} {te:TE} {op:Operator} {ti:TIp} {pos':Pos} (hN:X.N.Nodup) (hi:X.N[i]?=some x) (hx:Loc X.env.scope x) (he:PE X e te) (ho:PIp X op ti) (hf:X.fn x=true\/X.env.scope.names.lookup x=some .local:=by first|exact .inl rfl|exact .inr rfl|assumption) :
  PS X (.AugAssign (.Name x pos') op e pos) (qrk i te ti):=by
 intro pins s σ H D I h;obtain ⟨v,e1,h⟩:=h;obtain ⟨m,hn,hl⟩:=I.loc;have vis:Vis X.env.scope x:=by rcases hx with k|k;exact .inl k;exact .inr (.inl k)
 obtain ⟨u,r,l⟩:=hl i x v hi e1 vis;refine wpAny_AugAssign_Name ?_;have go:wpAny (model X.prog X.w) X.A (eval e X.env) (λw s₂=>wpAny (model X.prog X.w) X.A (inplaceOp op u w) (λr s₃=>wpAny (model X.prog X.w) X.A (storeName X.env x r) (λ_=>SP X pins D .next) X.xe s₃) X.xe s₂) X.xe s:=by
  refine thn (he pins s σ H _ I h) λw s1 ⟨y,H1,I1,r1,q1⟩=>?_;refine thn (ho pins s1 σ H1 v y u w _ I1 r r1 q1) λz s2 ⟨zv,H2,I2,r2,q2⟩=>?_;exact DO I2 hN hi hx r2 (λs3 I3=>⟨_,H2,I3,q2⟩) hf
 rcases l with ⟨hk,hm⟩|⟨hk,c,hc,hcell⟩
 ·exact wpAny_loadName_local I.ok.kind hk hn hm go
 ·rcases hk with hk|hk
  ·exact wpAny_loadName_cell I.ok.kind hk hc hcell go
  ·rcases hx with k|k
   ·have:X.env.scope.names.lookup x=some .free:=hk;rw [k] at this;cases this
   ·have:X.env.scope.names.lookup x=some .free:=hk;rw [k] at this;cases this
def ipI (f:Int->Int->Int):TIp:=λx y H Q=>∃ i j,x=.int i/\y=.int j/\Q (.int (f i j)) H
def qi7:PIp X .Add (ipI λi j=>i+j):=by
 intro pins s σ H x y v u Q I r1 r2 h;obtain ⟨i,j,e1,e2,q⟩:=h;subst e1;subst e2;obtain ⟨t,rfl⟩:=r1;obtain ⟨t',rfl⟩:=r2;exact iadd_int ⟨.int _,H,I.tok _,⟨_,rfl⟩,q⟩
end
section
variable {X:Cx} {pos:Pos}
def qj0 (c:TT) (tb:TS):TS:=λD σ H=>∃ W:Nat->St->Hp->Prop,(∃ m,W m σ H)/\∀ m σ H,W m σ H ->
 c σ H λb H1=>if b=true then ∃ N:St->Hp->Prop,(∀ σ' H',N σ' H'->∃ m',m'<m/\W m' σ' H')/\tb { D with nx:=N,ct:=N,bk:=D.nx } σ H1 else D.nx σ H1
def qdZ {c:Expr} {body:List Stmt} {tc:TT} {tb:TS} (hp:PassesOwn (model X.prog X.w) X.A X.env X.xe) (hc:PT X c tc) (hb:PSs X body tb):PS X (.While c body [] pos) (qj0 tc tb):=by
 intro pins s σ H D I h;obtain ⟨W,⟨m0,w0⟩,turn⟩:=h;refine wpAny_While (codeAny_whileLoop (λn s'=>∃ σ' H',Inv X pins σ' H' s'/\W n σ' H') ?_ m0 ⟨σ,H,I,w0⟩);rintro n s1 ⟨σ1,H1,I1,w1⟩;refine wpAny_passesOwn hp (thn (hc pins s1 σ1 H1 _ I1 (turn n σ1 H1 w1)) λb s2 ⟨H2,I2,q2⟩=>?_);cases b with
 |true=>
  obtain ⟨N,hN,q2⟩:=q2;rw [if_pos rfl];refine wpAny_passesOwn hp (thn (hb pins s2 σ1 H2 _ I2 q2) λf s3 q3=>?_);cases f with
  |next=>
   obtain ⟨σ3,H3,I3,n3⟩:=q3;obtain ⟨m',hm,w3⟩:=hN σ3 H3 n3;exact ⟨m',hm,σ3,H3,I3,w3⟩
  |cont=>
   obtain ⟨σ3,H3,I3,n3⟩:=q3;obtain ⟨m',hm,w3⟩:=hN σ3 H3 n3;exact ⟨m',hm,σ3,H3,I3,w3⟩
  |brk=>exact q3
  |ret v=>exact q3
 |false=>
  rw [if_neg Bool.false_ne_true];exact wpAny_execs_nil ⟨σ1,H2,I2,q2⟩
end
structure It where
 go:Nat->Hp->Prop
 yld:Nat->Hp->V->Hp->Prop
 stop:Nat->Hp->Prop
def LR (X:Cx) (pins:List (Addr×Obj)) (H:Hp) (b:Addr):Prop:=
 H b=none/\b≠X.env.locals/\b∉X.fs/\(b∈X.ex\/X.s₀.heap.objs.size<=b)/\(∀ x c,X.env.cells.lookup x=some c->c≠b)/\∀ p∈X.pn++pins,p.1≠b
def Inv.fpOk {X:Cx} {pins:List (Addr×Obj)} {σ:St} {H H':Hp} {s:Shared} {b:Addr} (I:Inv X pins σ H s) (hb:s.heap.objs.size<=b) (hn:H' b=none):LR X pins H' b:=by
 refine ⟨hn,Nat.ne_of_gt (Nat.lt_of_lt_of_le I.lt hb),I.nofs hb,.inr (Nat.le_trans I.sz hb),λx c e z=>?_,λp hp z=>?_⟩
 ·obtain ⟨v,q⟩:=I.cell x c e;exact absurd (Nat.lt_of_lt_of_le q.lt (by rw [z];exact hb)) (Nat.lt_irrefl _)
 ·exact absurd (Nat.lt_of_lt_of_le (Heap.lt_size (I.pin p hp).1) (by rw [z];exact hb)) (Nat.lt_irrefl _)
structure Turn (P:Program) (w:World) (K:Frg) (tg:Expr) (J:It) (fp:List Addr) (it:Addr) (tn:Nat->Heap->Prop):Prop where
 mem:it∈fp
 obj:∀ i h,tn i h->∀ b∈fp,∃ o,h.get? b=some o/\∀ v,o.data≠.cell v
 keep:∀ i h h',tn i h->(∀ b∈fp,∀ o,h.get? b=some o->h'.get? b=some o)->tn i h'
 item:∀ (X:Cx),X.prog=P->X.w=w->X.K=K->X.calm=true->∀ (i:Nat) (pins:List (Addr×Obj)) (s:Shared) (σ:St) (H:Hp) (E:Value->Shared->Prop),Inv X pins σ H s->(∀ b∈fp,LR X pins H b)->tn i s.heap->J.go i H ->
  wpAny (model P w) X.A (pyNext (.ref it)) (λr s1=>∃ u,r=some u /\
   wpAny (model P w) X.A (letOwnedTupleGo tg (.ref it) u) (λ_ s2=>∃ x H',Inv X pins σ H' s2/\jT x u/\J.yld i H x H'/\tn (i+1) s2.heap/\∀ b∈fp,H' b=none) E s1) E s
 done:∀ (X:Cx),X.prog=P->X.w=w->X.K=K->X.calm=true->∀ (i:Nat) (pins:List (Addr×Obj)) (s:Shared) (σ:St) (H:Hp) (E:Value->Shared->Prop),Inv X pins σ H s->(∀ b∈fp,LR X pins H b)->tn i s.heap->J.stop i H ->
  wpAny (model P w) X.A (pyNext (.ref it)) (λr s1=>r=none/\Inv X pins σ H s1) E s
 self:∀ (A:Around) (i:Nat) (s:Shared) (Q:Value->Shared->Prop) (E:Value->Shared->Prop),tn i s.heap->Q (.ref it) s->wpAny (model P w) A (pyIter (.ref it)) Q E s
abbrev TI:=St->Hp->(It->Hp->Prop)->Prop
def PIE (X:Cx) (pins:List (Addr×Obj)) (σ:St) (tg:Expr) (R:It->Hp->Prop) (itv:Value) (s2:Shared):Prop:=
 ∃ (it:Addr) (fp:List Addr) (tn:Nat->Heap->Prop) (J:It) (H':Hp),itv=.ref it/\Inv X pins σ H' s2/\Turn X.prog X.w X.K tg J fp it tn/\tn 0 s2.heap/\(∀ b∈fp,LR X pins H' b)/\R J H'
def PI (X:Cx) (tg iter:Expr) (wi:TI):Prop:=
 ∀ (pins:List (Addr×Obj)) (s:Shared) (σ:St) (H:Hp) (R:It->Hp->Prop),Inv X pins σ H s->wi σ H R ->
  wpAny (model X.prog X.w) X.A (eval iter X.env) (λv s1=>wpAny (model X.prog X.w) X.A (pyIter v) (PIE X pins σ tg R) X.xe s1) X.xe s
def qg2 {M:Model} {A:Around} {E:Value->Shared->Prop} {s:Shared} {tg:Expr} {it:Addr} {u:Value} {o:Obj} {n:String} {vs:Array Value} {Q:Unit->Shared->Prop} (ho:s.heap.get? it=some o) (hc:o.cls=.type n) (hd:o.data=.fields vs)
    (hn:["enumerate","zip","dict_itemiterator","dict_reverseitemiterator","odict_iterator","itertools.zip_longest","itertools.pairwise"].contains n=false) (hQ:Q () s):wpAny M A (letOwnedTupleGo tg (.ref it) u) Q E s:=by
  unfold letOwnedTupleGo;cases tg<;>first
    |exact wpAny_pure hQ
    | (cases u<;>first
        |exact wpAny_pure hQ
        | (refine wpAny_bind (wpAny_load ho ?_)
           rw [hc,hd];show wpAny M A (if (["enumerate","zip","dict_itemiterator","dict_reverseitemiterator","odict_iterator","itertools.zip_longest","itertools.pairwise"].contains n&&vs[0]?==some (rawInt _))=true then _ else _) Q E s;rw [if_neg (by intro h;rw [hn,Bool.false_and] at h;cases h)];exact wpAny_pure hQ))
def Itl (K:Frg) (a:Addr):It:=
 ⟨λi H=>∃ xs x,SqL K H a xs/\xs[i]?=some x,λi H x H'=>H'=H/\∀ xs,SqL K H a xs->xs[i]?=some x,λi H=>∃ xs,SqL K H a xs/\xs.length<=i⟩
def Itt (K:Frg) (a:Addr):It:=
 ⟨λi H=>∃ xs x,SqT K H a xs/\xs[i]?=some x,λi H x H'=>H'=H/\∀ xs,SqT K H a xs->xs[i]?=some x,λi H=>∃ xs,SqT K H a xs/\xs.length<=i⟩
def Itr (lo:Int) (n:Nat):It:=⟨λi _=>i<n,λi H x H'=>H'=H/\x=.int (lo+i),λi _=>n<=i⟩
def qbR {P:Program} {w:World} {K:Frg} {tg:Expr} (a it:Addr):Turn P w K tg (Itl K a) [it] it (λi h=>h.IsListIter it a i) where
 mem:=by simp
 obj:=λi h st b hb=>by
  have e:b=it:=by simpa using hb
  subst e;obtain ⟨o,e,c,d⟩:=st;exact ⟨o,e,λv z=>by rw [d] at z;cases z⟩
 keep:=λi h h' st k=>st.at λo e=>k it (by simp) o e
 item:=by
  intro X hP hw hK hc i pins s σ H E I hf st hg;subst hP hw hK;obtain ⟨xs,x,hq,hx⟩:=hg;obtain ⟨its,rv,p,hz⟩:=I.list hq;obtain ⟨u,hu,ru⟩:=rv.get hx;obtain ⟨f0,f1,f2,f3,f4,f5⟩:=hf it (by simp);refine wpAny_pyNext_list_item st p.isList (x:=u) (by simpa using hu) λh' st' sb=>?_;have I1:Inv X pins σ H { s with heap:=h' }:=I.turned (t':=s.toks) (λb o hb e=>(sb.2 b hb).trans e) f0 f1 f3 f4 f5;obtain ⟨o,e,c,d⟩:=id st';exact ⟨u,rfl,qg2 (s:={ s with heap:=h' }) e c d (by decide) ⟨x,H,I1,ru,⟨rfl,λys hy=>by rw [I.list_inj hy hq];exact hx⟩,st',λb hb=>(hf b hb).1⟩⟩
 done:=by
  intro X hP hw hK hc i pins s σ H E I hf st hg;subst hP hw hK;obtain ⟨xs,hq,hx⟩:=hg;obtain ⟨its,rv,p,hz⟩:=I.list hq;obtain ⟨f0,f1,f2,f3,f4,f5⟩:=hf it (by simp);have hl:=rv.length;exact wpAny_pyNext_list_end (I.ok.hd hc) st p.isList (by simp;omega) λh' eb=>⟨rfl,I.turned (t':=s.toks) (λb o hb e=>eb b o hb e) f0 f1 f3 f4 f5⟩
 self:=λ_ _ _ _ _ st h=>wpAny_pyIter_listiter st h
def qbq {P:Program} {w:World} {K:Frg} {tg:Expr} (a it:Addr):Turn P w K tg (Itt K a) [it] it (λi h=>h.IsTupleIter it a i) where
 mem:=by simp
 obj:=λi h st b hb=>by
  have e:b=it:=by simpa using hb
  subst e;obtain ⟨o,e,c,d⟩:=st;exact ⟨o,e,λv z=>by rw [d] at z;cases z⟩
 keep:=λi h h' st k=>st.at λo e=>k it (by simp) o e
 item:=by
  intro X hP hw hK hc i pins s σ H E I hf st hg;subst hP hw hK;obtain ⟨xs,x,hq,hx⟩:=hg;obtain ⟨its,rv,p,hz⟩:=I.tuple hq;obtain ⟨u,hu,ru⟩:=rv.get hx;obtain ⟨f0,f1,f2,f3,f4,f5⟩:=hf it (by simp);refine wpAny_pyNext_tuple_item st (show s.heap.IsTuple a its.toArray from p) (x:=u) (by simpa using hu) λh' st' sb=>?_;have I1:Inv X pins σ H { s with heap:=h' }:=I.turned (t':=s.toks) (λb o hb e=>(sb.2 b hb).trans e) f0 f1 f3 f4 f5;obtain ⟨o,e,c,d⟩:=id st';exact ⟨u,rfl,qg2 (s:={ s with heap:=h' }) e c d (by decide) ⟨x,H,I1,ru,⟨rfl,λys hy=>by rw [I.tuple_inj hy hq];exact hx⟩,st',λb hb=>(hf b hb).1⟩⟩
 done:=by
  intro X hP hw hK hc i pins s σ H E I hf st hg;subst hP hw hK;obtain ⟨xs,hq,hx⟩:=hg;obtain ⟨its,rv,p,hz⟩:=I.tuple hq;obtain ⟨f0,f1,f2,f3,f4,f5⟩:=hf it (by simp);have hl:=rv.length;exact wpAny_pyNext_tuple_end (I.ok.hd hc) st (show s.heap.IsTuple a its.toArray from p) (by simp;omega) λh' eb=>⟨rfl,I.turned (t':=s.toks) (λb o hb e=>eb b o hb e) f0 f1 f3 f4 f5⟩
 self:=λ_ _ _ _ _ st h=>wpAny_pyIter_tupleiter st h
def qba {P:Program} {w:World} {K:Frg} {tg:Expr} (it:Addr) (lo:Int) (n:Nat):Turn P w K tg (Itr lo n) [it] it (λi h=>IsRangeIter h it (lo+(i:Nat)*1) ((n:Int)-(i:Nat)) 1) where
 mem:=by simp
 obj:=λi h st b hb=>by
  have e:b=it:=by simpa using hb
  subst e;exact ⟨_,st,λv z=>by
   have z':Data.fields _=Data.cell v:=z;cases z'⟩
 keep:=λi h h' st k=>k it (by simp) _ st
 item:=by
  intro X hP hw hK hc i pins s σ H E I hf st hg;subst hP hw hK;obtain ⟨f0,f1,f2,f3,f4,f5⟩:=hf it (by simp);have W:=Walks.range (prog:=X.prog) (w:=X.w) (I.ok.hd hc) it lo 1 n;refine W.item i s _ _ hg st λv h' tk hv st' kk=>?_;obtain ⟨t,rfl⟩:=hv;have I1:Inv X pins σ H { s with heap:=h',toks:=tk }:=I.turned (λb o hb e=>kk b o (by simpa using hb) e) f0 f1 f3 f4 f5;refine ⟨_,rfl,qg2 (s:={ s with heap:=h',toks:=tk }) (n:="range_iterator") st' rfl rfl (by decide) ⟨.int (lo+i),H,I1,⟨t,?_⟩,⟨rfl,rfl⟩,st',λb hb=>(hf b hb).1⟩⟩;rw [Int.mul_one]
 done:=by
  intro X hP hw hK hc i pins s σ H E I hf st hg;subst hP hw hK;obtain ⟨f0,f1,f2,f3,f4,f5⟩:=hf it (by simp);exact wpAny_pyNext_range_end (I.ok.hd hc) st (by have:n<=i:=hg;omega) λh' eb=>⟨rfl,I.turned (t':=s.toks) (λb o hb e=>eb b o hb e) f0 f1 f3 f4 f5⟩
 self:=λ_ _ _ _ _ st h=>wpAny_pyIter_rangeiter st h
section
variable {X:Cx} {tg:Expr}
def qaX {pins:List (Addr×Obj)} {σ:St} {H:Hp} {s:Shared} {R:It->Hp->Prop} {E:Value->Shared->Prop} {lo hi:Int} {t u v:Tok} {tk:Nat} (I:Inv X pins σ H s) (h1:-(2 ^ 62)<=lo) (h2:lo<2 ^ 62) (h3:-(2 ^ 62)<=hi) (h4:hi<2 ^ 62)
  (q:R (Itr lo (hi-lo).toNat) H):wpAny (model X.prog X.w) X.A (pyIter (.ref s.heap.objs.size)) (PIE X pins σ tg R) E { s with heap:=s.heap.push { cls:=.type "range",data:=.fields #[.int lo t,.int hi u,.int 1 v] },toks:=tk }:=by
 refine wpAny_pyIter_range (IsRange.new ..) (small_one h1 h2 h3 h4) ?_;have I1:Inv X pins σ H { s with heap:=s.heap.push { cls:=.type "range",data:=.fields #[.int lo t,.int hi u,.int 1 v] },toks:=tk }:=I.kept λb o e=>Heap.get?_push_of_some _ e;refine ⟨(s.heap.push { cls:=.type "range",data:=.fields #[.int lo t,.int hi u,.int 1 v] }).objs.size,[(s.heap.push { cls:=.type "range",data:=.fields #[.int lo t,.int hi u,.int 1 v] }).objs.size],_,_,H,rfl,
  I1.kept (t':=tk) λb o e=>Heap.get?_push_of_some _ e,qba _ lo (hi-lo).toNat,?_,λb hb=>?_,q⟩
 ·have e1:lo+((0:Nat):Int)*1=lo:=by simp
  have e2:(((hi-lo).toNat:Nat):Int)-((0:Nat):Int)=Builtin.Range.rangeSize lo hi 1:=by rw [rangeSize_one];split<;>omega
  show IsRangeIter _ _ (lo+((0:Nat):Int)*1) ((((hi-lo).toNat:Nat):Int)-((0:Nat):Int)) 1;rw [e1,e2];exact Heap.get?_push_size _ rfl
 ·have e:b=(s.heap.push { cls:=.type "range",data:=.fields #[.int lo t,.int hi u,.int 1 v] }).objs.size:=by simpa using hb
  subst e;exact I1.fpOk (Nat.le_refl _) (I1.hok.fresh (Nat.le_refl _))
def qoT (ta:TA):TI:=λσ H R=>ta σ H λvs H1=>∃ j:Int,vs=[.int j]/\-(2 ^ 62)<=j/\j<2 ^ 62/\R (Itr 0 j.toNat) H1
def qpj (ta:TA):TI:=λσ H R=>ta σ H λvs H1=>∃ i j:Int,vs=[.int i,.int j]/\(-(2 ^ 62)<=i/\i<2 ^ 62/\-(2 ^ 62)<=j/\j<2 ^ 62)/\R (Itr i (j-i).toNat) H1
def qc3 {a:Expr} {ta:TA} {p pos:Pos} (hg:Gl X "range") (hm:X.mg "range" = none) (ha:PA X [a] ta) (hs:starEach [a] X.env=[(false,eval a X.env)]:=by rfl):PI X tg (.Call (.Name "range" p) [a] [] pos) (qoT ta):=by
 intro pins s σ H R I h;refine Call_ (C7 I hg hm boot_range (PyProof.Rows.callWith_type1 (thn (ha pos pins s σ H _ I h) λus s1 ⟨vs,H1,I1,r1,q1⟩=>?_) hs rfl));obtain ⟨j,e,q1,q2,q⟩:=q1;subst e;cases r1 with
 |cons r rr=>
  cases rr;obtain ⟨t,rfl⟩:=r;exact call_range_1 (qaX I1 (by omega) (by omega) q1 q2 (by simpa using q))
def qc1 {a b:Expr} {ta:TA} {p pos:Pos} (hg:Gl X "range") (hm:X.mg "range" = none) (ha:PA X [a,b] ta) (hs:starEach [a,b] X.env=[(false,eval a X.env),(false,eval b X.env)]:=by rfl) (hs2:starEach [b] X.env=[(false,eval b X.env)]:=by rfl) :
  PI X tg (.Call (.Name "range" p) [a,b] [] pos) (qpj ta):=by
 intro pins s σ H R I h;refine Call_ (C7 I hg hm boot_range (PyProof.Rows.callWith_type1 (thn (ha pos pins s σ H _ I h) λus s1 ⟨vs,H1,I1,r1,q1⟩=>?_) (by rw [hs,hs2]) (by rw [hs2];rfl)));obtain ⟨i,j,e,⟨q1,q2,q3,q4⟩,q⟩:=q1;subst e;cases r1 with
 |cons r rr=>
  cases rr with
  |cons r' rr=>
   cases rr;obtain ⟨t,rfl⟩:=r;obtain ⟨t',rfl⟩:=r';exact call_range_2 (qaX I1 q1 q2 q3 q4 q)
def qrg (wi:TI) (g:TG) (tb:TS):TS:=λD σ H=>wi σ H λJ H1=>∃ W:Nat->Nat->St->Hp->Prop,(∃ m,W 0 m σ H1)/\∀ i m σ H,W i m σ H ->
 (J.stop i H/\D.nx σ H)\/(J.go i H/\∃ N:St->Hp->Prop,(∀ σ' H',N σ' H'->∃ m',m'<m/\W (i+1) m' σ' H')/\∀ x H',J.yld i H x H'->g x σ H' λσ2 H2=>tb { D with nx:=N,ct:=N,bk:=D.nx } σ2 H2)
def XH (fp:List Addr) (h:Heap):List (Addr×Obj):=fp.filterMap λb=>(h.get? b).map λo=>(b,o)
def z9 {fp:List Addr} {h:Heap} {b:Addr} {o:Obj} (hb:b∈fp) (e:h.get? b=some o):(b,o)∈XH fp h:=List.mem_filterMap.mpr ⟨b,hb,by rw [e];rfl⟩
def qb0 {fp:List Addr} {h:Heap} {p:Addr×Obj} (hp:p∈XH fp h):p.1∈fp/\h.get? p.1=some p.2:=by
 obtain ⟨b,hb,e⟩:=List.mem_filterMap.mp hp;cases q:h.get? b with
 |none=>rw [q] at e;cases e
 |some o=>
  rw [q] at e;have e':(b,o)=p:=Option.some.inj e;subst e';exact ⟨hb,q⟩
def Inv.pinned {pins:List (Addr×Obj)} {σ:St} {H:Hp} {s:Shared} {fp:List Addr} (I:Inv X pins σ H s) (hf:∀ b∈fp,LR X pins H b) (ho:∀ b∈fp,∃ o,s.heap.get? b=some o/\∀ v,o.data≠.cell v):Inv X (pins++XH fp s.heap) σ H s:=
 I.pins_of λp hp=>(List.mem_append.mp hp).elim (λz=>I.pin p (mem_append_right _ z)) λz=>by
  obtain ⟨hb,e⟩:=qb0 z;obtain ⟨f0,f1,f2,_⟩:=hf p.1 hb;obtain ⟨o,e',d⟩:=ho p.1 hb;rw [e] at e';cases e';exact ⟨e,f0,f1,f2,d⟩
def Inv.unpinned {pins pl:List (Addr×Obj)} {σ:St} {H:Hp} {s:Shared} (I:Inv X (pins++pl) σ H s):Inv X pins σ H s:=I.pins_of λp hp=>I.pin p (mem_append_right _ (List.mem_append_left _ hp))
def qjZ {iter:Expr} {body:List Stmt} {wi:TI} {g:TG} {tb:TS} {pos:Pos} (hp:PassesOwn (model X.prog X.w) X.A X.env X.xe) (hc:X.calm=true) (hi:PI X tg iter wi) (hg:PG X tg g) (hb:PSs X body tb)
  (hs:∀ x,foldedSetIterable iter X.env x=pure x:=by intro _;rfl):PS X (.For tg iter body [] pos) (qrg wi g tb):=by
 intro pins s σ H D I h;refine wpAny_For (thn (hi pins s σ H _ I h) λv s1 h1=>thn h1 λitv s2 h2=>?_) hs;obtain ⟨it,fp,tn,J,H2,e,I2,T,st2,f2,W,⟨m0,w0⟩,turn⟩:=h2;subst e
 -- what stays true of the iterator's objects through the loop
 have stat:∀ {H':Hp},(∀ b∈fp,H' b=none)->∀ b∈fp,LR X pins H' b:=λhn b hb=>⟨hn b hb,(f2 b hb).2⟩
 refine codeAny_forLoop_any (λn s'=>∃ i σ' H',Inv X pins σ' H' s'/\tn i s'.heap/\(∀ b∈fp,H' b=none)/\W i n σ' H') ?_ m0 ⟨0,σ,H2,I2,st2,λb hb=>(f2 b hb).1,w0⟩;rintro n s3 ⟨i,σ3,H3,I3,st3,fr3,w3⟩;rcases turn i n σ3 H3 w3 with ⟨stop,qn⟩|⟨go,N,hN,step⟩
 ·refine wpAny_passesOwn hp (thn (T.done X rfl rfl rfl hc i pins s3 σ3 H3 X.xe I3 (stat fr3) st3 stop) λr s4 ⟨hr,I4⟩=>?_);subst hr;exact wpAny_execs_nil ⟨σ3,H3,I4,qn⟩
 ·refine wpAny_passesOwn hp (thn (T.item X rfl rfl rfl hc i pins s3 σ3 H3 X.xe I3 (stat fr3) st3 go) λr s4 ⟨u,hr,h4⟩=>?_);subst hr;refine wpAny_passesOwn hp (thn h4 λ_ s5 ⟨x,H5,I5,r5,y5,st5,fr5⟩=>?_);have I5':=I5.pinned (stat fr5) (T.obj _ _ st5);refine wpAny_passesOwn hp (thn (hg _ s5 σ3 H5 x u _ I5' r5 (step x H5 y5)) λ_ s6 ⟨σ6,H6,I6,q6⟩=>?_);refine wpAny_passesOwn hp (thn (hb _ s6 σ6 H6 _ I6 q6) λf s7 q7=>?_);have again:∀ {σ7:St} {H7:Hp},Inv X (pins++XH fp s5.heap) σ7 H7 s7->N σ7 H7->∃ m,m<n/\∃ i σ' H',Inv X pins σ' H' s7/\tn i s7.heap/\(∀ b∈fp,H' b=none)/\W i m σ' H':=λ{σ7 H7} I7 n7=>by
   obtain ⟨m',hm,w7⟩:=hN σ7 H7 n7;refine ⟨m',hm,i+1,σ7,H7,I7.unpinned,T.keep _ _ _ st5 λb hb o e=>(I7.pin (b,o) (mem_append_right _ (mem_append_right _ (z9 hb e)))).1,λb hb=>?_,w7⟩;obtain ⟨o,e,d⟩:=T.obj _ _ st5 b hb;exact (I7.pin (b,o) (mem_append_right _ (mem_append_right _ (z9 hb e)))).2.1
  cases f with
  |next=>obtain ⟨σ7,H7,I7,n7⟩:=q7;exact again I7 n7
  |cont=>obtain ⟨σ7,H7,I7,n7⟩:=q7;exact again I7 n7
  |brk=>obtain ⟨σ7,H7,I7,q7⟩:=q7;exact ⟨σ7,H7,I7.unpinned,q7⟩
  |ret v=>obtain ⟨x7,σ7,H7,I7,r7,q7⟩:=q7;exact ⟨x7,σ7,H7,I7.unpinned,r7,q7⟩
end
abbrev R2:=V->V->Hp->VK->Prop
def OpR (X:Cx) (f:Value->Value->Sem Value) (r:R2):Prop:=
 ∀ (pins:List (Addr×Obj)) (s:Shared) (σ:St) (H:Hp) (x y:V) (v u:Value) (Q:VK),Inv X pins σ H s->jT x v->jT y u->r x y H Q ->
  wpAny (model X.prog X.w) X.A (f v u) (EP X pins σ Q) X.xe s
def UnR (X:Cx) (f:Value->Sem Value) (r:V->Hp->VK->Prop):Prop:=
 ∀ (pins:List (Addr×Obj)) (s:Shared) (σ:St) (H:Hp) (x:V) (v:Value) (Q:VK),Inv X pins σ H s->jT x v->r x H Q ->
  wpAny (model X.prog X.w) X.A (f v) (EP X pins σ Q) X.xe s
def VO (X:Cx) (f:Value) (r:List V->Hp->VK->Prop):Prop:=
 ∀ (pins:List (Addr×Obj)) (s:Shared) (σ:St) (H:Hp) (xs:List V) (us:List Value) (Q:VK),Inv X pins σ H s->jx xs us->r xs H Q ->
  wpAny (model X.prog X.w) X.A (call f us) (EP X pins σ Q) X.xe s
def tOp (r:R2) (ta tb:TE):TE:=λσ H Q=>ta σ H λx H1=>tb σ H1 λy H2=>r x y H2 Q
def tUn (r:V->Hp->VK->Prop) (ta:TE):TE:=λσ H Q=>ta σ H λx H1=>r x H1 Q
def rI (C:Int->Int->Prop) (g:Int->Int->V):R2:=λx y H Q=>∃ i j,x=.int i/\y=.int j/\C i j/\Q (g i j) H
def rI0 (g:Int->Int->V):R2:=λx y H Q=>∃ i j,x=.int i/\y=.int j/\Q (g i j) H
def rU (g:Int->V):V->Hp->VK->Prop:=λx H Q=>∃ i,x=.int i/\Q (g i) H
section
variable {X:Cx} {a b c:Expr} {ta tb tc:TE} {pos:Pos}
def qow (ha:PE X a ta) (hb:PE X b tb) {pins:List (Addr×Obj)} {s:Shared} {σ:St} {H:Hp} {R:V->V->Hp->Prop} (I:Inv X pins σ H s)
  (h:ta σ H λx H1=>tb σ H1 λy H2=>R x y H2) {Q:Value->Shared->Prop} {f:Value->Value->Sem Value}
  (hf:∀ v u s2 x y H2,Inv X pins σ H2 s2->jT x v->jT y u->R x y H2->wpAny (model X.prog X.w) X.A (f v u) Q X.xe s2) :
  wpAny (model X.prog X.w) X.A (eval a X.env) (λv s₁=>wpAny (model X.prog X.w) X.A (eval b X.env) (λu s₂=>wpAny (model X.prog X.w) X.A (f v u) Q X.xe s₂) X.xe s₁) X.xe s:=by
 refine thn (ha pins s σ H _ I h) λv s1 ⟨x,H1,I1,r1,q1⟩=>?_;refine thn (hb pins s1 σ H1 _ I1 q1) λu s2 ⟨y,H2,I2,r2,q2⟩=>?_;exact hf v u s2 x y H2 I2 r1 r2 q2
def qpc {op:Operator} {r:R2} (ho:OpR X (binaryOp op) r) (ha:PE X a ta) (hb:PE X b tb):PE X (.BinOp a op b pos) (tOp r ta tb):=by
 intro pins s σ H Q I h;exact wpAny_BinOp (qow ha hb I h λv u s2 x y H2 I2 rx ry q=>ho pins s2 σ H2 x y v u Q I2 rx ry q)
def qpQ {op:UnaryOp} {r:V->Hp->VK->Prop} (ho:UnR X (unaryOp op) r) (ha:PE X a ta):PE X (.UnaryOp op a pos) (tUn r ta):=by
 intro pins s σ H Q I h;exact UnaryOp_ (thn (ha pins s σ H _ I h) λv s1 ⟨x,H1,I1,r1,q1⟩=>ho pins s1 σ H1 x v Q I1 r1 q1)
def opI {f:Value->Value->Sem Value} {C:Int->Int->Prop} {g:Int->Int->Int}
  (rule:∀ (i j:Int) (t u:Tok) (s:Shared) (Q:Value->Shared->Prop) (E:Value->Shared->Prop),C i j->Q (.int (g i j) s.toks) { s with toks:=s.toks+1 }->wpAny (model X.prog X.w) X.A (f (.int i t) (.int j u)) Q E s) :
  OpR X f (rI C λi j=>.int (g i j)):=by
 intro pins s σ H x y v u Q I rx ry h;obtain ⟨i,j,rfl,rfl,hc,q⟩:=h;obtain ⟨t,rfl⟩:=rx;obtain ⟨t',rfl⟩:=ry;exact rule i j t t' s _ _ hc ⟨.int (g i j),H,I.tok _,⟨_,rfl⟩,q⟩
def qpk {f:Value->Value->Sem Value} {g:Int->Int->Int}
  (rule:∀ (i j:Int) (t u:Tok) (s:Shared) (Q:Value->Shared->Prop) (E:Value->Shared->Prop),Q (.int (g i j) s.toks) { s with toks:=s.toks+1 }->wpAny (model X.prog X.w) X.A (f (.int i t) (.int j u)) Q E s) :
  OpR X f (rI0 λi j=>.int (g i j)):=by
 intro pins s σ H x y v u Q I rx ry h;obtain ⟨i,j,rfl,rfl,q⟩:=h;obtain ⟨t,rfl⟩:=rx;obtain ⟨t',rfl⟩:=ry;exact rule i j t t' s _ _ ⟨.int (g i j),H,I.tok _,⟨_,rfl⟩,q⟩
def qoe {f:Value->Value->Sem Value} {g:Int->Int->Bool}
  (rule:∀ (i j:Int) (t u:Tok) (s:Shared) (Q:Value->Shared->Prop) (E:Value->Shared->Prop),Q (.bool (g i j)) s->wpAny (model X.prog X.w) X.A (f (.int i t) (.int j u)) Q E s) :
  OpR X f (rI0 λi j=>.bl (g i j)):=by
 intro pins s σ H x y v u Q I rx ry h;obtain ⟨i,j,rfl,rfl,q⟩:=h;obtain ⟨t,rfl⟩:=rx;obtain ⟨t',rfl⟩:=ry;exact rule i j t t' s _ _ ⟨.bl (g i j),H,I,rfl,q⟩
def qa2 (i j:Int):Prop:=0<j/\j<1073741824
def qa9 (i j:Int):Prop:=0<=j/\j<=1000000/\i.natAbs<2 ^ 64
def Q7 (i j:Int):Prop:=(-(2 ^ 64)<i/\i<2 ^ 64)\/(-(2 ^ 64)<j/\j<2 ^ 64)
def Q7.ok {i j:Int} (h:Q7 i j):IntMulOk i j:=by
 rcases h with ⟨h1,h2⟩|⟨h1,h2⟩
 ·exact .of_left (intBits_le_64 h1 h2)
 ·exact .of_right (intBits_le_64 h1 h2)
def qbp (k:Nat):(0:Int)<=2 ^ k:=by
 rw [two_pow_cast];exact Int.natCast_nonneg _
def qjR:OpR X (binaryOp .Add) (rI0 λi j=>.int (i+j)):=qpk λ_ _ _ _ _ _ _ q=>add_int q
def qjT:OpR X (binaryOp .Sub) (rI0 λi j=>.int (i-j)):=qpk λ_ _ _ _ _ _ _ q=>sub_int q
def qka:OpR X (binaryOp .Mult) (rI Q7 λi j=>.int (i*j)):=opI λ_ _ _ _ _ _ _ hc q=>mul_int q hc.ok
def qh6:OpR X (binaryOp .FloorDiv) (rI qa2 λi j=>.int (i/j)):=opI λi j _ _ _ _ _ hc q=>by
 have h1:(0:Int)<j:=hc.1;have h2:j<1073741824:=hc.2;exact floordiv_int (by omega) (by rw [Int.fdiv_eq_ediv_of_nonneg i (by omega)];exact q) (.inl (PyProof.noPylong_small (by omega)))
def qlR:OpR X (binaryOp .Mod) (rI (λ_ j=>0<j) λi j=>.int (i%j)):=opI λi j _ _ _ _ _ hc q=>by
 have h1:(0:Int)<j:=hc;exact mod_int' (by omega) (by rw [Int.fmod_eq_emod_of_nonneg i (by omega)];exact q)
def qmr:OpR X (binaryOp .Pow) (rI qa9 λi j=>.int (i ^ j.toNat)):=opI λ_ _ _ _ _ _ _ hc q=>pow_int_small hc.1 hc.2.1 hc.2.2 q
def qkV:OpR X (binaryOp .LShift) (rI qa9 λi j=>.int (i*2 ^ j.toNat)):=opI λ_ _ _ _ _ _ _ hc q=>lshift_int_small hc.1 hc.2.1 hc.2.2 q
def qjQ:OpR X (binaryOp .RShift) (rI (λ_ j=>0<=j) λi j=>.int (i/2 ^ j.toNat)):=opI λi j _ _ _ _ _ hc q=>
 rshift_int hc (by rw [Int.fdiv_eq_ediv_of_nonneg i (qbp _)];exact q)
def ql9:OpR X (binaryOp .BitAnd) (rI0 λi j=>.int (Builtin.bitAnd i j)):=qpk λ_ _ _ _ _ _ _ q=>and_int q
def unI {f:Value->Sem Value} {g:Int->Int}
  (rule:∀ (i:Int) (t:Tok) (s:Shared) (Q:Value->Shared->Prop) (E:Value->Shared->Prop),Q (.int (g i) s.toks) { s with toks:=s.toks+1 }->wpAny (model X.prog X.w) X.A (f (.int i t)) Q E s) :
  UnR X f (rU λi=>.int (g i)):=by
 intro pins s σ H x v Q I rx h;obtain ⟨i,rfl,q⟩:=h;obtain ⟨t,rfl⟩:=rx;exact rule i t s _ _ ⟨.int (g i),H,I.tok _,⟨_,rfl⟩,q⟩
def qkt:UnR X (unaryOp .USub) (rU λi=>.int (-i)):=unI λ_ _ _ _ _ q=>neg_int q
end
def qoR:V->V->Bool
 |.non,.non=>true|.non,.int _=>true|.int _,.non=>true|.non,.bl _=>true|.bl _,.non=>true|.non,.str _=>true|.str _,.non=>true
 |.int _,.int _=>true|.bl _,.bl _=>true|.str _,.str _=>true|.byt _,.byt _=>true
 |.int _,.str _=>true|.str _,.int _=>true|.bl _,.str _=>true|.str _,.bl _=>true
 |_,_=>false
def rEq:R2:=λx y H Q=>qoR x y=true/\Q (.bl (decide (x=y))) H
def rNe:R2:=λx y H Q=>qoR x y=true/\Q (.bl (!decide (x=y))) H
def qcJ {i j:Int}:decide (V.int i=V.int j)=(i==j):=by
 rw [Bool.eq_iff_iff];simp
def qeU {i j:Bool}:decide (V.bl i=V.bl j)=(i==j):=by
 rw [Bool.eq_iff_iff];simp
def qdl {i j:Str}:decide (V.str i=V.str j)=(i==j):=by
 rw [Bool.eq_iff_iff];simp
def qbK {i j:Array UInt8}:decide (V.byt i=V.byt j)=(i.toList==j.toList):=by
 rw [Bool.eq_iff_iff];cases i;cases j;simp
section
variable {X:Cx} {a b c:Expr} {ta tb tc:TE} {pos:Pos}
def zm {pins:List (Addr×Obj)} {σ:St} {H:Hp} {s:Shared} {Q:VK} {k k':Bool} (I:Inv X pins σ H s) (q:Q (.bl k) H) (e:k=k'):EP X pins σ Q (.bool k') s:=by
 subst e;exact ⟨.bl k,H,I,rfl,q⟩
def qoJ:OpR X (compareOp .Eq) rEq:=by
 intro pins s σ H x y v u Q I rx ry h;obtain ⟨hs,q⟩:=h;cases x with
 |non=>
  cases rx;cases y with
  |non=>cases ry;exact PySem.EqNone.eq_none_none (zm I q (by simp))
  |bl j=>cases ry;exact PySem.EqNone.eq_none_bool (zm I q (by simp))
  |int j=>obtain ⟨t',rfl⟩:=ry;exact PySem.EqNone.eq_none_int (zm I q (by simp))
  |str j=>obtain ⟨t',rfl⟩:=ry;exact PySem.EqNone.eq_none_str (zm I q (by simp))
  |_=>exact absurd (show false=true from hs) Bool.false_ne_true
 |bl i=>
  cases rx;cases y with
  |non=>cases ry;exact PySem.EqNone.eq_bool_none (zm I q (by simp))
  |bl j=>cases ry;exact eq_bool (zm I q qeU)
  |str j=>obtain ⟨t',rfl⟩:=ry;exact PySem.EqMixed.eq_bool_str (zm I q (by simp))
  |_=>exact absurd (show false=true from hs) Bool.false_ne_true
 |int i=>
  obtain ⟨t,rfl⟩:=rx;cases y with
  |non=>cases ry;exact PySem.EqNone.eq_int_none (zm I q (by simp))
  |int j=>obtain ⟨t',rfl⟩:=ry;exact eq_int (zm I q qcJ)
  |str j=>obtain ⟨t',rfl⟩:=ry;exact PySem.EqMixed.eq_int_str (zm I q (by simp))
  |_=>exact absurd (show false=true from hs) Bool.false_ne_true
 |str i=>
  obtain ⟨t,rfl⟩:=rx;cases y with
  |non=>cases ry;exact PySem.EqNone.eq_str_none (zm I q (by simp))
  |bl j=>cases ry;exact PySem.EqMixed.eq_str_bool (zm I q (by simp))
  |int j=>obtain ⟨t',rfl⟩:=ry;exact PySem.EqMixed.eq_str_int (zm I q (by simp))
  |str j=>obtain ⟨t',rfl⟩:=ry;exact eq_str (zm I q qdl)
  |_=>exact absurd (show false=true from hs) Bool.false_ne_true
 |byt i=>
  obtain ⟨t,rfl⟩:=rx;cases y with
  |byt j=>obtain ⟨t',rfl⟩:=ry;exact PySem.W.eq_bytes (zm I q qbK)
  |_=>exact absurd (show false=true from hs) Bool.false_ne_true
 |_=>cases y<;>exact absurd (show false=true from hs) Bool.false_ne_true
def qpW:OpR X (compareOp .NotEq) rNe:=by
 intro pins s σ H x y v u Q I rx ry h;obtain ⟨hs,q⟩:=h;cases x with
 |non=>
  cases rx;cases y with
  |non=>cases ry;exact PySem.EqNone.ne_none_none (zm I q (by simp))
  |bl j=>cases ry;exact PySem.EqNone.ne_none_bool (zm I q (by simp))
  |int j=>obtain ⟨t',rfl⟩:=ry;exact PySem.EqNone.ne_none_int (zm I q (by simp))
  |str j=>obtain ⟨t',rfl⟩:=ry;exact PySem.EqNone.ne_none_str (zm I q (by simp))
  |_=>exact absurd (show false=true from hs) Bool.false_ne_true
 |bl i=>
  cases rx;cases y with
  |non=>cases ry;exact PySem.EqNone.ne_bool_none (zm I q (by simp))
  |bl j=>cases ry;exact ne_bool (zm I q (congrArg not qeU))
  |str j=>obtain ⟨t',rfl⟩:=ry;exact PySem.EqMixed.ne_bool_str (zm I q (by simp))
  |_=>exact absurd (show false=true from hs) Bool.false_ne_true
 |int i=>
  obtain ⟨t,rfl⟩:=rx;cases y with
  |non=>cases ry;exact PySem.EqNone.ne_int_none (zm I q (by simp))
  |int j=>obtain ⟨t',rfl⟩:=ry;exact ne_int (zm I q (congrArg not qcJ))
  |str j=>obtain ⟨t',rfl⟩:=ry;exact PySem.EqMixed.ne_int_str (zm I q (by simp))
  |_=>exact absurd (show false=true from hs) Bool.false_ne_true
 |str i=>
  obtain ⟨t,rfl⟩:=rx;cases y with
  |non=>cases ry;exact PySem.EqNone.ne_str_none (zm I q (by simp))
  |bl j=>cases ry;exact PySem.EqMixed.ne_str_bool (zm I q (by simp))
  |int j=>obtain ⟨t',rfl⟩:=ry;exact PySem.EqMixed.ne_str_int (zm I q (by simp))
  |str j=>obtain ⟨t',rfl⟩:=ry;exact ne_str (zm I q (congrArg not qdl))
  |_=>exact absurd (show false=true from hs) Bool.false_ne_true
 |byt i=>
  obtain ⟨t,rfl⟩:=rx;cases y with
  |byt j=>obtain ⟨t',rfl⟩:=ry;exact PySem.W.ne_bytes (zm I q (congrArg not qbK))
  |_=>exact absurd (show false=true from hs) Bool.false_ne_true
 |_=>cases y<;>exact absurd (show false=true from hs) Bool.false_ne_true
def TV:OpR X (compareOp .Lt) (rI0 λi j=>.bl (decide (i<j))):=qoe λ_ _ _ _ _ _ _ q=>lt_int q
def qhp:OpR X (compareOp .LtE) (rI0 λi j=>.bl (decide (i<=j))):=qoe λ_ _ _ _ _ _ _ q=>le_int q
def qdv:OpR X (compareOp .Gt) (rI0 λi j=>.bl (decide (j<i))):=qoe λ_ _ _ _ _ _ _ q=>gt_int q
def qp2:OpR X (compareOp .GtE) (rI0 λi j=>.bl (decide (j<=i))):=qoe λ_ _ _ _ _ _ _ q=>ge_int q
def qca:OpR X (compareOp .IsNot) (λx y H Q=>y=.non/\Q (.bl (!decide (x=.non))) H):=by
 intro pins s σ H x y v u Q I rx ry h;obtain ⟨rfl,q⟩:=h;cases ry;refine isnot_none_gen (zm I q ?_);cases x<;>first
  | (cases rx;rfl)
  | (obtain ⟨t,rfl⟩:=rx;rfl)
def OpR.or {f:Value->Value->Sem Value} {r r':R2} (h:OpR X f r) (h':OpR X f r'):OpR X f (λx y H Q=>r x y H Q\/r' x y H Q):=by
 intro pins s σ H x y v u Q I rx ry q;rcases q with q|q
 ·exact h pins s σ H x y v u Q I rx ry q
 ·exact h' pins s σ H x y v u Q I rx ry q
def qB (b:Expr) {op:CmpOp} (h:op≠.In:=by decide) (h2:op≠.NotIn:=by decide):behindInMarks op b=false:=by
 have e1:(op==CmpOp.In)=false:=by cases op<;>first|rfl|exact absurd rfl h
 have e2:(op==CmpOp.NotIn)=false:=by cases op<;>first|rfl|exact absurd rfl h2
 cases b<;>simp [behindInMarks,e1,e2]
def qin {op:CmpOp} {r:R2} (ho:OpR X (compareOp op) r) (ha:PE X a ta) (hb:PE X b tb) (hm:behindInMarks op b=false):PE X (.Compare a [op] [b] pos) (tOp r ta tb):=by
 intro pins s σ H Q I h;exact wpAny_Compare1 (qow ha hb I h λv u s2 x y H2 I2 rx ry q=>ho pins s2 σ H2 x y v u Q I2 rx ry q) hm
def qnD (t:TE):TT:=λσ H Q=>t σ H λx H'=>∃ k,x=.bl k/\Q k H'
def qg4 {op:CmpOp} {r:R2} (ho:OpR X (compareOp op) r) (ha:PE X a ta) (hb:PE X b tb) (hm:behindInMarks op b=false):PT X (.Compare a [op] [b] pos) (qnD (tOp r ta tb)):=by
 intro pins s σ H Q I h;refine wpAny_isTrue_Compare1 (thn (ha pins s σ H _ I h) λv s1 ⟨x,H1,I1,r1,q1⟩=>thn (hb pins s1 σ H1 _ I1 q1) λu s2 ⟨y,H2,I2,r2,q2⟩=>
  thn (ho pins s2 σ H2 x y v u _ I2 r1 r2 q2) λc s3 ⟨z,H3,I3,r3,k,e,q3⟩=>?_) hm
 subst e;cases r3;exact wpAny_truthy_bool ⟨H3,I3,q3⟩
def qfy (r r':R2) (ta tb tc:TE):TE:=λσ H Q=>ta σ H λx H1=>tb σ H1 λy H2=>r x y H2 λz H3=>∃ k,z=.bl k /\
 (if k=true then tc σ H3 λw' H4=>r' y w' H4 Q else Q (.bl false) H3)
def qd0 {op op':CmpOp} {r r':R2} (ho:OpR X (compareOp op) r) (ho':OpR X (compareOp op') r') (ha:PE X a ta) (hb:PE X b tb) (hc:PE X c tc)
  (hm:lastMarks [op,op'] [b,c]=false:=by with_unfolding_all rfl):PE X (.Compare a [op,op'] [b,c] pos) (qfy r r' ta tb tc):=by
 intro pins s σ H Q I h;refine Compare_chain (thn (ha pins s σ H _ I h) λv s1 ⟨x,H1,I1,r1,q1⟩=>chain_link (thn (hb pins s1 σ H1 _ I1 q1) λu s2 ⟨y,H2,I2,r2,q2⟩=>
  thn (ho pins s2 σ H2 x y v u _ I2 r1 r2 q2) λd s3 ⟨z,H3,I3,r3,k,e,q3⟩=>?_)) hm
 subst e;cases r3;refine wpAny_truthy_bool ?_;cases k with
 |false=>exact ite_ff ⟨.bl false,H3,I3,rfl,q3⟩
 |true=>exact ite_tt (chain_last (thn (hc pins s3 σ H3 _ I3 q3) λw' s4 ⟨z',H4,I4,r4,q4⟩=>ho' pins s4 σ H4 y z' u w' Q I4 r2 r4 q4))
def MY:(sizeLine:Nat)<2 ^ 63:=by rw [sizeLine_eq];decide
def C2 {x:V} {us:List Value} (r:jx [x] us):∃ u,us=[u]/\jT x u:=by
 cases r with
 |cons r1 r2=>cases r2;exact ⟨_,rfl,r1⟩
def qif {x y:V} {us:List Value} (r:jx [x,y] us):∃ u w',us=[u,w']/\jT x u/\jT y w':=by
 cases r with
 |cons r1 r2=>
  cases r2 with
  |cons r3 r4=>cases r4;exact ⟨_,_,rfl,r1,r3⟩
def qaG:VO X (.builtin "abs") (λxs H Q=>∃ i,xs=[.int i]/\Q (.int (if i<0 then -i else i)) H):=by
 intro pins s σ H xs us Q I r h;obtain ⟨i,rfl,q⟩:=h;obtain ⟨u,rfl,t,rfl⟩:=C2 r;exact call_abs_int λu tk=>⟨.int (if i<0 then -i else i),H,I.tok _,⟨_,rfl⟩,q⟩
def qcT (hc:X.calm=true):VO X (.builtin "min") (λxs H Q=>∃ i j,xs=[.int i,.int j]/\Q (.int (if j<i then j else i)) H):=by
 intro pins s σ H xs us Q I r h;obtain ⟨i,j,rfl,q⟩:=h;obtain ⟨u,w',rfl,⟨t,rfl⟩,⟨t',rfl⟩⟩:=qif r;refine min_two_ints (I.ok.hd hc) λh' tk k=>⟨_,H,I.kept k,?_,q⟩
 by_cases hj:j<i
 ·rw [if_pos hj,if_pos hj];exact ⟨_,rfl⟩
 ·rw [if_neg hj,if_neg hj];exact ⟨_,rfl⟩
def D0:VO X (.type "int") (λxs H Q=>(∃ i,xs=[.int i]/\Q (.int i) H)\/∃ k,xs=[.bl k]/\Q (.int (if k then 1 else 0)) H):=by
 intro pins s σ H xs us Q I r h;rcases h with ⟨i,rfl,q⟩|⟨k,rfl,q⟩
 ·obtain ⟨u,rfl,t,rfl⟩:=C2 r;exact call_int_int ⟨.int i,H,I,⟨_,rfl⟩,q⟩
 ·obtain ⟨u,rfl,r1⟩:=C2 r;cases r1;exact call_int_bool ⟨.int (if k then 1 else 0),H,I.tok _,⟨_,rfl⟩,q⟩
def qqq (K:Frg) (x:V) (H:Hp) (n:Nat):Prop:=
 match x with
 |.str y=>y.length<=sizeLine/\n=y.length
 |.byt y=>y.size<=sizeLine/\n=y.size
 |.ref p=>(∃ xs,SqL K H p xs/\n=xs.length)\/∃ xs,SqT K H p xs/\n=xs.length
 |_=>False
def zd:VO X (.builtin "len") (λxs H Q=>∃ x n,xs=[x]/\qqq X.K x H n/\Q (.int n) H):=by
 intro pins s σ H xs us Q I r h;obtain ⟨x,n,rfl,e,q⟩:=h;obtain ⟨u,rfl,rx⟩:=C2 r;have hl:=MY;have hs:sizeLine=16777216:=sizeLine_eq;cases x with
 |str y=>
  obtain ⟨t,rfl⟩:=rx;obtain ⟨hy,e'⟩:y.length<=sizeLine/\n=y.length:=e;subst e';exact len_str (by omega) ⟨.int _,H,I.tok _,⟨_,rfl⟩,q⟩
 |byt y=>
  obtain ⟨t,rfl⟩:=rx;obtain ⟨hy,e'⟩:y.size<=sizeLine/\n=y.size:=e;subst e';exact PySem.W.len_bytes (by omega) ⟨.int _,H,I.tok _,⟨_,rfl⟩,q⟩
 |ref p=>
  cases rx;have e':(∃ xs,SqL X.K H p xs/\n=xs.length)\/∃ xs,SqT X.K H p xs/\n=xs.length:=e;rcases e' with ⟨xs,hx,e'⟩|⟨xs,hx,e'⟩
  ·subst e';obtain ⟨its,r',pl,hz⟩:=I.list hx;have hlen:=r'.length;exact Calls.call_len_list pl.isList (by simp only [size_toArray];omega) ⟨.int xs.length,H,I.tok _,⟨_,by simp only [size_toArray];rw [hlen]⟩,q⟩
  ·subst e';obtain ⟨its,r',pl,hz⟩:=I.tuple hx;have hlen:=r'.length;exact len_tuple pl (by simp only [size_toArray];omega) ⟨.int xs.length,H,I.tok _,⟨_,by simp only [size_toArray];rw [hlen]⟩,q⟩
 |_=>exact (show False from e).elim
end
section
variable {prog:Program} {w:World} {A:Around} {E:Value->Shared->Prop} {s:Shared} {K:Frg} {x dx C f:Addr} {mA:Str->Option Value} {name:Str} {v:Value}
end
section
variable {P:Program} {w:World} {H H':Hp} {h h':Heap} {a C dx:Addr} {fs fs':List (Str×V)}
end
section
variable {X:Cx} {pins:List (Addr×Obj)} {σ:St} {H:Hp} {s:Shared} {a C dx:Addr} {fs:List (Str×V)} {f:Str} {v:V} {A:Around} {E:Value->Shared->Prop}
end
section
variable {X:Cx} {o e value:Expr} {f:Str} {pos pos' tpos:Pos} {ta tv:TE}
end
section
variable {X:Cx} {pins:List (Addr×Obj)} {σ:St} {H:Hp} {s:Shared} {A:Around} {E:Value->Shared->Prop} {Q:Value->Shared->Prop} {c:Value} {b:Bool}
end
structure Room (k:Nat) (A:Around):Prop where
 hd:A.handled=none
 dp:A.depth+3*k+5<recursionLimit
 un:A.units+16*k+200<cLine
 gd:A.guards=some []
def Room.mono {j k:Nat} {A:Around} (r:Room k A) (h:j<=k):Room j A:=⟨r.hd,by have:=r.dp;omega,by have:=r.un;omega,r.gd⟩
def Room.deeper {k:Nat} {A:Around} (r:Room (k+1) A) (env:Env):Room k (A.deeper env):=
 ⟨r.hd,by have:=r.dp;show A.depth+1+3*k+5<_;omega,by have:=r.un;show A.units+3+16*k+200<_;omega,r.gd⟩
def Room.in1 {k:Nat} {A:Around} (r:Room (k+1) A):Room k A.in1:=
 ⟨r.hd,by have:=r.dp;show A.depth+3*k+5<_;omega,by have:=r.un;show A.units+1+16*k+200<_;omega,r.gd⟩
def Room.depth {k:Nat} {A:Around} (r:Room k A):A.depth<recursionLimit:=by have:=r.dp;omega
def Room.units {k:Nat} {A:Around} (r:Room k A):A.units+64<cLine:=by have:=r.un;omega
def qro:TA:=λ_ H Q=>Q [] H
def qoL (ta:TE) (tr:TA):TA:=λσ H Q=>ta σ H λx H1=>tr σ H1 λxs H2=>Q (x::xs) H2
section
variable {X:Cx} {e:Expr} {es:List Expr} {te:TE} {t:TA} {pos:Pos}
def qfQ:PA X [] qro:=λ_ _ _ _ H Q I h=>Calls.spliced_nil ⟨[],H,I,.nil,h⟩
def N9 (ha:PE X e te) (hr:PA X es t) (hs:starEach (e::es) X.env=(false,eval e X.env)::starEach es X.env:=by rfl):PA X (e::es) (qoL te t):=by
 intro pos pins s σ H Q I h;rw [hs];show wpAny _ _ (spliced ((false,eval e X.env)::backTo pos (starEach es X.env))) _ _ s;refine Calls.spliced_cons (thn (ha pins s σ H _ I h) λu s1 ⟨x,H1,I1,r1,q1⟩=>?_);exact thn (hr pos pins s1 σ H1 _ I1 q1) λus s2 ⟨xs,H2,I2,r2,q2⟩=>⟨x::xs,H2,I2,.cons r1 r2,q2⟩
def qqY (t:TA):TE:=λσ H Q=>t σ H λxs H1=>xs.length<=sizeLine/\∀ p,H1 p=none->Q (.ref p) (upd H1 p (.tup xs))
def qrs (t:TA):TE:=λσ H Q=>t σ H λxs H1=>xs.length<=sizeLine/\∀ p,H1 p=none->Q (.ref p) (upd H1 p (.lst xs))
def qkY {x1} (h:PA X es t):PE X (.Tuple es x1 pos) (qqY t):=by
 intro pins s σ H Q I hq;refine wpAny_Tuple_spliced (thn (h pos pins s σ H _ I hq) λus s1 ⟨xs,H1,I1,r,z,q⟩=>⟨by rw [← r.length];exact z,?_⟩);have hf:H1 s1.heap.objs.size=none:=I1.hok.fresh (Nat.le_refl _);refine ⟨.ref s1.heap.objs.size,upd H1 s1.heap.objs.size (.tup xs),I1.laid (t':=s1.toks) (λb u e=>Heap.get?_push_of_some _ e) (Nat.le_refl _) ?_,rfl,q _ hf⟩;exact ⟨z,us,r,⟨_,Heap.get?_push_size _ rfl,rfl,_,rfl⟩⟩
def qjK (h:PA X es t):PE X (.List es pos) (qrs t):=by
 intro pins s σ H Q I hq;refine wpAny_List_spliced (thn (h pos pins s σ H _ I hq) λus s1 ⟨xs,H1,I1,r,z,q⟩=>⟨by rw [← r.length];exact z,?_⟩);have hf:H1 s1.heap.objs.size=none:=I1.hok.fresh (Nat.le_refl _);refine ⟨.ref s1.heap.objs.size,upd H1 s1.heap.objs.size (.lst xs),I1.laid (t':=s1.toks) (λb u e=>Heap.get?_push_of_some _ e) (Nat.le_refl _) ?_,rfl,q _ hf⟩;exact ⟨z,us,0,r,Heap.get?_push_size _ rfl⟩
end
abbrev Sp:=List V->Hp->VK->XK->Prop
abbrev CXT:=List Env->Hp->Shared->XK->Value->Shared->Prop
structure Env0 (P:Program) (w:World) (K:Frg) (mg:Str->Option Value) (base:Heap) (A:Around) (outer:List Env) (s:Shared) (H:Hp):Prop where
 frames:A.frames=some outer
 mod:Mod K mg base
 bs:∀ b o,base.get? b=some o->s.heap.get? b=some o/\H b=none
 bsz:base.objs.size<=s.heap.objs.size
 funs:s.heap.FunFrames base outer
 frf:∀ b∈frs outer,H b=none
 hok:HOk P w H s.heap
 bare:AllBare s.gens
def CE (outer:List Env) (P:Program) (w:World) (H:Hp) (s:Shared) (Q:VK) (u:Value) (s':Shared):Prop:=
 ∃ v H',s'.os=s.os/\AllBare s'.gens/\Un (frs outer) [] H H' s.heap s'.heap/\HOk P w H' s'.heap/\jT v u/\Q v H'
def CR (CX:CXT) (outer:List Env) (P:Program) (w:World) (H:Hp) (s:Shared) (Q:VK) (E:XK) (r:Result) (s':Shared):Prop:=
 match r with
 |.ok (.ret u)=>CE outer P w H s Q u s'
 |.ok _=>False
 |.error e=>CX outer H s E e s'
structure FnOk (P:Program) (w:World) (K:Frg) (mg:Str->Option Value) (base:Heap) (CX:CXT) (k:Nat) (f:Addr) (fd:FuncData) (ps:List Str) (sp:Sp):Prop where
 len:∀ vs H Q E,sp vs H Q E->vs.length=ps.length
 run:∀ (A:Around) (outer:List Env) (s:Shared) (H:Hp) (args:Args) (us:List Value) (vs:List V) (Q:VK) (E:XK),Room k A->Env0 P w K mg base A outer s H->BindsTo s fd args (ps.zip us)->jx vs us->sp vs H Q E ->
  codeAny (model P w) A (.call (.ref f) args) (CR CX outer P w H s Q E) s
def FnOk.mono {P:Program} {w:World} {K:Frg} {mg:Str->Option Value} {base:Heap} {CX:CXT} {j k:Nat} {f:Addr} {fd:FuncData} {ps:List Str} {sp:Sp} (F:FnOk P w K mg base CX j f fd ps sp) (h:j<=k) :
  FnOk P w K mg base CX k f fd ps sp:=⟨F.len,λA outer s H args us vs Q E hr=>F.run A outer s H args us vs Q E (hr.mono h)⟩
def Env0.in1 {P:Program} {w:World} {K:Frg} {mg:Str->Option Value} {base:Heap} {A:Around} {outer:List Env} {s:Shared} {H:Hp} (e:Env0 P w K mg base A outer s H) :
  Env0 P w K mg base A.in1 outer s H:=⟨e.frames,e.mod,e.bs,e.bsz,e.funs,e.frf,e.hok,e.bare⟩
section
variable {X:Cx} {pins:List (Addr×Obj)} {σ:St} {H:Hp} {s s':Shared}
def Inv.env0 (I:Inv X pins σ H s):Env0 X.prog X.w X.K X.mg X.base X.A X.stack s H:=
 ⟨I.ok.frames,I.ok.mod,I.bs,Nat.le_trans I.ok.bsz I.sz,I.stack,I.stkFree,I.hok,I.bare⟩
def Inv.after {Q:VK} {u:Value} (I:Inv X pins σ H s) (h:CE X.stack X.prog X.w H s Q u s'):EP X pins σ Q u s':=by
 obtain ⟨v,H',os,bare,un,hok,r,q⟩:=h;obtain ⟨hh,g,d,t,os'⟩:=s';obtain rfl:os'=s.os:=os;exact ⟨v,H',I.call (h':=hh) (g':=g) (d':=d) (t':=t) (ch:=[]) un hok bare (λb z=>absurd z (by simp)),r,q⟩
end
def qpF (sp:Sp) (dvs:List V) (E:XK) (t:TA):TE:=λσ H Q=>t σ H λvs H1=>sp (vs++dvs) H1 Q E
def zi (K:Frg) (fd:FuncData) (ps:List Str) (ds:List Value):Prop:=
 ∀ (s:Shared) (us:List Value),K.In s.heap->(us++ds).length=ps.length->BindsTo s fd ⟨us,[]⟩ (ps.zip (us++ds))
def zi.all {K:Frg} {fd:FuncData} {ps:List Str} (h:∀ us:List Value,us.length=ps.length->bindArgs fd ⟨us,[]⟩=pure (ps.zip us)):zi K fd ps []:=λs us _ hl=>by
 rw [List.append_nil] at hl ⊢;exact .of_eq (h us hl)
def qdr (CX:CXT) (X:Cx) (E:XK):Prop:=∀ (pins:List (Addr×Obj)) (σ:St) (H:Hp) (s:Shared) (e:Value) (s':Shared),Inv X pins σ H s->CX X.stack H s E e s'->X.xe e s'
section
variable {X:Cx} {CX:CXT} {k:Nat} {f C:Addr} {fd:FuncData} {ps:List Str} {sp:Sp} {dvs:List V} {ds:List Value} {E:XK} {x m:Str} {p pos apos:Pos} {e o:Expr} {es:List Expr} {ta:TE} {t:TA}
def qn0 {pins:List (Addr×Obj)} {σ:St} {H:Hp} {s:Shared} {Q:VK} {us:List Value} {vs:List V} (F:FnOk X.prog X.w X.K X.mg X.base CX k f fd ps sp) (hr:Room k X.A) (hb:zi X.K fd ps ds) (hd:jx dvs ds) (hx:qdr CX X E)
  (I:Inv X pins σ H s) (r:jx vs us) (h:sp (vs++dvs) H Q E):wpAny (model X.prog X.w) X.A (call (.ref f) us) (EP X pins σ Q) X.xe s:=by
 have r2:jx (vs++dvs) (us++ds):=r.append hd;have hl:(us++ds).length=ps.length:=by rw [← r2.length];exact F.len _ _ _ _ h
 refine wpAny_call (codeAny_mono (F.run X.A X.stack s H ⟨us,[]⟩ (us++ds) (vs++dvs) Q E hr I.env0 (hb s us I.kIn hl) r2 h) λr s' hq=>?_);cases r with
 |error e=>exact hx pins σ H s e s' I hq
 |ok fl=>
  cases fl with
  |ret u=>exact I.after hq
  |next=>exact False.elim hq
  |brk=>exact False.elim hq
  |cont=>exact False.elim hq
def qh9 (F:FnOk X.prog X.w X.K X.mg X.base CX k f fd ps sp) (hr:Room k X.A) (hg:Gl X x) (hm:X.mg x=some (.ref f)) (hk:PySem.W.keepIn X.K (.ref f)=true) (hb:zi X.K fd ps ds) (hd:jx dvs ds) (hx:qdr CX X E)
  (ha:PA X (e::es) t) (hdb:(x==("__debug__" : Str))=false:=by decide) (he:starEach (e::es) X.env=(false,eval e X.env)::starEach es X.env:=by rfl) (hpl:(backTo pos (starEach es X.env)).any (·.1)=false:=by rfl) :
  PE X (.Call (.Name x p) (e::es) [] pos) (qpF sp dvs E t):=by
 intro pins s σ H Q I h;refine wpAny_Call_Name_kw (qb2 I hg hm ?_ hdb);refine PySem.W.callWith_K (h₀:=X.base) I.ok.mod.kin hk (thn (ha pos pins s σ H _ I h) λus s1 ⟨vs,H1,I1,r,q⟩=>⟨I1.kIn,?_⟩) he hpl;exact qn0 F hr hb hd hx I1 r q
end
section
variable {X:Cx} {CX:CXT} {k:Nat} {f C:Addr} {fd:FuncData} {ps ks:List Str} {sp:Sp} {E:XK} {x m:Str} {p pos apos kpos:Pos} {e o:Expr} {es:List Expr} {kws:List Keyword} {te ta:TE} {t tk:TA} {nm:Option Str}
variable {g:List Value->List Value->List Value} {gV:List V->List V->List V}
end
structure FnScope (N P:List Str) (sc:Scope):Prop where
 kind:sc.kind=.function
 co:sc.isCoroutine=false
 gen:sc.isGenerator=false
 nd:N.Nodup
 pre:N.take P.length=P
 par:∀ x∈P,sc.names.lookup x=some .local\/sc.names.lookup x=some .cell
 nofree:∀ y∈sc.names,y.2≠.free
def LU {kindOf:Str->Option NameKind} {x:Str}:∀ {binds:List (Str×Value)} {m:Str->Option Value},(∀ v,(x,v)∉binds)->bindL kindOf binds m x=m x
 |[],_,_=>rfl
 | (n,v)::r,m,h=>by
  unfold bindL;rw [LU λw hw=>h w (List.mem_cons_of_mem _ hw)];split
  ·have:x≠n:=by rintro rfl;exact h v List.mem_cons_self
   simp [this]
  ·rfl
def LV {kindOf:Str->Option NameKind} {x:Str}:∀ {binds:List (Str×Value)} {m:Str->Option Value},(∀ v,(x,v)∉binds)->bindC kindOf binds m x=m x
 |[],_,_=>rfl
 | (n,v)::r,m,h=>by
  unfold bindC;rw [LV λw hw=>h w (List.mem_cons_of_mem _ hw)];split
  ·rfl
  ·have:x≠n:=by rintro rfl;exact h v List.mem_cons_self
   simp [this]
def K6 {kindOf:Str->Option NameKind} {x:Str} {v:Value}:∀ {P:List Str} {vs:List Value} {i:Nat} {m:Str->Option Value},P.Nodup->P[i]?=some x->vs[i]?=some v->kindOf x=some .local ->
  bindL kindOf (P.zip vs) m x=some v
 |[],_,_,_,_,h,_,_=>by simp at h
 |_::_,[],_,_,_,_,h,_=>by simp at h
 |p::P,w::vs,0,m,nd,h1,h2,hk=>by
  simp at h1 h2;subst h1;subst h2;show bindL kindOf ((p,w)::P.zip vs) m p=_;unfold bindL;rw [LU λv hv=>(List.nodup_cons.mp nd).1 (List.of_mem_zip hv).1,if_pos hk];simp
 |p::P,w::vs,i+1,m,nd,h1,h2,hk=>by
  show bindL kindOf ((p,w)::P.zip vs) m x=_;unfold bindL;exact K6 (i:=i) (List.nodup_cons.mp nd).2 (by simpa using h1) (by simpa using h2) hk
def LO {kindOf:Str->Option NameKind} {x:Str} {v:Value}:∀ {P:List Str} {vs:List Value} {i:Nat} {m:Str->Option Value},P.Nodup->P[i]?=some x->vs[i]?=some v->kindOf x≠some .local ->
  bindC kindOf (P.zip vs) m x=some v
 |[],_,_,_,_,h,_,_=>by simp at h
 |_::_,[],_,_,_,_,h,_=>by simp at h
 |p::P,w::vs,0,m,nd,h1,h2,hk=>by
  simp at h1 h2;subst h1;subst h2;show bindC kindOf ((p,w)::P.zip vs) m p=_;unfold bindC;rw [LV λv hv=>(List.nodup_cons.mp nd).1 (List.of_mem_zip hv).1,if_neg hk];simp
 |p::P,w::vs,i+1,m,nd,h1,h2,hk=>by
  show bindC kindOf ((p,w)::P.zip vs) m x=_;unfold bindC;exact LO (i:=i) (List.nodup_cons.mp nd).2 (by simpa using h1) (by simpa using h2) hk
def RX (N:List Str) (vs:List V):St:=vs.map some++List.replicate (N.length-vs.length) none
def qdE (CX:CXT) (P:Program) (w:World) (K:Frg) (mg:Str->Option Value) (base:Heap) (N:List Str) (qual:Str) (scope:Scope) (f:Addr) (cd:Value) (A:Around) (outer:List Env) (s:Shared) (H:Hp) (E:XK):Cx where
 prog:=P
 w:=w
 K:=K
 mg:=mg
 base:=base
 A:=A.deeper (envOfC qual scope s.heap.objs.size f cd)
 N:=N
 s₀:=s
 H₀:=H
 env:=envOfC qual scope s.heap.objs.size f cd
 outer:=outer
 stack:=envOfC qual scope s.heap.objs.size f cd::outer
 ex:=[]
 calm:=true
 fn:=λ_=>true
 pn:=[]
 xe:=λe s'=>wpAny (model P w) (A.deeper (envOfC qual scope s.heap.objs.size f cd)) (leaving (envOfC qual scope s.heap.objs.size f cd) e) (λ_ s''=>CX outer H s E e s'') (λe' s''=>CX outer H s E e' s'') s'
def qah {sc:Scope} {n:Nat} {x:Str} (h:sc.names.lookup x=some .cell):∃ c,(cellsFrom n sc.names []).lookup x=some c:=by
 have q:=PySem.W.cellsFrom_some sc.names n [] (.inl h);exact Option.isSome_iff_exists.mp q
def qbZ {CX:CXT} {P:Program} {w:World} {K:Frg} {mg:Str->Option Value} {base:Heap} {N ps:List Str} {qual:Str} {scope:Scope} {f:Addr} {cd:Value} {A:Around} {outer:List Env} {s s1:Shared} {H:Hp} {E:XK} {us:List Value} {vs:List V}
  (S:FnScope N ps scope) (hd:A.handled=none) (e0:Env0 P w K mg base A outer s H) (hl:vs.length=ps.length) (r:jx vs us)
  (x:InCallC s s.heap.objs.size (bindL (envOfC qual scope s.heap.objs.size f cd).kindOf (ps.zip us) λ_=>none) (cellsFrom (s.heap.objs.size+1) scope.names []) (bindC (envOfC qual scope s.heap.objs.size f cd).kindOf (ps.zip us) λ_=>none) s1) :
  Inv (qdE CX P w K mg base N qual scope f cd A outer s H E) [] (RX N vs) H s1:=by
 have hpl:ps.length<=N.length:=by have:=congrArg List.length S.pre;rw [List.length_take] at this;omega
 obtain ⟨h1,tk,rfl,hk⟩:=x.done;have noA:∀ b:Addr,b∉(qdE CX P w K mg base N qual scope f cd A outer s H E).ex:=λb z=>absurd (show b∈([]:List Addr) from z) (by simp);refine ⟨⟨e0.mod,S.kind,rfl,rfl,Nat.le_refl _,λy z c h1 h2=>?_,λy hy=>?_,λy c _ h=>?_,λ_=>hd,Around.frames_deeper e0.frames,.inr ⟨rfl,rfl⟩,λb z=>absurd z (noA b),e0.bs,e0.bsz,λb _ _=>noA b,λb z=>absurd z (noA b),e0.funs,e0.frf⟩,
  rfl,e0.bare,Un.kept hk,⟨_,x.toInCall.ns,λi y v h1 h2 h3=>?_⟩,λy c h=>⟨_,x.cell y c h⟩,e0.hok.fresh (Nat.le_refl _),λy c h=>?_,λp hp=>absurd (show p∈([]:List (Addr×Obj)) from hp) (by simp),e0.hok.kept hk,?_⟩
 ·exact name_of_addr x.apart (PySem.mem_of_lookup h1) (PySem.mem_of_lookup h2)
 ·have hy:scope.names.lookup y=some .cell\/scope.names.lookup y=some .free:=hy;rcases hy with hy|hy
  ·exact qah hy
  ·exact absurd rfl (S.nofree _ (PySem.mem_of_lookup hy))
 ·exact Nat.le_of_lt (x.above y c (PySem.mem_of_lookup h))
 ·have hi:i<vs.length:=by
   unfold RX at h2;by_cases hi:i<vs.length
   ·exact hi
   ·rw [List.getElem?_append_right (by simpa using hi)] at h2;rw [List.getElem?_replicate] at h2;split at h2<;>cases h2
  have ha:vs[i]?=some v:=by
   unfold RX at h2;rw [List.getElem?_append_left (by simpa using hi),getElem?_map] at h2;cases e:vs[i]? with
   |none=>rw [e] at h2;cases h2
   |some a=>rw [e] at h2;cases h2;rfl
  obtain ⟨u,hu,rv⟩:=r.get ha;have hp:ps[i]?=some y:=by
   rw [← S.pre,List.getElem?_take_of_lt (by omega)];exact h1
  have ndP:ps.Nodup:=by rw [← S.pre];exact S.nd.sublist (List.take_sublist _ _)
  refine ⟨u,rv,?_⟩;rcases S.par y (mem_of_getElem? hp) with k|k
  ·exact .inl ⟨k,K6 ndP hp hu k⟩
  ·obtain ⟨c,e⟩:=qah (n:=s.heap.objs.size+1) k;refine .inr ⟨.inl k,c,e,?_⟩;have q:=x.cell y c e;rw [LO ndP hp hu (by show scope.names.lookup y≠_;rw [k];decide)] at q;exact q
 ·exact e0.hok.fresh (Nat.le_of_lt (x.above y c (PySem.mem_of_lookup h)))
 ·unfold RX;show _=N.length;rw [length_append,length_map,List.length_replicate];omega
def qoM {CX:CXT} {P:Program} {w:World} {K:Frg} {mg:Str->Option Value} {base:Heap} {k:Nat} {f:Addr} {name qual:Str} {params:Arguments} {body:List Stmt} {scope:Scope} {dV kV doc pm cdv ct oc:Value} {an od:Option Addr}
  {osl:Array (Option Value)} {N ps:List Str} {sp:Sp} (lk:K.lookup f=some ⟨oc,od,.func (PySem.W.fnOf name qual params body scope dV kV doc pm an cdv ct),osl⟩) (hcd:PySem.W.codeIn K cdv qual=true) (S:FnScope N ps scope)
  (len:∀ vs H Q E,sp vs H Q E->vs.length=ps.length)
  (hbody:∀ (A:Around) (outer:List Env) (s:Shared) (H:Hp) (vs:List V) (Q:VK) (E:XK),Room k (A.deeper (envOfC qual scope s.heap.objs.size f cdv))->sp vs H Q E ->
   ∃ t,PSs (qdE CX P w K mg base N qual scope f cdv A outer s H E) body t/\t { nx:=λ_ H'=>Q .non H',rt:=Q } (RX N vs) H) :
  FnOk P w K mg base CX (k+1) f (PySem.W.fnOf name qual params body scope dV kV doc pm an cdv ct) ps sp:=by
 refine ⟨len,λA outer s H args us vs Q E hr e0 hb r hsp=>?_⟩;have hl:=len _ _ _ _ hsp;have KX:K.In s.heap:=e0.mod.kin.keeps λb o e=>(e0.bs b o e).1;have lim:s.heap.NoLimit:=e0.mod.nolimit.keeps λb o e=>(e0.bs b o e).1;have hkind:∀ y∈ps.zip us,scope.names.lookup y.1=some .local\/(scope.names.lookup y.1=some .cell/\((cellsFrom (s.heap.objs.size+1) scope.names []).lookup y.1).isSome=true):=λ⟨n,v⟩ hy=>by
  rcases S.par n (List.of_mem_zip hy).1 with q|q
  ·exact .inl q
  ·exact .inr ⟨q,PySem.W.cellsFrom_some _ _ _ (.inl q)⟩
 refine codeAny_call_function hr.depth (KX _ _ lk) rfl S.co S.gen rfl (PySem.W.codeRec_of KX hcd) (hb _ _ _ _ ?_);refine wpAny_newFunctionEnv_cells S.kind hkind λenv he s1 x=>?_;subst he;refine ⟨lim.keeps x.toInCall.keep,codeAny_func ?_⟩;obtain ⟨t,ht,hq⟩:=hbody A outer s H vs Q E (hr.deeper _) hsp;have I:Inv (qdE CX P w K mg base N qual scope f cdv A outer s H E) [] (RX N vs) H s1:=qbZ S hr.hd e0 hl r x;refine wpAny_mono (ht [] s1 (RX N vs) H _ I hq) (λfl s' hs=>?_) λe s' hs=>hs;have fin:∀ {σ':St} {H':Hp} {v:V} {u:Value},Inv (qdE CX P w K mg base N qual scope f cdv A outer s H E) [] σ' H' s'->jT v u->Q v H'->CE outer P w H s Q u s':=
  λ{σ' H' v u} J rv q=>⟨v,H',J.os,J.bare,J.base,J.hok,rv,q⟩
 cases fl with
 |ret u=>
  obtain ⟨v,σ',H',J,rv,q⟩:=hs;exact fin J rv q
 |next=>
  obtain ⟨σ',H',J,q⟩:=hs;exact fin (v:=V.non) (u:=Value.none) J rfl q
 |brk=>
  obtain ⟨_,_,_,q⟩:=hs;exact False.elim q
 |cont=>
  obtain ⟨_,_,_,q⟩:=hs;exact False.elim q
section
variable {X:Cx} {x:Str} {p pos:Pos} {e:Expr} {es:List Expr} {t:TA} {id T:String} {r:List V->Hp->VK->Prop}
def tCB (r:List V->Hp->VK->Prop) (t:TA):TE:=λσ H Q=>t σ H λvs H1=>r vs H1 Q
def qal (hc:VO X (.builtin id) r) (hg:Gl X x) (hm:X.mg x=none) (hv:bootBuiltins x=some (.builtin id)) (ha:PA X (e::es) t) (hn:x≠"__name__" := by decide) (hdb:(x==("__debug__" : Str))=false:=by decide)
  (he:starEach (e::es) X.env=(false,eval e X.env)::starEach es X.env:=by rfl) (hpl:(backTo pos (starEach es X.env)).any (·.1)=false:=by rfl):PE X (.Call (.Name x p) (e::es) [] pos) (tCB r t):=by
 intro pins s σ H Q I h;refine wpAny_Call_Name_kw (C7 I hg hm hv ?_ hn hdb);exact PyProof.Rows.callWith_builtin1 (thn (ha pos pins s σ H _ I h) λus s1 ⟨vs,H1,I1,r1,q1⟩=>hc pins s1 σ H1 vs us Q I1 r1 q1) he hpl
def qdi (hc:VO X (.type T) r) (hg:Gl X x) (hm:X.mg x=none) (hv:bootBuiltins x=some (.type T)) (ha:PA X (e::es) t) (hn:x≠"__name__" := by decide) (hdb:(x==("__debug__" : Str))=false:=by decide)
  (he:starEach (e::es) X.env=(false,eval e X.env)::starEach es X.env:=by rfl) (hpl:(backTo pos (starEach es X.env)).any (·.1)=false:=by rfl):PE X (.Call (.Name x p) (e::es) [] pos) (tCB r t):=by
 intro pins s σ H Q I h;refine wpAny_Call_Name_kw (C7 I hg hm hv ?_ hn hdb);exact PyProof.Rows.callWith_type1 (thn (ha pos pins s σ H _ I h) λus s1 ⟨vs,H1,I1,r1,q1⟩=>hc pins s1 σ H1 vs us Q I1 r1 q1) he hpl
end
end L2
namespace HT
open PySem PyProof.Rows
section
open PySem.SeqAt
open PySem.MeetsSeq PySem.MeetsSeq2 PySem.MeetsSeq3
end
section
variable {prog:Program} {w:World} {A:Around} {E:Value->Shared->Prop} {s:Shared}
def qhq {t b:Addr} {vs ws:List Value} {Q:Value->Shared->Prop} (ht:IsTup s.heap t vs.toArray) (hb:IsTup s.heap b ws.toArray) (hv:vs≠[])
  (h1:ws=[]->Q (.ref t) s) (h2:ws≠[]->Q (.ref s.heap.objs.size) { s with heap:=s.heap.push { cls:=.type "tuple",data:=.seq (vs++ws).toArray } })
  (hsz:vs.length+ws.length<=sizeLine):wpAny (model prog w) A (binaryOp .Add (.ref t) (.ref b)) Q E s:=by
 obtain ⟨⟨cls,dd,data,sl⟩,ho,hc,n,hd⟩:=id ht;obtain ⟨⟨cls2,dd2,data2,sl2⟩,ho2,hc2,n2,hd2⟩:=id hb;simp only at hc hd hc2 hd2;subst hc hd hc2 hd2;have e:vs.toArray++ws.toArray=(vs++ws).toArray:=by simp
 by_cases hw:ws=[]
 ·exact concat_meets ⟨_,ho,rfl⟩ ⟨_,ho2,rfl⟩ noFill_tuple_add seq_tuple_add PySem.F.slot_tuple_add PySem.F.entry_tuple_add (PySem.F.args_tuple_add_2 _ _)
   (tuple_addW1 t b vs.toArray ws.toArray n n2 dd dd2 sl sl2 (by simpa using hv) (by simp [hw])) ⟨ho,ho2,h1 hw⟩
 ·refine concat_meets ⟨_,ho,rfl⟩ ⟨_,ho2,rfl⟩ noFill_tuple_add seq_tuple_add PySem.F.slot_tuple_add PySem.F.entry_tuple_add (PySem.F.args_tuple_add_2 _ _)
   (tuple_addW2 t b vs.toArray ws.toArray n n2 dd dd2 sl sl2 (by simpa using hv) (by simpa using hw) (by rw [size_toArray,size_toArray];exact hsz)) ⟨ho,ho2,?_⟩
  rw [e];exact h2 hw
def sIx (n d:Nat):Option Int->Nat
 |none=>d
 |some v=>if v<0 then (v+(n:Int)).toNat else min v.toNat n
def qm9 (n d:Nat) (hd:d<=n) (o:Option Int):sIx n d o<=n:=by
 cases o with
 |none=>exact hd
 |some v=>
  show (if v<0 then (v+(n:Int)).toNat else min v.toNat n)<=n;by_cases hv:v<0
  ·rw [if_pos hv];omega
  ·rw [if_neg hv];exact Nat.min_le_right _ _
def qcB (v:Int) (n d:Nat):(if v<0 then max (v+(n:Int)) 0 else min v (n:Int))=((sIx n d (some v):Nat):Int):=by
 show (if v<0 then max (v+(n:Int)) 0 else min v (n:Int))=(((if v<0 then (v+(n:Int)).toNat else min v.toNat n):Nat):Int);by_cases hv:v<0
 ·simp only [if_pos hv];omega
 ·simp only [if_neg hv];omega
def qby (lo hi:Option Int) (n:Nat):Builtin.Slice.sliceAdjust lo hi 1 (n:Int)=(((sIx n 0 lo:Nat):Int),((sIx n n hi:Nat):Int)):=by
 have h1:¬ ((1:Int)<0):=by omega
 unfold Builtin.Slice.sliceAdjust;simp only [h1,if_false];refine Prod.ext ?_ ?_
 ·cases lo with
  |none=>rfl
  |some v=>exact qcB v n 0
 ·cases hi with
  |none=>rfl
  |some v=>exact qcB v n n
def qbm (i j:Nat):Builtin.Slice.slicePlaces (i:Int) (j:Int) 1=j-i:=by
 unfold Builtin.Slice.slicePlaces;have h1:(1:Int) > 0:=by omega
 simp only [h1,if_true,Int.ediv_one];split<;>omega
def SU {v:Value} {o:Option Int} {Q:Option Int->Shared->Prop} (p:IsPart v o) (h:Q o s):wpAny (model prog w) A (Builtin.Slice.slicePartIndex v) Q E s:=by
 cases p with
 |none=>exact slicePart_none h
 |int i t=>exact slicePart_int h
def XW {sl:Addr} {vl vu:Value} {lo hi:Option Int} {n:Nat} {Q:Int×Int×Nat->Shared->Prop} (hs:s.heap.IsSliceOf sl vl vu .none) (pl:IsPart vl lo) (pu:IsPart vu hi)
  (h:Q (((sIx n 0 lo:Nat):Int),1,sIx n n hi-sIx n 0 lo) s):wpAny (model prog w) A (Builtin.Slice.sliceApplied (.ref sl) (pure (n:Int))) Q E s:=by
 obtain ⟨os,hos,hcs,hds⟩:=id hs;unfold Builtin.Slice.sliceApplied Builtin.Slice.sliceFields;refine wpAny_bind (wpAny_bind (wpAny_field hos hds (x:=vl) rfl (wpAny_bind (wpAny_field hos hds (x:=vu) rfl (wpAny_bind (wpAny_field hos hds (x:=.none) rfl (wpAny_pure ?_)))))));refine wpAny_bind (slicePart_none ?_);show wpAny _ _ (if ((1:Int)==0)=true then _ else _) _ _ s;rw [if_neg (by decide)];refine wpAny_bind (SU pl (wpAny_bind (SU pu (wpAny_bind (wpAny_pure ?_)))));show wpAny _ _ (match Builtin.Slice.sliceAdjust lo hi 1 (n:Int) with|(lo,hi)=>pure (lo,(1:Int),Builtin.Slice.slicePlaces lo hi 1)) _ _ s;rw [qby lo hi n];show wpAny _ _ (pure (((sIx n 0 lo:Nat):Int),(1:Int),Builtin.Slice.slicePlaces ((sIx n 0 lo:Nat):Int) ((sIx n n hi:Nat):Int) 1)) _ _ s;rw [qbm];exact wpAny_pure h
def qeG (xs:Array Value) (i k:Nat):((List.range k).filterMap λ(m:Nat)=>xs[((i:Int)+(m:Int)*1).toNat]?).toArray=((xs.toList.drop i).take k).toArray:=by
 have e:(λ(m:Nat)=>xs[((i:Int)+(m:Int)*1).toNat]?)=λm=>xs[i+m]?:=by
  funext m;have:((i:Int)+(m:Int)*1).toNat=i+m:=by omega
  rw [this]
 rw [e];have:=pick_run xs i k;rw [List.filterMap_map] at this;have e2:((λx=>xs[x]?)∘λx=>i+x)=λm=>xs[i+m]?:=rfl;rw [e2] at this;rw [this]
def WL {t sl:Addr} {items:Array Value} {vl vu:Value} {lo hi:Option Int} {Q:Value->Shared->Prop} (ht:IsTup s.heap t items) (hs:s.heap.IsSliceOf sl vl vu .none) (pl:IsPart vl lo) (pu:IsPart vu hi)
  (hw:¬ (sIx items.size 0 lo=0/\sIx items.size items.size hi=items.size))
  (h:Q (.ref s.heap.objs.size) { s with heap:=s.heap.push { cls:=.type "tuple",data:=.seq ((items.toList.drop (sIx items.size 0 lo)).take (sIx items.size items.size hi-sIx items.size 0 lo)).toArray } })
  (hsz:items.size<=sizeLine):wpAny (model prog w) A (getItem (.ref t) (.ref sl)) Q E s:=by
 have htake:sizeOk (.seq ((items.toList.drop (sIx items.size 0 lo)).take (sIx items.size items.size hi-sIx items.size 0 lo)).toArray):=by
  show ((items.toList.drop (sIx items.size 0 lo)).take (sIx items.size items.size hi-sIx items.size 0 lo)).toArray.size<=sizeLine;rw [size_toArray,List.length_take,List.length_drop,Array.length_toList];omega
 have hj:sIx items.size items.size hi<=items.size:=qm9 _ _ (Nat.le_refl _) hi;obtain ⟨os,hos,hcs,hds⟩:=id hs;have hTs:s.TypeIs (.ref sl) "slice" := ⟨os,hos,hcs⟩
 unfold getItem
 try with_reducible refine wpAny_holding ?_
 first|refine wpAny_bind (wpAny_pure ?_)|skip
 refine wpAny_bind (wpAny_sequenceKey ht.typeIs (by decide) ?_);refine wpAny_bind (wpAny_callSpecial?_slot (name:=Str.ofString "__getitem__") ht.typeIs PyProof.Rows.slot_tuple_getitem
  (wpAny_call_entry PyProof.Rows.slot_tuple_getitem ht.typeIs entry_tuple_getitem ?_ (args_tuple_getitem _ _)))
 show wpAny _ _ (Builtin.Tuple.tupleItemsOf (.ref t) >>= _) _ _ s;refine wpAny_bind (tupleItemsOf_ ht ?_);refine wpAny_bind (wpAny_typeOf hTs ?_);rw [if_pos (by decide)];refine wpAny_bind (XW hs pl pu ?_);have hno:¬ ((((sIx items.size 0 lo:Nat):Int)==0&&(1:Int)==1&&(sIx items.size items.size hi-sIx items.size 0 lo)==items.size)=true):=by
  intro q;rw [Bool.and_eq_true,Bool.and_eq_true] at q;have q1:((sIx items.size 0 lo:Nat):Int)=0:=eq_of_beq q.1.1;have q2:sIx items.size items.size hi-sIx items.size 0 lo=items.size:=eq_of_beq q.2;exact hw ⟨by omega,by omega⟩
 show wpAny _ _ (if (((sIx items.size 0 lo:Nat):Int)==0&&(1:Int)==1&&(sIx items.size items.size hi-sIx items.size 0 lo)==items.size)=true then _ else _) _ _ s;rw [if_neg hno,qeG]
 first
  |exact wpAny_bind (m:=Builtin.Tuple.tupleExact _) (wpAny_newObj_type (wpAny_pure ⟨_,rfl,wpAny_pure h⟩) htake)
  |exact wpAny_bind (m:=Builtin.Tuple.tupleExact _) (wpAny_newObj_type (wpAny_bind (wpAny_pure (wpAny_pure ⟨_,rfl,wpAny_pure h⟩))) htake)
  |exact wpAny_bind (wpAny_bind (m:=Builtin.Tuple.tupleExact _) (wpAny_newObj_type (wpAny_pure (wpAny_pure ⟨_,rfl,wpAny_pure h⟩)) htake))
  |exact wpAny_bind (wpAny_bind (m:=Builtin.Tuple.tupleExact _) (wpAny_newObj_type (wpAny_pure ⟨_,rfl,wpAny_pure h⟩) htake))
end
end HT
namespace L2
open PySem PySem.Spec PyProof.Rows
abbrev TO:=St->Hp->(Option Int->Hp->Prop)->Prop
def PO (X:Cx) (e:Option Expr) (t:TO):Prop:=
 ∀ (pins:List (Addr×Obj)) (s:Shared) (σ:St) (H:Hp) (Q:Option Int->Hp->Prop),Inv X pins σ H s->t σ H Q ->
  wpAny (model X.prog X.w) X.A (evalPart e X.env) (λu s'=>∃ o H',Inv X pins σ H' s'/\IsPart u o/\Q o H') X.xe s
def qpv (t:TE):TO:=λσ H Q=>t σ H λx H1=>∃ i,x=.int i/\Q (some i) H1
section
variable {X:Cx} {e:Expr} {te:TE} {lo hi:Option Expr} {tl th:TO} {pos p2:Pos}
def qhJ (h:PE X e te):PO X (some e) (qpv te):=by
 intro pins s σ H Q I hw;rw [evalPart_some];refine thn (h pins s σ H _ I hw) λu s1 ⟨x,H1,I1,r1,q1⟩=>?_;obtain ⟨i,rfl,q⟩:=q1;obtain ⟨t,rfl⟩:=r1;exact ⟨some i,H1,I1,.int i t,q⟩
def SlR (X:Cx) (r:V->Option Int->Option Int->Hp->VK->Prop):Prop:=
 ∀ (pins:List (Addr×Obj)) (s:Shared) (σ:St) (H:Hp) (x:V) (v vl vu:Value) (lo hi:Option Int) (sl:Addr) (Q:VK),Inv X pins σ H s->jT x v->s.heap.IsSliceOf sl vl vu .none->IsPart vl lo->IsPart vu hi->r x lo hi H Q ->
  ∃ T id,typeLookup (.type T) "__getitem__" = pure (some (.builtin id))/\s.TypeIs v T/\wpAny (model X.prog X.w) X.A (getItem v (.ref sl)) (EP X pins σ Q) X.xe s
def SlR.or {r r':V->Option Int->Option Int->Hp->VK->Prop} (h:SlR X r) (h':SlR X r'):SlR X (λx lo hi H Q=>r x lo hi H Q\/r' x lo hi H Q):=by
 intro pins s σ H x v vl vu lo hi sl Q I rx hs pl pu q;rcases q with q|q
 ·exact h pins s σ H x v vl vu lo hi sl Q I rx hs pl pu q
 ·exact h' pins s σ H x v vl vu lo hi sl Q I rx hs pl pu q
def tSl (r:V->Option Int->Option Int->Hp->VK->Prop) (te:TE) (tl th:TO):TE:=λσ H Q=>te σ H λx H1=>tl σ H1 λl H2=>th σ H2 λu H3=>r x l u H3 Q
def qen {r:V->Option Int->Option Int->Hp->VK->Prop} (hr:SlR X r) (he:PE X e te) (hl:PO X lo tl) (hu:PO X hi th):PE X (.Subscript e (.Slice lo hi none p2) pos) (tSl r te tl th):=by
 intro pins s σ H Q I h;refine Subscript_ (thn (he pins s σ H _ I h) λv s1 ⟨x,H1,I1,r1,q1⟩=>?_);refine wpAny_Slice (thn (hl pins s1 σ H1 _ I1 q1) λvl s2 ⟨l,H2,I2,pl,q2⟩=>thn (hu pins s2 σ H2 _ I2 q2) λvu s3 ⟨u,H3,I3,pu,q3⟩=>?_);rw [evalPart_none];refine wpAny_pure ?_;have I4:Inv X pins σ H3 { s3 with heap:=s3.heap.push { cls:=.type "slice",data:=.fields #[vl,vu,.none] } }:=I3.kept (t':=s3.toks) λb ob q=>Heap.get?_push_of_some _ q;obtain ⟨T,id,hT,ht,hg⟩:=hr pins { s3 with heap:=s3.heap.push { cls:=.type "slice",data:=.fields #[vl,vu,.none] } } σ H3 x v vl vu l u s3.heap.objs.size Q I4 r1 (Heap.IsSliceOf.new ..) pl pu q3;show wpAny (model X.prog X.w) X.A (subscriptTail e (.Slice lo hi none p2) v (.ref s3.heap.objs.size)) (EP X pins σ Q) X.xe { s3 with heap:=s3.heap.push { cls:=.type "slice",data:=.fields #[vl,vu,.none] } };exact tail_any (ops:=[.ref s3.heap.objs.size,v]) ht hT hg (by with_unfolding_all rfl)
def qgg (xs:List V) (lo hi:Option Int):List V:=(xs.drop (HT.sIx xs.length 0 lo)).take (HT.sIx xs.length xs.length hi-HT.sIx xs.length 0 lo)
def RQ (xs:List V) (lo hi:Option Int):(qgg xs lo hi).length<=xs.length:=by
 unfold qgg;rw [List.length_take,List.length_drop];omega
def qrh (K:Frg):V->Option Int->Option Int->Hp->VK->Prop:=λx lo hi H Q=>∃ a xs,x=.ref a/\SqT K H a xs /\
 ¬ (HT.sIx xs.length 0 lo=0/\HT.sIx xs.length xs.length hi=xs.length)/\∀ p,H p=none->Q (.ref p) (upd H p (.tup (qgg xs lo hi)))
def qnZ:SlR X (qrh X.K):=by
 intro pins s σ H x v vl vu lo hi sl Q I rx hs pl pu h;obtain ⟨a,xs,rfl,hx,hw,q⟩:=h;cases rx;obtain ⟨its,r,ht,hz⟩:=I.tuple hx;have hlen:its.toArray.size=xs.length:=by rw [size_toArray];exact r.length.symm
 refine ⟨"tuple",_,PyProof.Rows.slot_tuple_getitem.lookup,ht.typeIs,?_⟩;refine HT.WL ht hs pl pu (by rw [hlen];exact hw) ?_ (by rw [hlen];exact hz);rw [hlen];refine ⟨.ref s.heap.objs.size,_,I.laid (t':=s.toks) (o:=.tup (qgg xs lo hi)) (λb ob q=>Heap.get?_push_of_some _ q) (Nat.le_refl _) ?_,rfl,q _ (I.hok.fresh (Nat.le_refl _))⟩;exact ⟨Nat.le_trans (RQ xs lo hi) hz,_,(r.drop (HT.sIx xs.length 0 lo)).take (HT.sIx xs.length xs.length hi-HT.sIx xs.length 0 lo),IsTup.new _ _⟩
def qmy (K:Frg):R2:=λx y H Q=>∃ a b xs ys,x=.ref a/\y=.ref b/\SqT K H a xs/\SqT K H b ys/\xs≠[]/\xs.length+ys.length<=sizeLine /\
 (ys=[]->Q (.ref a) H)/\(ys≠[]->∀ p,H p=none->Q (.ref p) (upd H p (.tup (xs++ys))))
def jx.nil_iff {xs:List V} {us:List Value} (r:jx xs us):us=[]↔xs=[]:=by
 cases r with
 |nil=>simp
 |cons _ _=>simp
def qhK:OpR X (binaryOp .Add) (qmy X.K):=by
 intro pins s σ H x y v u Q I rx ry h;obtain ⟨a,b,xs,ys,rfl,rfl,ha,hb,hx,hz,q1,q2⟩:=h;cases rx;cases ry;obtain ⟨its,r1,p1,_⟩:=I.tuple ha;obtain ⟨its2,r2,p2,_⟩:=I.tuple hb;refine HT.qhq p1 p2 (λz=>hx (r1.nil_iff.mp z)) (λz=>⟨.ref a,H,I,rfl,q1 (r2.nil_iff.mp z)⟩) (λz=>?_) (by rw [← r1.length,← r2.length];exact hz);refine ⟨.ref s.heap.objs.size,_,I.laid (t':=s.toks) (o:=.tup (xs++ys)) (λb ob q=>Heap.get?_push_of_some _ q) (Nat.le_refl _) ?_,rfl,q2 (λw=>z (r2.nil_iff.mpr w)) _ (I.hok.fresh (Nat.le_refl _))⟩;exact ⟨by rw [length_append];exact hz,_,r1.append r2,IsTup.new _ _⟩
end
def ixN (n:Nat) (i:Int):Option Nat:=if 0<=i then (if i<n then some i.toNat else none) else if -(n:Int)<=i then some (i+n).toNat else none
def atI {α:Type} (xs:List α) (i:Int):Option α:=(ixN xs.length i).bind λj=>xs[j]?
def qbP {n:Nat} {i:Int} {j:Nat} (h:ixN n i=some j):seqIndex? i n=some j/\j<n/\-(n:Int)<=i/\i<n:=by
 unfold ixN at h;by_cases h0:0<=i
 ·rw [if_pos h0] at h;by_cases h1:i<n
  ·rw [if_pos h1] at h;have e:i.toNat=j:=Option.some.inj h;exact ⟨by rw [seqIndex_of h0 h1,e],by omega,by omega,h1⟩
  ·rw [if_neg h1] at h;cases h
 ·rw [if_neg h0] at h;by_cases h1:-(n:Int)<=i
  ·rw [if_pos h1] at h;have e:(i+n).toNat=j:=Option.some.inj h;exact ⟨by rw [seqIndex_neg (by omega) h1,e],by omega,h1,by omega⟩
  ·rw [if_neg h1] at h;cases h
def NX {α:Type} {xs:List α} {i:Int} {v:α} (h:atI xs i=some v):∃ j,seqIndex? i xs.length=some j/\xs[j]?=some v/\j<xs.length/\-(xs.length:Int)<=i/\i<xs.length:=by
 unfold atI at h;cases e:ixN xs.length i with
 |none=>rw [e] at h;cases h
 |some j=>
  rw [e] at h;obtain ⟨h1,h2,h3,h4⟩:=qbP e;exact ⟨j,h1,h,h2,h3,h4⟩
def XC (b:Expr):Prop:=∀ o i,subscripted b false o i=operate [o,i] (getItem o i)
def IxR (X:Cx) (r:R2):Prop:=
 ∀ (value slice:Expr) (pins:List (Addr×Obj)) (s:Shared) (σ:St) (H:Hp) (x y:V) (v u:Value) (Q:VK),Inv X pins σ H s->jT x v->jT y u->r x y H Q ->
  subscripted slice false v u=operate [v,u] (getItem v u)->wpAny (model X.prog X.w) X.A (subscriptTail value slice v u) (EP X pins σ Q) X.xe s
def MtR (X:Cx) (id:String) (r:V->List V->Hp->VK->Prop):Prop:=
 ∀ (pins:List (Addr×Obj)) (s:Shared) (σ:St) (H:Hp) (x:V) (xs:List V) (v:Value) (us:List Value) (Q:VK),Inv X pins σ H s->jT x v->jx xs us->r x xs H Q ->
  wpAny (model X.prog X.w) X.A (call (.builtin id) (v::us)) (EP X pins σ Q) X.xe s
section
variable {X:Cx} {a b:Expr} {ta tb:TE} {pos:Pos}
def IxR.or {r r':R2} (h:IxR X r) (h':IxR X r'):IxR X (λx y H Q=>r x y H Q\/r' x y H Q):=by
 intro value slice pins s σ H x y v u Q I rx ry q hs;rcases q with q|q
 ·exact h value slice pins s σ H x y v u Q I rx ry q hs
 ·exact h' value slice pins s σ H x y v u Q I rx ry q hs
def ql5 {r:R2} (hr:IxR X r) (ha:PE X a ta) (hb:PE X b tb) (hs:XC b):PE X (.Subscript a b pos) (tOp r ta tb):=by
 intro pins s σ H Q I h;exact Subscript_ (qow ha hb I h λv u s2 x y H2 I2 rx ry q=>hr a b pins s2 σ H2 x y v u Q I2 rx ry q (hs _ _))
def qqC (K:Frg):R2:=λx y H Q=>∃ p xs i v,x=.ref p/\y=.int i/\SqL K H p xs/\atI xs i=some v/\Q v H
def qqg (K:Frg):R2:=λx y H Q=>∃ p xs i v,x=.ref p/\y=.int i/\SqT K H p xs/\atI xs i=some v/\Q v H
def qqw:R2:=λx y H Q=>∃ z i c,x=.str z/\y=.int i/\z.length<=sizeLine/\atI z.cps.toList i=some c/\Q (.str ⟨#[c]⟩) H
def qhv:IxR X (qqC X.K):=by
 intro value slice pins s σ H x y v u Q I rx ry h hs;obtain ⟨p,xs,i,z,rfl,rfl,hq,he,q⟩:=h;cases rx;obtain ⟨t,rfl⟩:=ry;obtain ⟨its,r,pl,hz⟩:=I.list hq;obtain ⟨j,h1,h2,h3,h4,h5⟩:=NX he;obtain ⟨w,ew,rw'⟩:=r.get h2;have hl:=r.length;have hn:=MY;have fin:EP X pins σ Q w s:=⟨z,H,I,rw',q⟩
 by_cases h0:0<=i
 ·have hj:i.toNat=j:=by
   rw [seqIndex_of h0 h5] at h1;exact Option.some.inj h1
  exact item_listR pl.isList h0 (by omega) (by rw [hj];simpa using ew) fin hs
 ·have hj:(i+(its.toArray.size:Int)).toNat=j:=by
   rw [seqIndex_neg (by omega) h4] at h1;rw [size_toArray,← hl];exact Option.some.inj h1
  exact subscriptTail_builtinR (x:=w) pl.isList.typeIs slot_list_getitem.lookup
   (wpAny_getItem_list_neg (Q:=λr s'=>r=w/\EP X pins σ Q r s') pl.isList (by omega) (by rw [size_toArray]<;>omega) (by omega) (by rw [hj];simpa using ew) ⟨rfl,fin⟩) hs
def qlZ:IxR X (qqg X.K):=by
 intro value slice pins s σ H x y v u Q I rx ry h hs;obtain ⟨p,xs,i,z,rfl,rfl,hq,he,q⟩:=h;cases rx;obtain ⟨t,rfl⟩:=ry;obtain ⟨its,r,pl,hz⟩:=I.tuple hq;obtain ⟨j,h1,h2,h3,h4,h5⟩:=NX he;obtain ⟨w,ew,rw'⟩:=r.get h2;have hl:=r.length;have hn:=MY;have fin:EP X pins σ Q w s:=⟨z,H,I,rw',q⟩
 exact subscriptTail_builtinR (x:=w) pl.typeIs slot_tuple_getitem.lookup
  (getItem_tuple (j:=j) (Q:=λr s'=>r=w/\EP X pins σ Q r s') pl (by omega) (by omega) (by rw [size_toArray,← hl];exact h1) (by simpa using ew) ⟨rfl,fin⟩) hs
def qn3:IxR X qqw:=by
 intro value slice pins s σ H x y v u Q I rx ry h hs;obtain ⟨z,i,c,rfl,rfl,hz,he,q⟩:=h;obtain ⟨t,rfl⟩:=rx;obtain ⟨t',rfl⟩:=ry;obtain ⟨j,h1,h2,h3,h4,h5⟩:=NX he;have hl:z.cps.toList.length=z.length:=by simp [Str.length]
 rw [hl] at h1 h4 h5;have hn:=MY;exact tail_any (typeIs_str s z t) slot_str_getitem.lookup (getItem_str (c:=c) (by
  have e1:decide (i < -(2 ^ 63:Int))=false:=decide_eq_false (by omega);have e2:decide (i ≥ 2 ^ 63)=false:=decide_eq_false (by omega);rw [e1,e2,Bool.or_false]) (by rw [h1];simpa using h2) ⟨.str ⟨#[c]⟩,H,I.tok _,⟨_,rfl⟩,q⟩) hs
def rIx (K:Frg):R2:=λx y H Q=>qqC K x y H Q\/qqg K x y H Q\/qqw x y H Q
def qmw:IxR X (rIx X.K):=qhv.or (qlZ.or qn3)
def qbx (its:List Value) (n j:Nat) (u:Value):Obj.mapSeq (·.setIfInBounds j u) { cls:=.type "list",data:=.seq its.toArray n }={ cls:=.type "list",data:=.seq (its.set j u).toArray n }:=by
 simp [Obj.mapSeq]
def Inv.lst {pins:List (Addr×Obj)} {σ:St} {H:Hp} {s:Shared} {p:Addr} {xs:List V} (I:Inv X pins σ H s) (h:H p=some (.lst xs)) :
  ∃ (its:List Value) (n:Nat),jx xs its/\s.heap.get? p=some { cls:=.type "list",data:=.seq its.toArray n }/\xs.length<=sizeLine:=by
 obtain ⟨z,its,n,r,e⟩:=I.hok p _ h;exact ⟨its,n,r,e,z⟩
def Inv.lstUpd {pins:List (Addr×Obj)} {σ:St} {H:Hp} {s:Shared} {p:Addr} {xs ys:List V} {its its':List Value} {n n':Nat} {f:Obj->Obj} (I:Inv X pins σ H s) (h:H p=some (.lst xs))
  (ho:s.heap.get? p=some { cls:=.type "list",data:=.seq its.toArray n }) (hf:f { cls:=.type "list",data:=.seq its.toArray n }={ cls:=.type "list",data:=.seq its'.toArray n' }) (r:jx ys its') (hz:ys.length<=sizeLine) (t:Nat) :
  Inv X pins σ (upd H p (.lst ys)) { s with heap:=s.heap.update p f,toks:=t }:=by
 have e:(s.heap.update p f).get? p=some { cls:=.type "list",data:=.seq its'.toArray n' }:=by
  rw [Heap.get?_update_self f ho (by rw [hf]<;>rfl),hf]
 refine I.write (x:=p) (e:=p) (by rw [h];trivial) (.inl rfl) (λb u hb q=>(Heap.get?_update_other _ _ (Ne.symm hb)).trans q) ⟨_,e⟩ ?_;exact ⟨hz,its',n',r,e⟩
def qo3:V->V->V->Hp->(Hp->Prop)->Prop:=λo i v H Q=>∃ p xs k j,o=.ref p/\i=.int k/\H p=some (.lst xs)/\ixN xs.length k=some j/\Q (upd H p (.lst (xs.set j v)))
def qdU:qqp X qo3:=by
 intro pins s σ H o i v ov iv u Q I ro ri rv h;obtain ⟨p,xs,k,j,rfl,rfl,hp,hj,q⟩:=h;cases ro;obtain ⟨t,rfl⟩:=ri;obtain ⟨its,n,r,ho,hz⟩:=I.lst hp;obtain ⟨h1,h2,h3,h4⟩:=qbP hj;have hl:=r.length;have hn:=MY;have I':Inv X pins σ (upd H p (.lst (xs.set j v))) { s with heap:=s.heap.update p (Obj.mapSeq (·.setIfInBounds j u)) }:=
  I.lstUpd hp ho (qbx its n j u) (r.set rv j) (by rw [List.length_set];exact hz) s.toks
 by_cases h0:0<=k
 ·have hk:k.toNat=j:=by
   rw [seqIndex_of h0 h4] at h1;exact Option.some.inj h1
  exact PySem.W.ki_setAt ho h0 (by omega) (by rw [size_toArray,← hl];exact h4) (by rw [hk];exact ⟨_,I',q⟩)
 ·have hk:(k+(its.toArray.size:Int)).toNat=j:=by
   rw [seqIndex_neg (by omega) h3] at h1;rw [size_toArray,← hl];exact Option.some.inj h1
  exact PySem.W.ki_setBack ho (by omega) (by rw [size_toArray,← hl];exact h3) (by omega) (by rw [hk];exact ⟨_,I',q⟩)
def LS (lo hi:Option Int) (n:Nat):(sliceBounds lo hi none n).1=((HT.sIx n 0 lo:Nat):Int)/\(sliceBounds lo hi none n).2.1=((HT.sIx n n hi:Nat):Int)/\(sliceBounds lo hi none n).2.2=1:=by
 refine ⟨?_,?_,rfl⟩
 ·cases lo with
  |none=>simp [sliceBounds,HT.sIx]
  |some i=>
   simp only [sliceBounds,HT.sIx,Option.getD_none,show (1:Int) > 0 by decide,if_true];by_cases h:i<0
   ·simp only [h,if_true]<;>omega
   ·simp only [h,if_false]<;>omega
 ·cases hi with
  |none=>simp [sliceBounds,HT.sIx]
  |some i=>
   simp only [sliceBounds,HT.sIx,Option.getD_none,show (1:Int) > 0 by decide,if_true];by_cases h:i<0
   ·simp only [h,if_true]<;>omega
   ·simp only [h,if_false]<;>omega
def TH (its:List Value) (lo hi:Option Int):slicePick its.toArray lo hi none=((its.drop (HT.sIx its.length 0 lo)).take (HT.sIx its.length its.length hi-HT.sIx its.length 0 lo)).toArray:=by
 obtain ⟨h1,h2,h3⟩:=LS lo hi its.toArray.size;unfold slicePick;rw [h1,h2,h3];simp only [sliceRange_one,pick_run,size_toArray]<;>rfl
def qrc (K:Frg):V->Option Int->Option Int->Hp->VK->Prop:=λx lo hi H Q=>∃ a xs,x=.ref a/\SqL K H a xs/\∀ p,H p=none->Q (.ref p) (upd H p (.lst (qgg xs lo hi)))
def qh0:SlR X (qrc X.K):=by
 intro pins s σ H x v vl vu lo hi sl Q I rx hs pl pu h;obtain ⟨a,xs,rfl,hx,q⟩:=h;cases rx;obtain ⟨its,r,ht,hz⟩:=I.list hx;have hlen:=r.length;refine ⟨"list",_,slot_list_getitem.lookup,ht.isList.typeIs,?_⟩;refine wpAny_getItem_list_slice ht.isList hs pl pu .none (by simp) ?_ (by rw [size_toArray]<;>omega);rw [TH,← hlen];refine ⟨.ref s.heap.objs.size,_,I.laid (t':=s.toks) (o:=.lst (qgg xs lo hi)) (λb ob q=>Heap.get?_push_of_some _ q) (Nat.le_refl _) ?_,rfl,q _ (I.hok.fresh (Nat.le_refl _))⟩;exact ⟨Nat.le_trans (RQ xs lo hi) hz,_,0,(r.drop (HT.sIx xs.length 0 lo)).take (HT.sIx xs.length xs.length hi-HT.sIx xs.length 0 lo),Heap.get?_push_size _ rfl⟩
def R4:V->Bool
 |.non=>true
 |.bl _=>true
 |.int _=>true
 |.str _=>true
 |_=>false
def eqV:V->V->Bool
 |.non,.non=>true
 |.bl a,.bl b=>a==b
 |.bl a,.int b=>(if a then 1 else 0)==b
 |.int a,.bl b=>a==(if b then 1 else 0)
 |.int a,.int b=>a==b
 |.str a,.str b=>a==b
 |_,_=>false
def qnc {A:Around} {s:Shared} {y x:V} {u v:Value} (ry:jT y u) (rx:jT x v) (fy:R4 y=true) (fx:R4 x=true):SeqAt.EqAt A s u v (eqV y x):=by
 cases y with
 |non=>
  cases ry;cases x with
  |non=>cases rx;exact SeqAt.EqAt.same _
  |bl b=>cases rx;exact SeqAt.EqAt.none_bool b
  |int b=>obtain ⟨t,rfl⟩:=rx;exact SeqAt.EqAt.none_int b t
  |str b=>obtain ⟨t,rfl⟩:=rx;exact SeqAt.EqAt.none_str b t
  |_=>exact absurd (show false=true from fx) Bool.false_ne_true
 |bl a=>
  cases ry;cases x with
  |non=>cases rx;exact SeqAt.EqAt.bool_none a
  |bl b=>cases rx;exact SeqAt.EqAt.bool_bool a b
  |int b=>obtain ⟨t,rfl⟩:=rx;exact SeqAt.EqAt.bool_int a b t
  |str b=>obtain ⟨t,rfl⟩:=rx;exact SeqAt.EqAt.bool_str a b t
  |_=>exact absurd (show false=true from fx) Bool.false_ne_true
 |int a=>
  obtain ⟨t',rfl⟩:=ry;cases x with
  |non=>cases rx;exact SeqAt.EqAt.int_none a t'
  |bl b=>cases rx;exact SeqAt.EqAt.int_bool a t' b
  |int b=>obtain ⟨t,rfl⟩:=rx;exact SeqAt.EqAt.int_int a t' b t
  |str b=>obtain ⟨t,rfl⟩:=rx;exact SeqAt.EqAt.int_str a t' b t
  |_=>exact absurd (show false=true from fx) Bool.false_ne_true
 |str a=>
  obtain ⟨t',rfl⟩:=ry;cases x with
  |non=>cases rx;exact SeqAt.EqAt.str_none a t'
  |bl b=>cases rx;exact SeqAt.EqAt.str_bool a t' b
  |int b=>obtain ⟨t,rfl⟩:=rx;exact SeqAt.EqAt.str_int a t' b t
  |str b=>obtain ⟨t,rfl⟩:=rx;exact SeqAt.EqAt.str_str a t' b t
  |_=>exact absurd (show false=true from fx) Bool.false_ne_true
 |_=>exact absurd (show false=true from fy) Bool.false_ne_true
def eqU (x:V) (u:Value):Bool:=match u with
 |.none=>eqV .non x
 |.bool b=>eqV (.bl b) x
 |.int i _=>eqV (.int i) x
 |.str z _=>eqV (.str z) x
 |_=>false
def qgy {x y:V} {u:Value} (r:jT y u) (f:R4 y=true):eqU x u=eqV y x:=by
 cases y with
 |non=>cases r;rfl
 |bl b=>cases r;rfl
 |int i=>obtain ⟨t,rfl⟩:=r;rfl
 |str z=>obtain ⟨t,rfl⟩:=r;rfl
 |_=>exact absurd (show false=true from f) Bool.false_ne_true
def NI {x:V}:∀ {xs:List V} {us:List Value},jx xs us->xs.all R4=true->us.any (eqU x)=xs.any λy=>eqV y x
 |_,_,.nil,_=>rfl
 |y::xs,u::us,.cons r t,f=>by
  rw [List.all_cons,Bool.and_eq_true] at f;rw [List.any_cons,List.any_cons,qgy r f.1,NI t f.2]
def T6 {A:Around} {s:Shared} {x:V} {v:Value} (rx:jT x v) (fx:R4 x=true):∀ {xs:List V} {us:List Value},jx xs us->xs.all R4=true->∀ u∈us,SeqAt.EqAt A s u v (eqU x u)
 |_,_,.nil,_=>λu hu=>by cases hu
 |y::xs,u::us,.cons r t,f=>λu' hu=>by
  rw [List.all_cons,Bool.and_eq_true] at f;rcases mem_cons.mp hu with rfl|hu
  ·rw [qgy r f.1];exact qnc r rx f.1 fx
  ·exact T6 rx fx t f.2 u' hu
def inV (x:V) (xs:List V):Bool:=xs.any λy=>eqV y x
def rIn (K:Frg) (neg:Bool):R2:=λx y H Q=>∃ p xs,y=.ref p/\(SqL K H p xs\/SqT K H p xs)/\R4 x=true/\xs.all R4=true/\Q (.bl (if neg then !inV x xs else inV x xs)) H
def qdx:OpR X (compareOp .In) (rIn X.K false):=by
 intro pins s σ H x y v u Q I rx ry h;obtain ⟨p,xs,rfl,hq,fx,fs,q⟩:=h;cases ry;rcases hq with hq|hq
 ·obtain ⟨its,r,pl,hz⟩:=I.list hq;refine SeqAt.in_listAt (eqU x) pl.isList (λw hw=>T6 rx fx r fs w (by simpa using hw)) ⟨.bl _,H,I,rfl,?_⟩;rw [show its.toArray.any (eqU x)=its.any (eqU x) by simp,NI r fs];exact q
 ·obtain ⟨its,r,pl,hz⟩:=I.tuple hq;refine SeqAt.in_tupleAt (eqU x) pl (λw hw=>T6 rx fx r fs w (by simpa using hw)) ⟨.bl _,H,I,rfl,?_⟩;rw [show its.toArray.any (eqU x)=its.any (eqU x) by simp,NI r fs];exact q
def XF:VO X (.type "list") (λxs H Q=>∃ p ys,xs=[.ref p]/\(SqL X.K H p ys\/SqT X.K H p ys)/\∀ l,H l=none->Q (.ref l) (upd H l (.lst ys))):=by
 intro pins s σ H xs us Q I r h;obtain ⟨p,ys,rfl,hq,q⟩:=h;obtain ⟨u,rfl,rx⟩:=C2 r;cases rx;have fin:∀ (its:List Value),jx ys its->ys.length<=sizeLine->∀ (h':Heap) (c':Nat),(∀ b o',s.heap.get? b=some o'->h'.get? b=some o') ->
   h'.get? s.heap.objs.size=some { cls:=.type "list",dict:=none,data:=.seq its.toArray c',slots:=#[] }->EP X pins σ Q (.ref s.heap.objs.size) { s with heap:=h' }:=λits r' hz h' c' kp e=>
  ⟨.ref s.heap.objs.size,_,I.laid (t':=s.toks) kp (Nat.le_refl _) (show D9 X.prog X.w _ h' _ (.lst ys) from ⟨hz,its,c',r',e⟩),rfl,q _ (I.hok.fresh (Nat.le_refl _))⟩
 rcases hq with hq|hq
 ·obtain ⟨its,r',pl,hz⟩:=I.list hq;have hlen:=r'.length;obtain ⟨o,ho,hc,n,hd⟩:=pl.isList;exact call_list_seq p (.inl rfl) ho hc hd (λh' c' kp e=>fin its r' hz h' c' kp e) (by simp only [size_toArray]<;>omega)
 ·obtain ⟨its,r',pl,hz⟩:=I.tuple hq;have hlen:=r'.length;obtain ⟨o,ho,hc,n,hd⟩:=pl;exact call_list_seq p (.inr rfl) ho hc hd (λh' c' kp e=>fin its r' hz h' c' kp e) (by simp only [size_toArray]<;>omega)
def zD:VO X (.type "tuple") (λxs H Q=>∃ p ys,xs=[.ref p]/\((SqL X.K H p ys/\∀ l,H l=none->Q (.ref l) (upd H l (.tup ys)))\/(SqT X.K H p ys/\Q (.ref p) H))):=by
 intro pins s σ H xs us Q I r h;obtain ⟨p,ys,rfl,h⟩:=h;obtain ⟨u,rfl,rx⟩:=C2 r;cases rx;rcases h with ⟨hq,q⟩|⟨hq,q⟩
 ·obtain ⟨its,r',pl,hz⟩:=I.list hq;have hlen:=r'.length;refine call_tuple_list pl.isList (λh' kp=>?_) (by simp only [size_toArray]<;>omega);have I1:Inv X pins σ H { s with heap:=h' }:=I.kept (t':=s.toks) kp;have I2:Inv X pins σ (upd H h'.objs.size (.tup ys)) { s with heap:=h'.push { cls:=.type "tuple",data:=.seq its.toArray } }:=
   I1.laid (t':=s.toks) (λb o e=>Heap.get?_push_of_some _ e) (Nat.le_refl _) (show D9 X.prog X.w _ _ _ (.tup ys) from ⟨hz,its,r',IsTup.new _ _⟩)
  exact ⟨.ref h'.objs.size,_,I2,rfl,q _ (I1.hok.fresh (Nat.le_refl _))⟩
 ·obtain ⟨its,r',pl,hz⟩:=I.tuple hq;exact call_tuple_same pl ⟨.ref p,H,I,rfl,q⟩
def tyV (K:Frg) (T:String) (x:V) (H:Hp):Prop:=match x with
 |.str _=>T="str"
 |.int _=>T="int"
 |.ref p=>(T="list"/\∃ xs,SqL K H p xs)\/(T="tuple"/\∃ o,K.lookup p=some o/\o.cls=.type "tuple"/\o.dict=none) ∨
   (T="dict"/\((∃ kvs,H p=some (.dK kvs))\/∃ kvs,H p=some (.dT kvs)))\/(T="set"/\∃ S n,H p=some (.set S n))
 |_=>False
def qml {pins:List (Addr×Obj)} {σ:St} {H:Hp} {s:Shared} {T:String} {x:V} {v:Value} (I:Inv X pins σ H s) (r:jT x v) (ty:tyV X.K T x H) :
  s.TypeIs v T/\∀ a,v=.ref a->∃ ob,s.heap.get? a=some ob/\ob.dict=none:=by
 cases x with
 |str z=>
  obtain ⟨t,rfl⟩:=r;cases (show T="str" from ty);exact ⟨typeIs_str s z t,λ_ e=>nomatch e⟩
 |int i=>
  obtain ⟨t,rfl⟩:=r;cases (show T="int" from ty);exact ⟨typeIs_int s i t,λ_ e=>nomatch e⟩
 |ref p=>
  cases r;rcases ty with ⟨rfl,xs,hq⟩|⟨rfl,o,hk,hc,hd⟩|⟨rfl,hk⟩|⟨rfl,S,n,hk⟩
  ·obtain ⟨its,_,pl,_⟩:=I.list hq;refine ⟨pl.isList.typeIs,λa e=>?_⟩;cases e;obtain ⟨o,n,e,c,hd,_⟩:=pl;exact ⟨o,e,hd⟩
  ·refine ⟨⟨o,I.kIn p o hk,hc⟩,λa e=>?_⟩;cases e;exact ⟨o,I.kIn _ o hk,hd⟩
  ·have z:∃ o,s.heap.get? p=some o/\o.ExactDict:=by
    rcases hk with ⟨kvs,hk⟩|⟨kvs,hk⟩
    ·obtain ⟨_,_,_,_,o,_,_,e,ex,_⟩:=I.hok p _ hk;exact ⟨o,e,ex⟩
    ·obtain ⟨_,_,_,_,o,_,_,e,ex,_⟩:=I.hok p _ hk;exact ⟨o,e,ex⟩
   obtain ⟨o,e,ex⟩:=z;refine ⟨⟨o,e,ex.1⟩,λa e2=>?_⟩;cases e2;exact ⟨o,e,ex.2.1⟩
  ·obtain ⟨o,_,_,_,e,ex,_⟩:=I.hok p _ hk;refine ⟨⟨o,e,ex.1⟩,λa e2=>?_⟩;cases e2;exact ⟨o,e,ex.2.1⟩
 |_=>exact False.elim ty
def tBM (K:Frg) (T:String) (r:V->List V->Hp->VK->Prop) (to:TE) (t:TA):TE:=λσ H Q=>to σ H λx H1=>tyV K T x H1/\t σ H1 λxs H2=>r x xs H2 Q
variable {o e:Expr} {es:List Expr} {to:TE} {t:TA} {name:Str} {apos cpos:Pos} {T id:String} {r:V->List V->Hp->VK->Prop}
def qpf (pa:PlainAttrs T) (slot:Slot T name id) (hty:typeOf (.builtin id)=pure (.type "method_descriptor")) (hm:MtR X id r) (ho:PE X o to) (ha:PA X (e::es) t)
  (hbase:attributeBase o name X.env (eval o X.env)=eval o X.env:=by rfl)
  (hfew:((backTo cpos (starEach (e::es) X.env)).all (λx=>!x.1)&&(backToKw cpos (keywordEach [] X.env)).all (λx=>x.1.isSome)
   && decide ((e::es).length+([]:List Keyword).length+(if ([]:List Keyword).isEmpty then 0 else 1)<30))=true:=by rfl)
  (hline:(apos.endLine==cpos.line)=true:=by rfl) (hs:starEach (e::es) X.env=(false,eval e X.env)::starEach es X.env:=by rfl) (hplain:(backTo cpos (starEach es X.env)).any (·.1)=false:=by rfl) :
  PE X (.Call (.Attribute o name apos) (e::es) [] cpos) (tBM X.K T r to t):=by
 intro pins s σ H Q I h;refine wpAny_Call_method_late hbase hfew hline rfl (thn (ho pins s σ H _ I h) λv s1 ⟨x,H1,I1,r1,ty,q1⟩=>?_);obtain ⟨h1,h2⟩:=qml I1 r1 ty;refine ⟨T,id,pa,slot,hty,h1,h2,?_⟩;have hA:=ha cpos pins s1 σ H1 _ I1 q1;rw [hs] at hA ⊢;refine Calls.callWith_builtin (by show (false||(backTo cpos (starEach es X.env)).any (·.1))=false;rw [hplain]<;>rfl) (Calls.evalArgs_plain ?_);exact thn hA λus s2 ⟨vs,H2,I2,r2,q2⟩=>hm pins s2 σ H2 x vs v us Q I2 r1 r2 q2
end
def MtM (X:Cx) (id:String) (r:V->List V->Hp->VK->Prop):Prop:=
 ∀ (pins:List (Addr×Obj)) (s:Shared) (σ:St) (H:Hp) (x:V) (xs:List V) (v:Value) (us:List Value) (Q:VK),Inv X pins σ H s->jT x v->jx xs us->r x xs H Q ->
  wpAny (model X.prog X.w) X.A (call (.builtin id) (v::us)) (EP X pins σ Q) X.xe s
def jx.one:∀ {x:V} {us:List Value},jx [x] us->∃ u,us=[u]/\jT x u
 |_,_,.cons r .nil=>⟨_,rfl,r⟩
def jx.reverse {xs:List V} {us:List Value} (h:jx xs us):jx xs.reverse us.reverse:=by
 induction h with
 |nil=>exact .nil
 |cons r t ih=>rw [List.reverse_cons,List.reverse_cons];exact jx.append ih (.cons r .nil)
section
variable {X:Cx} {pins:List (Addr×Obj)} {σ:St} {H:Hp} {s:Shared} {l b:Addr} {xs ys zs:List V}
def Inv.lset {its its':List Value} {n:Nat} {f:Array Value->Array Value} {t':Nat} (I:Inv X pins σ H s) (hH:H l=some (.lst xs))
  (e:s.heap.get? l=some { cls:=.type "list",data:=.seq its.toArray n }) (hf:f its.toArray=its'.toArray) (hv:jx ys its') (hz:ys.length<=sizeLine) :
  Inv X pins σ (upd H l (.lst ys)) { s with heap:=s.heap.update l (Obj.mapSeq f),toks:=t' }:=by
 have q:=PySem.IsL.update e f;rw [hf] at q;refine I.write (x:=l) (e:=l) (by rw [hH];exact trivial) (.inl rfl) (λb' u hb hu=>(Heap.get?_update_other s.heap (Obj.mapSeq f) (Ne.symm hb)).trans hu) ⟨_,q⟩ ?_;exact ⟨hz,its',_,hv,q⟩
def Inv.lnew {its:List Value} {t':Nat} (I:Inv X pins σ H s) (hv:jx ys its) (hz:ys.length<=sizeLine) :
  Inv X pins σ (upd H s.heap.objs.size (.lst ys)) { s with heap:=s.heap.push { cls:=.type "list",data:=.seq its.toArray },toks:=t' }:=
 I.laid (λ_ _ q=>Heap.get?_push_of_some _ q) (Nat.le_refl _) ⟨hz,its,0,hv,Heap.get?_push_size _ rfl⟩
def Inv.fresh (I:Inv X pins σ H s):H s.heap.objs.size=none:=I.hok.fresh (Nat.le_refl _)
def Inv.lstM (I:Inv X pins σ H s) (hH:H l=some (.lst xs)):xs.length<=sizeLine/\∃ (its:List Value) (n:Nat),jx xs its/\xs.length=its.length/\s.heap.get? l=some { cls:=.type "list",data:=.seq its.toArray n }:=by
 obtain ⟨z,its,n,r,e⟩:=I.hok l _ hH;exact ⟨z,its,n,r,r.length,e⟩
def qeH {n:Nat} (h:n<=sizeLine):Builtin.List.listTooLong n=false:=by
 unfold Builtin.List.listTooLong;exact decide_eq_false (by omega)
end
section
variable {X:Cx}
def qb9:V->List V->Hp->VK->Prop:=λx vs H Q=>∃ l xs y,x=.ref l/\vs=[y]/\H l=some (.lst xs)/\xs.length<sizeLine/\Q .non (upd H l (.lst (xs++[y])))
def DH:MtM X "list.append" qb9:=by
 intro pins s σ H x vs v us Q I rx rv h;obtain ⟨l,xs,y,rfl,rfl,hH,hz,q⟩:=h;cases rx;obtain ⟨u,rfl,ru⟩:=rv.one;obtain ⟨z,its,n,r,hl,e⟩:=I.lstM hH;refine call_meets F.slot_list_append ⟨_,e,rfl⟩ F.entry_list_append (F.args_list_append_2 _ _) (PySem.list_append l its.toArray n u (by rw [size_toArray];omega)) ⟨e,?_⟩;refine ⟨.non,_,I.lset (its':=its++[u]) hH e (by simp) (r.append (.cons ru .nil)) ?_,rfl,q⟩;rw [length_append,List.length_singleton];omega
def qcG:V->List V->Hp->VK->Prop:=λx vs H Q=>∃ l b xs zs,x=.ref l/\vs=[.ref b]/\H l=some (.lst xs)/\H b=some (.lst zs)/\xs.length+zs.length<=sizeLine/\Q .non (upd H l (.lst (xs++zs)))
def qcO:MtM X "list.extend" qcG:=by
 intro pins s σ H x vs v us Q I rx rv h;obtain ⟨l,b,xs,zs,rfl,rfl,hH,hB,hz,q⟩:=h;cases rx;obtain ⟨u,rfl,ru⟩:=rv.one;cases ru;obtain ⟨z,its,n,r,hl,e⟩:=I.lstM hH;obtain ⟨z2,its2,n2,r2,hl2,e2⟩:=I.lstM hB;have hsz:its.toArray.size+its2.toArray.size<=sizeLine:=by rw [size_toArray,size_toArray];omega
 have hlong:¬ (!its.toArray.isEmpty&&Builtin.List.listTooLong (its.toArray.size+its2.toArray.size))=true:=by
  rw [qeH hsz,Bool.and_false];exact Bool.false_ne_true
 refine call_meets F.slot_list_extend ⟨_,e,rfl⟩ F.entry_list_extend (F.args_list_extend_2 _ _)
  (AutoSeq1.list_extend_list_list_0 l its.toArray n b its2.toArray n2 hlong (by rw [size_toArray];omega) (by omega)) ⟨e,e2,?_⟩
 refine ⟨.non,_,I.lset (its':=its++its2) hH e (by simp) (r.append r2) ?_,rfl,q⟩;rw [length_append];omega
def qqy:R2:=λx y H Q=>∃ l b xs zs,x=.ref l/\y=.ref b/\H l=some (.lst xs)/\H b=some (.lst zs)/\xs.length+zs.length<=sizeLine/\∀ p,H p=none->Q (.ref p) (upd H p (.lst (xs++zs)))
def qj4:OpR X (binaryOp .Add) qqy:=by
 intro pins s σ H x y v u Q I rx ry h;obtain ⟨l,b,xs,zs,rfl,rfl,hH,hB,hz,q⟩:=h;cases rx;cases ry;obtain ⟨z,its,n,r,hl,e⟩:=I.lstM hH;obtain ⟨z2,its2,n2,r2,hl2,e2⟩:=I.lstM hB;refine PySem.P.add_list e e2 ?_ (by rw [size_toArray,size_toArray];omega);have ea:its.toArray++its2.toArray=(its++its2).toArray:=by simp
 rw [ea];exact ⟨.ref _,_,I.lnew (t':=s.toks) (r.append r2) (by rw [length_append];omega),rfl,q _ I.fresh⟩
end
section
variable {prog:Program} {w:World} {A:Around} {E:Value->Shared->Prop} {s:Shared}
end
section
variable {X:Cx}
end
end L2
namespace Att
open PySem PySem.W PySem.Calls PyProof.Rows
def C4 {P:Params} {h:Heap}:∀ (ns:List Int) (vs:List Value),WellAll P h vs (ns.map WData.int)->IntsAre vs ns:=by
 intro ns;induction ns with
 |nil=>
  intro vs w;rw [List.map_nil] at w;cases w;exact .nil
 |cons n ns ih=>
  intro vs w;rw [map_cons] at w;cases w with
  |cons a b=>
   cases a;exact .cons _ _ (ih _ b)
def qbW {l:OpenLaw} {n:Nat} (hn:l.most=some n) {P:Params} {h:Heap} {args:List WData} {vals:List Value}
  (hpre:l.row.toRowW.claim.pre args=true) (hwl:WellAll P h vals args) :
  ∃ a vs ns,vals=[Value.ref a]/\args=[WData.list (ns.map WData.int)]/\h.get? a=some { cls:=.type "list",data:=.seq vs.toArray }/\IntsAre vs ns/\ns.length<=n:=by
 have hsh:WShape.hasAll [] args [.list .int]=true:=(pre_splitW hpre).1;have hc:l.pre.holds [] { args:=args }=true:=(pre_splitW hpre).2;obtain ⟨d,r,rfl,h1,h2⟩:=hasAllW_cons hsh;obtain rfl:=hasAllW_nil h2;obtain ⟨xs,rfl,h3⟩:=hasW_list h1;obtain ⟨ns,rfl⟩:=items_int h3;have hlen:ns.length<=n:=by
  unfold OpenLaw.pre at hc;have h4:(WTm.not (.lt (.lit (.int (n:Int))) (.len (.arg 0)))).holds [] { args:=[.list (ns.map .int)] }=true:=by
   have h4:=(holds_andW hc).1;rw [hn] at h4;exact h4
  have h5:=condW_of h4 (w_not (w_lt w_lit (w_len_list (w_arg rfl))));rw [length_map] at h5;refine Nat.le_of_not_lt λq=>?_;have q':(n:Int)<((ns.length:Nat):Int):=by omega
  first
   | (rw [decide_eq_true q'] at h5;exact absurd h5 (by decide))
   | (simp at h5;omega)
 cases hwl with
 |cons w1 w2=>
  cases w2;cases w1 with
  |list ho hall=>exact ⟨_,_,ns,rfl,rfl,ho,C4 ns _ hall,hlen⟩
def qbS (l:OpenLaw) (args:List WData):l.row.toRowW.claim.post args (.bool true) args=true:=
 postW_of (r:=l.row.toRowW) (X:=(true==true))
  (show WShape.has [] (.bool true) .bool=true by first|rfl|decide|simp [WShape.has,WShape.arms,WShape.armsAll])
  (show (WTm.eq .res (.lit (.bool true))).value [] { args:=args,res:=some (.bool true),after:=args }=some (.bool (true==true)) from w_eq_bool (w_res rfl) w_lit) rfl
def qac {l:OpenLaw} {n:Nat} {q:Program} {loose:List Str} {XP:(Str->Option Value)->Heap->Prop} {YP:World->Heap->Prop} {d:DefRec}
  (hn:l.most=some n) (hdf:d.params.defaults=[])
  (call:∀ (w:World) (s₀ s₁:Shared) (mg mb:Str->Option Value) (fa:Addr) (o:Obj) (pm cd doc:Value) (a:Addr) (vs:List Value) (ns:List Int),
   Ground q loose [] XP w s₀ mg mb s₁.heap->YP w s₁.heap ->
   s₁.heap.get? fa=some o->o.data=.func (docDef d.name d.params d.body d.scope pm cd doc)->s₁.heap.CodeRec cd d.name->mg d.name=some (.ref fa) ->
   s₁.heap.get? a=some { cls:=.type "list",data:=.seq vs.toArray }->IntsAre vs ns->ns.length<=n->s₁.gens=#[] ->
   codeAny (model l.prog w) callerA (.call (.ref fa) ⟨[.ref a],[]⟩) (λr s'=>r=.ok (.ret (.bool true))/\OldK s₁.heap s'.heap/\s'.os=s₁.os/\AllBare s'.gens) s₁) :
  WalkO q loose XP YP l.row.toRowW d [] (λf vs=>PySem.call f vs):=by
 intro w s₀ s₁ mg mb G Y fa o pm cd doc dV kV ho hd hcd hD hmg hg args vals as hpre hlay hrd hwl hlo;obtain rfl:dV=.none:=Dflts.none hD hdf;obtain rfl:kV=.none:=Dflts.noKw hD;obtain ⟨a,vs,ns,rfl,rfl,hobj,hints,hlen⟩:=qbW hn hpre hwl;refine enter_call (codeAny_mono (call w s₀ s₁ mg mb fa o pm cd doc a vs ns G Y ho (fd_plain hd) hcd hmg hobj hints hlen hg) λr s' hq=>?_);obtain ⟨rfl,h2,h3,h4⟩:=hq;exact ⟨.inl ⟨.bool true,.bool true,[],rfl,λ_=>rfl,.bool true,qbS l _,λ_=>⟨List.Pairwise.nil,λ_ hm=>(nomatch hm)⟩⟩,h2,h3,h4⟩
section
variable {prog:Program} {w:World} {A:Around} {E:Value->Shared->Prop} {s:Shared} {K:Frag}
end
end Att
namespace L2
open PySem PySem.Spec PyProof.Rows
def MC:∀ {vs:List Value} {ns:List Int},IntsAre vs ns->jx (ns.map V.int) vs
 |_,_,.nil=>.nil
 |_,_,.cons n t h=>.cons ⟨t,rfl⟩ (MC h)
def qog (H:Hp):Prop:=∀ b,H b=none\/∃ o xs,H b=some (.frz o (.lst xs))
def qdT {P:Program} {w:World} {K:Frg} {mg mb:Str->Option Value} {CX:CXT} {k:Nat} {fa a:Addr} {fd:FuncData} {x:Str} {sp:Sp} {s₁:Shared} {vs:List Value} {ns:List Int}
  (KX:K.In s₁.heap) (hns:s₁.heap.Ns mainGlobals mg) (hb:s₁.heap.Ns builtinsNs mb) (hbb:∀ x:Str,x≠"__name__" -> mb x=bootBuiltins x) (hlim:s₁.heap.NoLimit) (hg:s₁.gens=#[])
  (ha:s₁.heap.get? a=some { cls:=.type "list",data:=.seq vs.toArray }) (hi:IntsAre vs ns) (hl:ns.length<=sizeLine) (hr:Room k callerA)
  (F:∀ base:Heap,K.In base->base.Ns mainGlobals mg->FnOk P w K mg base CX k fa fd [x] sp) (hbind:∀ (s:Shared) (u:Value),BindsTo s fd ⟨[u],[]⟩ [(x,u)])
  (hsp:∀ H:Hp,qog H->SqL K H a (ns.map V.int)->sp [.ref a] H (λv _=>v=.bl true) λ_ _ _=>False)
  (hCX:∀ H e s',CX [] H s₁ (λ_ _ _=>False) e s'->False) :
  codeAny (model P w) callerA (.call (.ref fa) ⟨[.ref a],[]⟩) (λr s'=>r=.ok (.ret (.bool true))/\OldK s₁.heap s'.heap/\s'.os=s₁.os/\AllBare s'.gens) s₁:=by
 have rv:=MC hi;have lenV:=hi.length
 -- from an abstract heap in which nothing but the script may be tracked
 have core:∀ H:Hp,qog H->SqL K H a (ns.map V.int)->HOk P w H s₁.heap->(∀ b,H b≠none->b=a)->(H a≠none->K.lookup a=none) ->
   codeAny (model P w) callerA (.call (.ref fa) ⟨[.ref a],[]⟩) (λr s'=>r=.ok (.ret (.bool true))/\OldK s₁.heap s'.heap/\s'.os=s₁.os/\AllBare s'.gens) s₁:=by
  intro H hO hS hok hA hK;have base_of:∀ {b:Addr} {o:Obj},s₁.heap.get? b=some o->H b=none->(qek s₁.heap H).get? b=some o:=λe n=>qel e n;have noA:∀ {b:Addr} {o:Obj} {es:Array DictEntry} {ep:Nat},s₁.heap.get? b=some o->o.data=.dict es ep->H b=none:=λ{b o es ep} e d=>by
   cases q:H b with
   |none=>rfl
   |some u=>
    have e':b=a:=hA b (by rw [q];simp);subst e';rw [ha] at e;cases e;have d':Data.seq vs.toArray _=Data.dict es ep:=d;cases d'
  have nsK:∀ {b:Addr} {m:Str->Option Value},s₁.heap.Ns b m->(qek s₁.heap H).Ns b m:=λ{b m} ⟨o,es,ep,e,d,r⟩=>⟨o,es,ep,base_of e (noA e d),d,r⟩
  have hKb:K.In (qek s₁.heap H):=λb o e=>base_of (KX b o e) (by
   cases q:H b with
   |none=>rfl
   |some u=>
    have e':b=a:=hA b (by rw [q];simp);subst e';rw [hK (by rw [q];simp)] at e;cases e)
  have hM:Mod K mg (qek s₁.heap H):=⟨hKb,nsK hns,⟨mb,nsK hb,hbb⟩,let ⟨mc,h1,h2⟩:=hlim;⟨mc,nsK h1,h2⟩⟩
  have e0:Env0 P w K mg (qek s₁.heap H) callerA [] s₁ H:=⟨rfl,hM,λb o e=>qh5 e,Nat.le_of_eq (qde _ _),trivial,λb hb=>absurd (show b∈([]:List Addr) from hb) (by simp),hok,.of_eq hg⟩
  refine codeAny_mono ((F _ hKb (nsK hns)).run callerA [] s₁ H ⟨[.ref a],[]⟩ [.ref a] [.ref a] _ _ hr e0 (hbind s₁ (.ref a)) (.cons rfl .nil) (hsp H hO hS)) λr s' h=>?_;cases r with
  |error e=>exact (hCX H e s' h).elim
  |ok fl=>
   cases fl with
   |next=>exact False.elim h
   |brk=>exact False.elim h
   |cont=>exact False.elim h
   |ret u=>
    obtain ⟨v,H',os,bare,un,hok',r',q⟩:=h;have q':v=.bl true:=q;subst q';obtain rfl:u=Value.bool true:=r';refine ⟨rfl,OldK.of_keep λb o e=>?_,os,bare⟩;cases q:H b with
    |none=>exact un.keep b o e q (by intro z;exact absurd (show b∈([]:List Addr) from z) (by simp)) (by simp)
    |some u=>
     rcases hO b with z|⟨ob,xs,z⟩
     ·rw [q] at z;cases z
     ·have z2:=un.frzs b ob _ z;obtain ⟨e1,_⟩:=hok b _ z;obtain ⟨e2,_⟩:=hok' b _ z2;rw [e] at e1;cases e1;exact e2
 cases hk:K.lookup a with
 |some o=>
  -- the script is one of the module's own objects
  have e:=KX a o hk;rw [ha] at e;cases e;refine core (λ_=>none) (λ_=>.inl rfl) (.inr ⟨_,vs.toArray,_,hk,rfl,rfl,rfl,by rw [size_toArray,lenV];exact hl,by simpa using rv⟩) (λb u z=>by have z':(none:Option HO)=some u:=z;cases z') (λb z=>absurd rfl z) λz=>absurd rfl z
 |none=>
  refine core (λb=>if b=a then some (.frz { cls:=.type "list",data:=.seq vs.toArray } (.lst (ns.map V.int))) else none) (λb=>?_) (.inl (.inr ⟨{ cls:=.type "list",data:=.seq vs.toArray },if_pos rfl⟩)) (λb u z=>?_) (λb z=>?_) λ_=>hk
  ·by_cases hb:b=a
   ·exact .inr ⟨_,_,if_pos hb⟩
   ·exact .inl (if_neg hb)
  ·by_cases hb:b=a
   ·have z':=(if_pos hb).symm.trans z;cases z';subst hb;exact ⟨ha,by rw [length_map];exact hl,vs,_,rv,ha⟩
   ·have z':=(if_neg hb).symm.trans z;cases z'
  ·by_cases hb:b=a
   ·exact hb
   ·exact absurd (if_neg hb) z
def qix {l:PySem.W.OpenLaw} {n k:Nat} {q:Program} {loose:List Str} {XP:(Str->Option Value)->Heap->Prop} {YP:World->Heap->Prop} {d:DefRec} {K:Params->PySem.W.Frag} {CX:World->CXT} {sp:World->Sp} {x:Str}
  (hn:l.most=some n) (hn2:n<=sizeLine) (hdf:d.params.defaults=[]) (hr:Room k callerA)
  (hY:∀ (w:World) (h:Heap),YP w h->(K w.params).In h)
  (F:∀ (w:World) (mg:Str->Option Value) (fa:Addr) (h:Heap),(K w.params).In h->h.Ns mainGlobals mg->mg d.name=some (.ref fa) ->
   ∃ fd:FuncData,(∀ (s:Shared) (u:Value),BindsTo s fd ⟨[u],[]⟩ [(x,u)]) /\
    ∀ base:Heap,(K w.params).In base->base.Ns mainGlobals mg->FnOk l.prog w (K w.params) mg base (CX w) k fa fd [x] (sp w))
  (hsp:∀ (w:World) (H:Hp) (a:Addr) (ns:List Int),ns.length<=n->qog H->SqL (K w.params) H a (ns.map V.int)->sp w [.ref a] H (λv _=>v=.bl true) λ_ _ _=>False)
  (hCX:∀ (w:World) (H:Hp) (s:Shared) (e:Value) (s':Shared),CX w [] H s (λ_ _ _=>False) e s'->False) :
  PySem.W.WalkO q loose XP YP l.row.toRowW d [] (λf vs=>PySem.call f vs):=by
 refine Att.qac hn hdf λw s₀ s₁ mg mb fa o pm cd doc a vs ns G Y ho hd hcd hmg hobj hints hlen hg=>?_;have KX:=hY w _ Y;obtain ⟨fd,hb,hF⟩:=F w mg fa _ KX G.T.g hmg;exact qdT KX G.T.g G.T.b G.T.builtins G.T.nolimit hg hobj hints (Nat.le_trans hlen hn2) hr hF hb (λH hO hS=>hsp w H a ns hlen hO hS) λH e s'=>hCX w H s₁ e s'
def Y0 (s:Stmt):Arguments:=match s with
 |.FunctionDef _ a _ _ _ _ _ _ _ _=>a
 |_=>{ posonlyargs:=[],args:=[],vararg:=none,kwonlyargs:=[],kw_defaults:=[],kwarg:=none,defaults:=[] }
def jM (s:Stmt):List Stmt:=match s with
 |.FunctionDef _ _ b _ _ _ _ _ _ _=>b
 |_=>[]
def qk (s:Stmt):Scope:=match s with
 |.FunctionDef _ _ _ _ _ _ sc _ _ _=>sc
 |_=>{ kind:=.function,names:=[],isGenerator:=false,isCoroutine:=false }
abbrev CX0:CXT:=λ_ _ _ _ _ _=>False
abbrev E0:XK:=λ_ _ _=>False
def qp1 {X:Cx}:qdr CX0 X E0:=λ_ _ _ _ _ _ _ h=>h.elim
structure Fun (K:Frg) (x qual:Str) (st:Stmt) (f:Addr) (fd:FuncData):Prop where
 ex:∃ (oc:Value) (od:Option Addr) (kV doc pm:Value) (an:Option Addr) (cdv ct:Value) (osl:Array (Option Value)),
  fd=PySem.W.fnOf x qual (Y0 st) (jM st) (qk st) .none kV doc pm an cdv ct/\K.lookup f=some ⟨oc,od,.func fd,osl⟩/\PySem.W.codeIn K cdv qual=true
 kp:PySem.W.keepIn K (.ref f)=true
section
variable {P:Program} {w:World} {K:Frg} {mg:Str->Option Value} {base:Heap}
def Fun.ok {x qual:Str} {st:Stmt} {f:Addr} {fd:FuncData} {N ps:List Str} {k:Nat} {sp:Sp} (F:Fun K x qual st f fd) (S:FnScope N ps (qk st)) (len:∀ vs H Q E,sp vs H Q E->vs.length=ps.length)
  (hbody:∀ (cdv:Value) (A:Around) (outer:List Env) (s:Shared) (H:Hp) (vs:List V) (Q:VK) (E:XK),Room k (A.deeper (envOfC qual (qk st) s.heap.objs.size f cdv))->sp vs H Q E ->
   ∃ t,PSs (qdE CX0 P w K mg base N qual (qk st) f cdv A outer s H E).nox (jM st) t/\t { nx:=λ_ H'=>Q .non H',rt:=Q } (RX N vs) H):FnOk P w K mg base CX0 (k+1) f fd ps sp:=by
 obtain ⟨oc,od,kV,doc,pm,an,cdv,ct,osl,rfl,lk,hcd⟩:=F.ex;refine qoM lk hcd S len λA outer s H vs Q E hr hsp=>?_;obtain ⟨t,h,q⟩:=hbody cdv A outer s H vs Q E hr hsp;exact ⟨t,h.nox,q⟩
def Fun.binds {x qual:Str} {st:Stmt} {f:Addr} {fd:FuncData} {ps:List Str} (F:Fun K x qual st f fd)
  (h:∀ (kV doc pm:Value) (an:Option Addr) (cdv ct:Value) (us:List Value),us.length=ps.length->bindArgs (PySem.W.fnOf x qual (Y0 st) (jM st) (qk st) .none kV doc pm an cdv ct) ⟨us,[]⟩=pure (ps.zip us)):zi K fd ps []:=by
 obtain ⟨oc,od,kV,doc,pm,an,cdv,ct,osl,rfl,lk,hcd⟩:=F.ex;exact .all (h kV doc pm an cdv ct)
def qj9 {x qual:Str} {st:Stmt} {f:Addr} {oc:Value} {od an:Option Addr} {osl:Array (Option Value)} {kV doc pm cdv ct:Value} (l:K.lookup f=some ⟨oc,od,.func (PySem.W.fnOf x qual (Y0 st) (jM st) (qk st) .none kV doc pm an cdv ct),osl⟩)
  (c:PySem.W.codeIn K cdv qual=true) (k:PySem.W.keepIn K (.ref f)=true):Fun K x qual st f (PySem.W.fnOf x qual (Y0 st) (jM st) (qk st) .none kV doc pm an cdv ct):=⟨⟨oc,od,kV,doc,pm,an,cdv,ct,osl,rfl,l,c⟩,k⟩
end
section
variable {X:Cx}
end
def qoo {A B:Prop} (h:B):if false=true then A else B:=by
 rw [if_neg Bool.false_ne_true];exact h
def qob {A B:Prop} (h:A):if true=true then A else B:=by
 rw [if_pos rfl];exact h
end L2
set_option maxHeartbeats 4000000
namespace L3
open PySem PySem.Spec PyProof.Rows L2
set_option genInjectivity true in
inductive T where
 |non|bl (b:Bool)|int (i:Int)|str (x:Str)|tup (xs:List T)|ref (a:Addr)
inductive O where
 |lst (xs:List T)
 |frz (xs:List T)
abbrev Gp:=Addr->Option O
def gu (G:Gp) (a:Addr) (o:O):Gp:=λb=>if b=a then some o else G b
def qy {G:Gp} {a:Addr} {o:O}:gu G a o a=some o:=by unfold gu;rw [if_pos rfl]
def jL {G:Gp} {a b:Addr} {o:O} (h:b≠a):gu G a o b=G b:=by unfold gu;rw [if_neg h]
mutual
inductive Rp (K:Frg) (H:Hp):T->V->Prop
 |non:Rp K H .non .non
 |bl (b:Bool):Rp K H (.bl b) (.bl b)
 |int (i:Int):Rp K H (.int i) (.int i)
 |str (x:Str):Rp K H (.str x) (.str x)
 |ref (a:Addr):Rp K H (.ref a) (.ref a)
 |tup {xs:List T} {a:Addr} {vs:List V}:SqT K H a vs->Rps K H xs vs->Rp K H (.tup xs) (.ref a)
inductive Rps (K:Frg) (H:Hp):List T->List V->Prop
 |nil:Rps K H [] []
 |cons {x:T} {v:V} {xs:List T} {vs:List V}:Rp K H x v->Rps K H xs vs->Rps K H (x::xs) (v::vs)
end
def OR (K:Frg) (H:Hp) (a:Addr):O->Prop
 |.lst xs=>∃ vs,H a=some (.lst vs)/\Rps K H xs vs
 |.frz xs=>∃ vs,(∃ o,H a=some (.frz o (.lst vs)))/\Rps K H xs vs
def HR (K:Frg) (G:Gp) (H:Hp):Prop:=∀ a o,G a=some o->OR K H a o
def Kp (G:Gp) (H:Hp) (G':Gp) (H':Hp):Prop:=∀ a o,H a=some o->G a=none->H' a=some o/\G' a=none
def Kp.refl {G:Gp} {H:Hp}:Kp G H G H:=λ_ _ h g=>⟨h,g⟩
def Kp.trans {G G1 G2:Gp} {H H1 H2:Hp} (a:Kp G H G1 H1) (b:Kp G1 H1 G2 H2):Kp G H G2 H2:=λx o h g=>
 let ⟨h1,g1⟩:=a x o h g;b x o h1 g1
section
variable {K:Frg} {G G':Gp} {H H':Hp}
def HR.noneT (hr:HR K G H) {a:Addr} {vs:List V} (h:Rd H a (.tup vs)):G a=none:=by
 cases e:G a with
 |none=>rfl
 |some o=>
  have q:=hr a o e;cases o with
  |lst xs=>
   obtain ⟨us,q1,_⟩:=q;rcases h with h|⟨ob,h⟩<;>(rw [q1] at h;cases h)
  |frz xs=>
   obtain ⟨us,⟨o1,q1⟩,_⟩:=q;rcases h with h|⟨ob,h⟩<;>(rw [q1] at h;cases h)
def KR (hr:HR K G H) (k:Kp G H G' H') {a:Addr} {vs:List V} (h:SqT K H a vs):SqT K H' a vs:=by
 rcases h with h|h
 ·have g:=hr.noneT h;rcases h with h|⟨o,h⟩
  ·exact .inl (.inl (k a _ h g).1)
  ·exact .inl (.inr ⟨o,(k a _ h g).1⟩)
 ·exact .inr h
mutual
def Rp.keep (hr:HR K G H) (k:Kp G H G' H'):∀ {x:T} {v:V},Rp K H x v->Rp K H' x v
 |_,_,.non=>.non
 |_,_,.bl b=>.bl b
 |_,_,.int i=>.int i
 |_,_,.str x=>.str x
 |_,_,.ref a=>.ref a
 |_,_,.tup h hs=>.tup (KR hr k h) (Rps.keep hr k hs)
def Rps.keep (hr:HR K G H) (k:Kp G H G' H'):∀ {x:List T} {v:List V},Rps K H x v->Rps K H' x v
 |_,_,.nil=>.nil
 |_,_,.cons a b=>.cons (Rp.keep hr k a) (Rps.keep hr k b)
end
def Rps.length:∀ {xs:List T} {vs:List V},Rps K H xs vs->xs.length=vs.length
 |_,_,.nil=>rfl
 |_,_,.cons _ b=>by simp [Rps.length b]
def Rps.get:∀ {xs:List T} {vs:List V} {i:Nat} {x:T},Rps K H xs vs->xs[i]?=some x->∃ v,vs[i]?=some v/\Rp K H x v
 |_,_,_,_,.nil,e=>by simp at e
 |_,_,0,_,.cons r _,e=>by simp at e;subst e;exact ⟨_,rfl,r⟩
 |_,_,i+1,x,.cons _ t,e=>by
  obtain ⟨u,h1,h2⟩:=Rps.get (i:=i) (x:=x) t (by simpa using e);exact ⟨u,by simpa using h1,h2⟩
def Rps.append:∀ {xs ys:List T} {vs us:List V},Rps K H xs vs->Rps K H ys us->Rps K H (xs++ys) (vs++us)
 |_,_,_,_,.nil,s=>s
 |_,_,_,_,.cons r t,s=>.cons r (Rps.append t s)
def Rps.take:∀ {xs:List T} {vs:List V} (n:Nat),Rps K H xs vs->Rps K H (xs.take n) (vs.take n)
 |_,_,0,_=>.nil
 |_,_,_+1,.nil=>.nil
 |_,_,n+1,.cons r t=>.cons r (Rps.take n t)
def Rps.drop:∀ {xs:List T} {vs:List V} (n:Nat),Rps K H xs vs->Rps K H (xs.drop n) (vs.drop n)
 |_,_,0,r=>r
 |_,_,_+1,.nil=>.nil
 |_,_,n+1,.cons _ t=>Rps.drop n t
def Rps.set {x:T} {v:V} (r:Rp K H x v):∀ {xs:List T} {vs:List V} (i:Nat),Rps K H xs vs->Rps K H (xs.set i x) (vs.set i v)
 |_,_,_,.nil=>.nil
 |_,_,0,.cons _ t=>.cons r t
 |_,_,i+1,.cons q t=>.cons q (Rps.set r i t)
def Rps.ints:∀ (ns:List Int),Rps K H (ns.map T.int) (ns.map V.int)
 |[]=>.nil
 |n::r=>.cons (.int n) (Rps.ints r)
def Rps.reverse {xs:List T} {vs:List V} (h:Rps K H xs vs):Rps K H xs.reverse vs.reverse:=by
 induction xs generalizing vs with
 |nil=>cases h;exact .nil
 |cons x r ih=>
  cases h with
  |cons a b=>
   rw [List.reverse_cons,List.reverse_cons];exact (ih b).append (.cons a .nil)
def Kp.laid {p:Addr} {ho:HO} (hp:H p=none):Kp G H G (upd H p ho):=λa o h g=>⟨by rw [qT (qE h hp)];exact h,g⟩
def HR.free (hr:HR K G H) {p:Addr} (hp:H p=none):G p=none:=by
 cases e:G p with
 |none=>rfl
 |some o=>
  have q:=hr p o e;cases o with
  |lst xs=>obtain ⟨us,q1,_⟩:=q;rw [hp] at q1;cases q1
  |frz xs=>obtain ⟨us,⟨o1,q1⟩,_⟩:=q;rw [hp] at q1;cases q1
def OR.keep (hr:HR K G H) (k:Kp G H G' H') {a:Addr} {o:O} (h:OR K H a o) (e:∀ u,H a=some u->H' a=some u):OR K H' a o:=by
 cases o with
 |lst xs=>obtain ⟨vs,h1,h2⟩:=h;exact ⟨vs,e _ h1,h2.keep hr k⟩
 |frz xs=>obtain ⟨vs,⟨o,h1⟩,h2⟩:=h;exact ⟨vs,⟨o,e _ h1⟩,h2.keep hr k⟩
def HR.laid (hr:HR K G H) {p:Addr} {ho:HO} (hp:H p=none):HR K G (upd H p ho):=λa o e=>
 (hr a o e).keep hr (Kp.laid hp) λu h=>by rw [qT (qE h hp)];exact h
def Kp.newL {p:Addr} {ho:HO} {o':O} (hp:H p=none):Kp G H (gu G p o') (upd H p ho):=λa o h g=>
 ⟨by rw [qT (qE h hp)];exact h,by rw [jL (qE h hp)];exact g⟩
def HR.newL (hr:HR K G H) {p:Addr} {xs:List T} {vs:List V} (hp:H p=none) (r:Rps K H xs vs):HR K (gu G p (.lst xs)) (upd H p (.lst vs)):=λa o e=>by
 by_cases ha:a=p
 ·subst ha;rw [qy] at e;cases e;exact ⟨vs,zG,r.keep hr (Kp.laid hp)⟩
 ·rw [jL ha] at e;exact (hr a o e).keep hr (Kp.laid hp) λu h=>by rw [qT ha];exact h
def Kp.wr {p:Addr} {ho:HO} {o o':O} (g:G p=some o):Kp G H (gu G p o') (upd H p ho):=λa ob h ga=>by
 have ha:a≠p:=by intro e;subst e;rw [g] at ga;cases ga
 exact ⟨by rw [qT ha];exact h,by rw [jL ha];exact ga⟩
def HR.wr (hr:HR K G H) {p:Addr} {ys xs:List T} {vs:List V} (g:G p=some (.lst ys)) (r:Rps K H xs vs):HR K (gu G p (.lst xs)) (upd H p (.lst vs)):=λa o e=>by
 have k:Kp G H (gu G p (.lst xs)) (upd H p (.lst vs)):=Kp.wr g;by_cases ha:a=p
 ·subst ha;rw [qy] at e;cases e;exact ⟨vs,zG,r.keep hr k⟩
 ·rw [jL ha] at e;exact (hr a o e).keep hr k λu h=>by rw [qT ha];exact h
end
abbrev St3:=List (Option T)
structure Rel (K:Frg) (τ:St3) (G:Gp) (σ:L2.St) (H:Hp):Prop where
 hp:HR K G H
 len:τ.length=σ.length
 st:∀ (i:Nat) (t:T),τ[i]?=some (some t)->∃ v,σ[i]?=some (some v)/\Rp K H t v
def Rel.next {K:Frg} {τ:St3} {G G':Gp} {σ:L2.St} {H H':Hp} (r:Rel K τ G σ H) (hr:HR K G' H') (k:Kp G H G' H'):Rel K τ G' σ H':=
 ⟨hr,r.len,λi t e=>let ⟨v,h1,h2⟩:=r.st i t e;⟨v,h1,h2.keep r.hp k⟩⟩
def Rel.set {K:Frg} {τ:St3} {G:Gp} {σ:L2.St} {H:Hp} {t:T} {v:V} (r:Rel K τ G σ H) (i:Nat) (h:Rp K H t v):Rel K (τ.set i (some t)) G (σ.set i (some v)) H:=by
 refine ⟨r.hp,by simp [r.len],λj u e=>?_⟩;by_cases hij:i=j
 ·subst hij;rw [List.getElem?_set_self'] at e;have hl:i<τ.length:=by
   cases q:τ[i]? with
   |none=>rw [q] at e;cases e
   |some z=>exact (List.getElem?_eq_some_iff.mp q).1
  rw [getElem?_eq_getElem hl] at e;have e':t=u:=by simpa using e
  subst e';exact ⟨v,by rw [List.getElem?_set_self (by rw [← r.len];exact hl)],h⟩
 ·rw [List.getElem?_set_ne hij] at e;obtain ⟨w,h1,h2⟩:=r.st j u e;exact ⟨w,by rw [List.getElem?_set_ne hij];exact h1,h2⟩
abbrev Q3:=T->Gp->Prop
abbrev TE3:=St3->Gp->Q3->Prop
abbrev TT3:=St3->Gp->(Bool->Gp->Prop)->Prop
abbrev TA3:=St3->Gp->(List T->Gp->Prop)->Prop
def Aft (K:Frg) (G:Gp) (H:Hp) (q:Q3) (Q:VK):Prop:=∀ x G',q x G'->∀ v H',Rp K H' x v->HR K G' H'->Kp G H G' H'->Q v H'
def qom (K:Frg) (G:Gp) (H:Hp) (q:Bool->Gp->Prop) (Q:Bool->Hp->Prop):Prop:=∀ x G',q x G'->∀ H',HR K G' H'->Kp G H G' H'->Q x H'
def qre (K:Frg) (G:Gp) (H:Hp) (q:List T->Gp->Prop) (Q:List V->Hp->Prop):Prop:=∀ x G',q x G'->∀ v H',Rps K H' x v->HR K G' H'->Kp G H G' H'->Q v H'
def lE (K:Frg) (t:TE3):TE:=λσ H Q=>∃ τ G q,Rel K τ G σ H/\t τ G q/\Aft K G H q Q
def lT (K:Frg) (t:TT3):TT:=λσ H Q=>∃ τ G q,Rel K τ G σ H/\t τ G q/\qom K G H q Q
def lA (K:Frg) (t:TA3):TA:=λσ H Q=>∃ τ G q,Rel K τ G σ H/\t τ G q/\qre K G H q Q
abbrev E3 (X:Cx) (e:Expr) (t:TE3):Prop:=PE X e (lE X.K t)
abbrev C3 (X:Cx) (e:Expr) (t:TT3):Prop:=PT X e (lT X.K t)
abbrev W3 (X:Cx) (e:Expr) (t:TT3):Prop:=PW X e (lT X.K t)
abbrev A3 (X:Cx) (es:List Expr) (t:TA3):Prop:=PA X es (lA X.K t)
def Aft.back {K:Frg} {G G1:Gp} {H H1:Hp} {q:Q3} {Q:VK} (a:Aft K G H q Q) (k:Kp G H G1 H1):Aft K G1 H1 q Q:=λx G' h v H' r hr k'=>a x G' h v H' r hr (k.trans k')
def qom.back {K:Frg} {G G1:Gp} {H H1:Hp} {q:Bool->Gp->Prop} {Q:Bool->Hp->Prop} (a:qom K G H q Q) (k:Kp G H G1 H1):qom K G1 H1 q Q:=λx G' h H' hr k'=>a x G' h H' hr (k.trans k')
def R0 {X:Cx} {e:Expr} {t t':TE} (h:PE X e t) (w:∀ σ H Q,t' σ H Q->t σ H Q):PE X e t':=λpins s σ H Q I q=>h pins s σ H Q I (w σ H Q q)
def qoI {X:Cx} {e:Expr} {t t':TT} (h:PT X e t) (w:∀ σ H Q,t' σ H Q->t σ H Q):PT X e t':=λpins s σ H Q I q=>h pins s σ H Q I (w σ H Q q)
def qqI {X:Cx} {e:Expr} {t t':TT} (h:PW X e t) (w:∀ σ H Q,t' σ H Q->t σ H Q):PW X e t':=λwh pins s σ H Q I q=>h wh pins s σ H Q I (w σ H Q q)
def qqk {X:Cx} {e:List Expr} {t t':TA} (h:PA X e t) (w:∀ σ H Q,t' σ H Q->t σ H Q):PA X e t':=λpos pins s σ H Q I q=>h pos pins s σ H Q I (w σ H Q q)
def jc {K:Frg} {ta:TE3} {τ:St3} {G:Gp} {σ:L2.St} {H:Hp} {q:Q3} {Q:VK} (r:Rel K τ G σ H) (h:ta τ G q)
  (n:∀ x G1,q x G1->∀ v H1,Rp K H1 x v->HR K G1 H1->Kp G H G1 H1->Rel K τ G1 σ H1->Q v H1):lE K ta σ H Q:=
 ⟨τ,G,q,r,h,λx G1 hq v H1 rx hr k=>n x G1 hq v H1 rx hr k (r.next hr k)⟩
def SW {K:Frg} {ta:TT3} {τ:St3} {G:Gp} {σ:L2.St} {H:Hp} {q:Bool->Gp->Prop} {Q:Bool->Hp->Prop} (r:Rel K τ G σ H) (h:ta τ G q)
  (n:∀ x G1,q x G1->∀ H1,HR K G1 H1->Kp G H G1 H1->Rel K τ G1 σ H1->Q x H1):lT K ta σ H Q:=
 ⟨τ,G,q,r,h,λx G1 hq H1 hr k=>n x G1 hq H1 hr k (r.next hr k)⟩
def VT {K:Frg} {ta:TA3} {τ:St3} {G:Gp} {σ:L2.St} {H:Hp} {q:List T->Gp->Prop} {Q:List V->Hp->Prop} (r:Rel K τ G σ H) (h:ta τ G q)
  (n:∀ x G1,q x G1->∀ v H1,Rps K H1 x v->HR K G1 H1->Kp G H G1 H1->Rel K τ G1 σ H1->Q v H1):lA K ta σ H Q:=
 ⟨τ,G,q,r,h,λx G1 hq v H1 rx hr k=>n x G1 hq v H1 rx hr k (r.next hr k)⟩
section
variable {X:Cx} {a b c:Expr} {ta tb tc:TE3} {pos:Pos}
def v3 (i:Nat):TE3:=λτ G q=>match τ[i]? with|some (some t)=>q t G|_=>False
def qpH (i:Nat) {x:Str} {pos:Pos} (hN:X.N[i]?=some x:=by rfl) (hv:Vis X.env.scope x:=by first|exact Or.inl rfl|exact Or.inr (Or.inl rfl)|exact Or.inr (Or.inr rfl)) (hd:(x==("__debug__" : Str))=false:=by decide)
  (hcd:(x==("__classdict__" : Str))=false:=by decide):E3 X (.Name x pos) (v3 i):=by
 refine R0 (qlk (i:=i) hN hv hd hcd) λσ H Q ⟨τ,G,q,r,h,af⟩=>?_;unfold v3 at h;split at h
 ·rename_i t e;obtain ⟨v,e2,rv⟩:=r.st i t e;exact ⟨v,e2,af t G h v H rv r.hp Kp.refl⟩
 ·exact h.elim
def c3 (t:T):TE3:=λ_ G q=>q t G
def e_c {t:T} {v:V} {e:Expr} (h:PE X e (tC v)) (hr:∀ H,Rp X.K H t v):E3 X e (c3 t):=R0 h λσ H Q ⟨τ,G,q,r,h,af⟩=>af t G h v H (hr H) r.hp Kp.refl
def qoH {i:Int} {j pos}:E3 X (.Constant (.int i) j pos) (c3 (.int i)):=e_c qkF λ_=>.int i
def qq5 {b:Bool} {j pos}:E3 X (.Constant (.bool b) j pos) (c3 (.bl b)):=e_c qp9 λ_=>.bl b
def qoP {j pos}:E3 X (.Constant .none j pos) (c3 .non):=e_c qm3 λ_=>.non
def qpN {x:Str} {j pos}:E3 X (.Constant (.str x) j pos) (c3 (.str x)):=e_c qeR λ_=>.str x
def n3:TE3:=λ_ _ _=>False
abbrev R3:=T->T->Gp->Q3->Prop
def RA (K:Frg) (r3:R3) (r:R2):Prop:=∀ x y v u G H q Q,HR K G H->Rp K H x v->Rp K H y u->r3 x y G q->Aft K G H q Q->r v u H Q
def o3 (r:R3) (ta tb:TE3):TE3:=λτ G q=>ta τ G λx G1=>tb τ G1 λy G2=>r x y G2 q
def qeC {K:Frg} {r3:R3} {r:R2} (hr:RA K r3 r) {σ:L2.St} {H:Hp} {Q:VK} (h:lE K (o3 r3 ta tb) σ H Q):tOp r (lE K ta) (lE K tb) σ H Q:=by
 obtain ⟨τ,G,q,rl,h,af⟩:=h;refine jc rl h λx G1 h1 v H1 rx hr1 k1 rl1=>jc rl1 h1 λy G2 h2 u H2 ry hr2 k2 rl2=>?_;exact hr x y v u G2 H2 q Q hr2 (rx.keep hr1 k2) ry h2 (af.back (k1.trans k2))
def qez {op:Operator} {r3:R3} {r:R2} (ho:OpR X (binaryOp op) r) (hr:RA X.K r3 r) (ha:E3 X a ta) (hb:E3 X b tb):E3 X (.BinOp a op b pos) (o3 r3 ta tb):=
 R0 (qpc ho ha hb) λ_ _ _ h=>qeC hr h
def qpT {op:CmpOp} {r3:R3} {r:R2} (ho:OpR X (compareOp op) r) (hr:RA X.K r3 r) (ha:E3 X a ta) (hb:E3 X b tb) (hm:behindInMarks op b=false):E3 X (.Compare a [op] [b] pos) (o3 r3 ta tb):=
 R0 (qin ho ha hb hm) λ_ _ _ h=>qeC hr h
def tb3 (t:TE3):TT3:=λτ G q=>t τ G λx G'=>match x with|.bl k=>q k G'|_=>False
def qju {K:Frg} {t:TE3} {t2:TE} (hw:∀ σ H Q,lE K t σ H Q->t2 σ H Q) {σ:L2.St} {H:Hp} {Q:Bool->Hp->Prop} (h:lT K (tb3 t) σ H Q):qnD t2 σ H Q:=by
 obtain ⟨τ,G,q,rl,h,af⟩:=h;refine hw _ _ _ (jc rl h λx G1 h1 v H1 rx hr1 k1 rl1=>?_);cases x with
 |bl k=>cases rx;exact ⟨k,rfl,af k G1 h1 H1 hr1 k1⟩
 |_=>exact h1.elim
def qpl {op:CmpOp} {r3:R3} {r:R2} (ho:OpR X (compareOp op) r) (hr:RA X.K r3 r) (ha:E3 X a ta) (hb:E3 X b tb) (hm:behindInMarks op b=false):C3 X (.Compare a [op] [b] pos) (tb3 (o3 r3 ta tb)):=
 qoI (qg4 ho ha hb hm) λ_ _ _ h=>qju (λ_ _ _=>qeC hr) h
def ch3 (r r':R3) (ta tb tc:TE3):TE3:=λτ G q=>ta τ G λx G1=>tb τ G1 λy G2=>r x y G2 λz G3=>match z with
 |.bl k=>if k=true then tc τ G3 λw G4=>r' y w G4 q else q (.bl false) G3
 |_=>False
def qoN {K:Frg} {r3 r3':R3} {r r':R2} (hr:RA K r3 r) (hr':RA K r3' r') {σ:L2.St} {H:Hp} {Q:VK} (h:lE K (ch3 r3 r3' ta tb tc) σ H Q):qfy r r' (lE K ta) (lE K tb) (lE K tc) σ H Q:=by
 obtain ⟨τ,G,q,rl,h,af⟩:=h;refine jc rl h λx G1 h1 v H1 rx hr1 k1 rl1=>jc rl1 h1 λy G2 h2 u H2 ry hr2 k2 rl2=>?_;refine hr x y v u G2 H2 _ _ hr2 (rx.keep hr1 k2) ry h2 λz G3 h3 w H3 rz hr3 k3=>?_;cases z with
 |bl k=>
  cases rz;refine ⟨k,rfl,?_⟩;cases k with
  |false=>
   rw [if_neg Bool.false_ne_true];rw [show (match T.bl false with|.bl k=>if k=true then tc τ G3 λw G4=>r3' y w G4 q else q (.bl false) G3|_=>False)=q (.bl false) G3 from by simp] at h3;exact af _ G3 h3 _ H3 (.bl false) hr3 ((k1.trans k2).trans k3)
  |true=>
   rw [if_pos rfl];refine jc (rl2.next hr3 k3) (show tc τ G3 λw G4=>r3' y w G4 q from by simpa using h3) λw G4 h4 w' H4 rw' hr4 k4 rl4=>?_;exact hr' y w _ _ G4 H4 q Q hr4 ((ry.keep hr2 k3).keep hr3 k4) rw' h4 (af.back (((k1.trans k2).trans k3).trans k4))
 |_=>exact h3.elim
def qhe {op op':CmpOp} {r3 r3':R3} {r r':R2} (ho:OpR X (compareOp op) r) (hr:RA X.K r3 r) (ho':OpR X (compareOp op') r') (hr':RA X.K r3' r') (ha:E3 X a ta) (hb:E3 X b tb) (hc:E3 X c tc)
  (hm:lastMarks [op,op'] [b,c]=false:=by with_unfolding_all rfl):E3 X (.Compare a [op,op'] [b,c] pos) (ch3 r3 r3' ta tb tc):=
 R0 (qd0 ho ho' ha hb hc hm) λ_ _ _ h=>qoN hr hr' h
def qqb (K:Frg) (r3:T->Gp->Q3->Prop) (r:V->Hp->VK->Prop):Prop:=∀ x v G H q Q,HR K G H->Rp K H x v->r3 x G q->Aft K G H q Q->r v H Q
def u3 (r:T->Gp->Q3->Prop) (ta:TE3):TE3:=λτ G q=>ta τ G λx G1=>r x G1 q
def qrl {op:UnaryOp} {r3:T->Gp->Q3->Prop} {r:V->Hp->VK->Prop} (ho:UnR X (unaryOp op) r) (hr:qqb X.K r3 r) (ha:E3 X a ta):E3 X (.UnaryOp op a pos) (u3 r3 ta):=
 R0 (qpQ ho ha) λ_ _ _ ⟨τ,G,q,rl,h,af⟩=>jc rl h λx G1 h1 v H1 rx hr1 k1 rl1=>hr x v G1 H1 q _ hr1 rx h1 (af.back k1)
def QV:T->Gp->Q3->Prop:=λx G q=>match x with|.int i=>q (.int (-i)) G|_=>False
def qiG {K:Frg}:qqb K QV (rU λi=>.int (-i)):=λx v G H q Q hr rx h af=>by
 cases x with
 |int i=>cases rx;exact ⟨i,rfl,af _ G h _ H (.int _) hr Kp.refl⟩
 |_=>exact h.elim
def iI (f:Int->Int->Int):R3:=λx y G q=>match x,y with|.int i,.int j=>q (.int (f i j)) G|_,_=>False
def iC (C:Int->Int->Prop) (f:Int->Int->Int):R3:=λx y G q=>match x,y with|.int i,.int j=>C i j/\q (.int (f i j)) G|_,_=>False
def iB (f:Int->Int->Bool):R3:=λx y G q=>match x,y with|.int i,.int j=>q (.bl (f i j)) G|_,_=>False
def qgZ {K:Frg} {f:Int->Int->Int}:RA K (iI f) (rI0 λi j=>.int (f i j)):=λx y v u G H q Q hr rx ry h af=>by
 cases x<;>try exact h.elim
 cases y<;>try exact h.elim
 cases rx;cases ry;exact ⟨_,_,rfl,rfl,af _ G h _ H (.int _) hr Kp.refl⟩
def SK {K:Frg} {C:Int->Int->Prop} {f:Int->Int->Int}:RA K (iC C f) (rI C λi j=>.int (f i j)):=λx y v u G H q Q hr rx ry h af=>by
 cases x<;>try exact h.elim
 cases y<;>try exact h.elim
 cases rx;cases ry;exact ⟨_,_,rfl,rfl,h.1,af _ G h.2 _ H (.int _) hr Kp.refl⟩
def jV {K:Frg} {f:Int->Int->Bool}:RA K (iB f) (rI0 λi j=>.bl (f i j)):=λx y v u G H q Q hr rx ry h af=>by
 cases x<;>try exact h.elim
 cases y<;>try exact h.elim
 cases rx;cases ry;exact ⟨_,_,rfl,rfl,af _ G h _ H (.bl _) hr Kp.refl⟩
def qo7 (ha:E3 X a ta) (hb:E3 X b tb):E3 X (.BinOp a .Sub b pos) (o3 (iI (·-·)) ta tb):=qez qjT qgZ ha hb
def qoS (ha:E3 X a ta) (hb:E3 X b tb):E3 X (.BinOp a .Mult b pos) (o3 (iC Q7 (·*·)) ta tb):=qez qka SK ha hb
def qpr (ha:E3 X a ta) (hb:E3 X b tb):E3 X (.BinOp a .Mod b pos) (o3 (iC (λ_ j=>0<j) (·%·)) ta tb):=qez qlR SK ha hb
def qpq (ha:E3 X a ta) (hb:E3 X b tb):E3 X (.BinOp a .FloorDiv b pos) (o3 (iC qa2 (·/·)) ta tb):=qez qh6 SK ha hb
def qpK (ha:E3 X a ta) (hb:E3 X b tb):E3 X (.BinOp a .Pow b pos) (o3 (iC qa9 (λi j=>i ^ j.toNat)) ta tb):=qez qmr SK ha hb
def qjP (ha:E3 X a ta) (hb:E3 X b tb):E3 X (.BinOp a .BitAnd b pos) (o3 (iI Builtin.bitAnd) ta tb):=qez ql9 qgZ ha hb
def qpn (ha:E3 X a ta) (hb:E3 X b tb):E3 X (.BinOp a .LShift b pos) (o3 (iC qa9 (λi j=>i*2 ^ j.toNat)) ta tb):=qez qkV SK ha hb
def qoE (ha:E3 X a ta) (hb:E3 X b tb):E3 X (.BinOp a .RShift b pos) (o3 (iC (λ_ j=>0<=j) (λi j=>i/2 ^ j.toNat)) ta tb):=qez qjQ SK ha hb
def qou (ha:E3 X a ta):E3 X (.UnaryOp .USub a pos) (u3 QV ta):=qrl qkt qiG ha
def qZ:T->T->Option Bool
 |.non,.non=>some true|.non,.int _=>some false|.int _,.non=>some false|.non,.bl _=>some false|.bl _,.non=>some false|.non,.str _=>some false|.str _,.non=>some false
 |.int i,.int j=>some (decide (i=j))|.bl i,.bl j=>some (decide (i=j))|.str i,.str j=>some (decide (i=j))
 |.int _,.str _=>some false|.str _,.int _=>some false|.bl _,.str _=>some false|.str _,.bl _=>some false
 |_,_=>none
def qaO {K:Frg} {H:Hp} {x y:T} {v u:V} {k:Bool} (rx:Rp K H x v) (ry:Rp K H y u) (h:qZ x y=some k):qoR v u=true/\decide (v=u)=k:=by
 cases rx<;>cases ry<;>simp [qZ] at h<;>subst h<;>refine ⟨rfl,?_⟩<;>simp
def YD (neg:Bool):R3:=λx y G q=>match y with|.non=>q (.bl (match x with|.non=>!neg|_=>neg)) G|_=>False
def qnp {K:Frg} {H:Hp} {x:T} {v:V} (rx:Rp K H x v):decide (v=.non)=(match x with|.non=>true|_=>false):=by
 cases rx<;>simp
def qaR {K:Frg}:RA K (YD true) (λx y H Q=>y=.non/\Q (.bl (!decide (x=.non))) H):=λx y v u G H q Q hr rx ry h af=>by
 cases y<;>try exact h.elim
 cases ry;refine ⟨rfl,?_⟩;rw [qnp rx];refine af _ G h _ H ?_ hr Kp.refl;cases x<;>exact .bl _
variable {tA tB:TT3} {ZY:List Expr}
def VB (t u:TT3):TT3:=λτ G q=>t τ G λk G1=>if k=true then u τ G1 q else q false G1
def or3 (t u:TT3):TT3:=λτ G q=>t τ G λk G1=>if k=true then q true G1 else u τ G1 q
def JB (t:TT3):TT3:=λτ G q=>t τ G λk G1=>q (!k) G1
def ql1 (ha:C3 X a tA):W3 X (.BoolOp .And [a] pos) tA:=qip ha
def qpp (ha:C3 X a tA):W3 X (.BoolOp .Or [a] pos) tA:=qkS ha
def qpD (ha:C3 X a tA) (hb:W3 X (.BoolOp .And (b::ZY) pos) tB):W3 X (.BoolOp .And (a::b::ZY) pos) (VB tA tB):=
 qqI (qnd ha hb) λ_ _ _ ⟨τ,G,q,rl,h,af⟩=>SW rl h λk G1 h1 H1 hr1 k1 rl1=>by
  cases k with
  |true=>rw [if_pos rfl] at h1 ⊢;exact ⟨τ,G1,q,rl1,h1,af.back k1⟩
  |false=>rw [if_neg Bool.false_ne_true] at h1 ⊢;exact af _ G1 h1 H1 hr1 k1
def qq4 (ha:C3 X a tA) (hb:W3 X (.BoolOp .Or (b::ZY) pos) tB):W3 X (.BoolOp .Or (a::b::ZY) pos) (or3 tA tB):=
 qqI (qoK ha hb) λ_ _ _ ⟨τ,G,q,rl,h,af⟩=>SW rl h λk G1 h1 H1 hr1 k1 rl1=>by
  cases k with
  |true=>rw [if_pos rfl] at h1 ⊢;exact af _ G1 h1 H1 hr1 k1
  |false=>rw [if_neg Bool.false_ne_true] at h1 ⊢;exact ⟨τ,G1,q,rl1,h1,af.back k1⟩
def qpb (ha:C3 X a tA):C3 X (.UnaryOp .Not a pos) (JB tA):=
 qoI (qlu ha) λ_ _ _ ⟨τ,G,q,rl,h,af⟩=>SW rl h λk G1 h1 H1 hr1 k1 rl1=>af _ G1 h1 H1 hr1 k1
def qoB {e:Expr} {t:TE3} (h:E3 X e t) (he:∀ whole,isTrue e X.env whole=(do let v←whole;standAt e.pos;holding [v] (truthy v)):=by intro _;rfl):C3 X e (tb3 t):=
 qoI (qjN h he) λ_ _ _ h=>qju (λ_ _ _ h=>h) h
def zk (ta tb:TE3):TE3:=λτ G q=>ta τ G λx G1=>match x with|.bl k=>if k=true then tb τ G1 q else q (.bl false) G1|_=>False
def UV (ta tb:TE3):TE3:=λτ G q=>ta τ G λx G1=>match x with|.bl k=>if k=true then q (.bl true) G1 else tb τ G1 q|_=>False
def ja (ta:TE3):TE3:=λτ G q=>ta τ G λx G1=>match x with|.bl k=>q (.bl (!k)) G1|_=>False
def qoX {op} (h:E3 X a ta):E3 X (.BoolOp op [a] pos) ta:=qi6 h
def qoO (ha:E3 X a ta) (hb:E3 X (.BoolOp .And (b::ZY) pos) tb):E3 X (.BoolOp .And (a::b::ZY) pos) (zk ta tb):=
 R0 (qkZ ha hb) λ_ _ _ ⟨τ,G,q,rl,h,af⟩=>jc rl h λx G1 h1 v H1 rx hr1 k1 rl1=>by
  cases x with
  |bl k=>
   cases rx;refine ⟨k,rfl,?_⟩;cases k with
   |true=>rw [if_pos rfl];exact ⟨τ,G1,q,rl1,(show tb τ G1 q from by simpa using h1),af.back k1⟩
   |false=>rw [if_neg Bool.false_ne_true];exact af _ G1 (by simpa using h1) _ H1 (.bl false) hr1 k1
  |_=>exact h1.elim
def qpe (ha:E3 X a ta):E3 X (.UnaryOp .Not a pos) (ja ta):=
 R0 (qlE ha) λ_ _ _ ⟨τ,G,q,rl,h,af⟩=>jc rl h λx G1 h1 v H1 rx hr1 k1 rl1=>by
  cases x with
  |bl k=>cases rx;exact ⟨k,rfl,af _ G1 h1 _ H1 (.bl _) hr1 k1⟩
  |_=>exact h1.elim
def if3 (t:TT3) (ta tb:TE3):TE3:=λτ G q=>t τ G λk G1=>if k=true then ta τ G1 q else tb τ G1 q
def qq0 {c:Expr} (hc:C3 X c tA) (ha:E3 X a ta) (hb:E3 X b tb):E3 X (.IfExp c a b pos) (if3 tA ta tb):=
 R0 (qd8 hc ha hb) λ_ _ _ ⟨τ,G,q,rl,h,af⟩=>SW rl h λk G1 h1 H1 hr1 k1 rl1=>by
  cases k with
  |true=>rw [if_pos rfl] at h1 ⊢;exact ⟨τ,G1,q,rl1,h1,af.back k1⟩
  |false=>rw [if_neg Bool.false_ne_true] at h1 ⊢;exact ⟨τ,G1,q,rl1,h1,af.back k1⟩
variable {e:Expr} {es:List Expr} {te:TE3} {t:TA3}
def qh:TA3:=λ_ G q=>q [] G
def qb (ta:TE3) (tr:TA3):TA3:=λτ G q=>ta τ G λx G1=>tr τ G1 λxs G2=>q (x::xs) G2
def qo5:A3 X [] qh:=qqk qfQ λ_ H _ ⟨τ,G,q,rl,h,af⟩=>af _ G h _ H .nil rl.hp Kp.refl
def qm5 (ha:E3 X e te) (hr:A3 X es t) (hs:starEach (e::es) X.env=(false,eval e X.env)::starEach es X.env:=by rfl):A3 X (e::es) (qb te t):=
 qqk (N9 ha hr hs) λ_ _ _ ⟨τ,G,q,rl,h,af⟩=>jc rl h λx G1 h1 v H1 rx hr1 k1 rl1=>VT rl1 h1 λxs G2 h2 vs H2 rs hr2 k2 rl2=>
  af _ G2 h2 _ H2 (.cons (rx.keep hr1 k2) rs) hr2 (k1.trans k2)
def qP (t:TA3):TE3:=λτ G q=>t τ G λxs G1=>xs.length<=sizeLine/\q (.tup xs) G1
def zM (t:TA3):TE3:=λτ G q=>t τ G λxs G1=>xs.length<=sizeLine/\∀ p,G1 p=none->q (.ref p) (gu G1 p (.lst xs))
def qp0 {x1} (h:A3 X es t):E3 X (.Tuple es x1 pos) (qP t):=
 R0 (qkY h) λ_ _ _ ⟨τ,G,q,rl,h,af⟩=>VT rl h λxs G1 h1 vs H1 rs hr1 k1 rl1=>⟨by rw [← rs.length];exact h1.1,λp hp=>
  af _ G1 h1.2 _ _ (.tup (SqT.of zG) (rs.keep hr1 (Kp.laid hp))) (hr1.laid hp) (k1.trans (Kp.laid hp))⟩
def qo6 (h:A3 X es t):E3 X (.List es pos) (zM t):=
 R0 (qjK h) λ_ _ _ ⟨τ,G,q,rl,h,af⟩=>VT rl h λxs G1 h1 vs H1 rs hr1 k1 rl1=>⟨by rw [← rs.length];exact h1.1,λp hp=>
  af _ _ (h1.2 p (hr1.free hp)) _ _ (.ref p) (hr1.newL hp rs) (k1.trans (Kp.newL hp))⟩
def NH (K:Frg) (r3:List T->Gp->Q3->Prop) (r:List V->Hp->VK->Prop):Prop:=∀ xs vs G H q Q,HR K G H->Rps K H xs vs->r3 xs G q->Aft K G H q Q->r vs H Q
def cb3 (r:List T->Gp->Q3->Prop) (t:TA3):TE3:=λτ G q=>t τ G λxs G1=>r xs G1 q
def qni {K:Frg} {r3:List T->Gp->Q3->Prop} {r:List V->Hp->VK->Prop} (hr:NH K r3 r) {σ:L2.St} {H:Hp} {Q:VK} (h:lE K (cb3 r3 t) σ H Q):tCB r (lA K t) σ H Q:=by
 obtain ⟨τ,G,q,rl,h,af⟩:=h;exact VT rl h λxs G1 h1 vs H1 rs hr1 k1 rl1=>hr xs vs G1 H1 q Q hr1 rs h1 (af.back k1)
def qiv {x:Str} {p:Pos} {id:String} {r3:List T->Gp->Q3->Prop} {r:List V->Hp->VK->Prop} (hc:VO X (.builtin id) r) (hr:NH X.K r3 r) (hg:Gl X x) (hm:X.mg x=none) (hv:bootBuiltins x=some (.builtin id)) (ha:A3 X (e::es) t) (hn:x≠"__name__" := by decide) (hdb:(x==("__debug__" : Str))=false:=by decide)
  (he:starEach (e::es) X.env=(false,eval e X.env)::starEach es X.env:=by rfl) (hpl:(backTo pos (starEach es X.env)).any (·.1)=false:=by rfl):E3 X (.Call (.Name x p) (e::es) [] pos) (cb3 r3 t):=
 R0 (qal hc hg hm hv ha hn hdb he hpl) λ_ _ _ h=>qni hr h
def qdN {x:Str} {p:Pos} {ty:String} {r3:List T->Gp->Q3->Prop} {r:List V->Hp->VK->Prop} (hc:VO X (.type ty) r) (hr:NH X.K r3 r) (hg:Gl X x) (hm:X.mg x=none) (hv:bootBuiltins x=some (.type ty)) (ha:A3 X (e::es) t) (hn:x≠"__name__" := by decide) (hdb:(x==("__debug__" : Str))=false:=by decide)
  (he:starEach (e::es) X.env=(false,eval e X.env)::starEach es X.env:=by rfl) (hpl:(backTo pos (starEach es X.env)).any (·.1)=false:=by rfl):E3 X (.Call (.Name x p) (e::es) [] pos) (cb3 r3 t):=
 R0 (qdi hc hg hm hv ha hn hdb he hpl) λ_ _ _ h=>qni hr h
end
def zo (G:Gp) (p:Addr):Option (List T):=match G p with|some (.lst xs)=>some xs|some (.frz xs)=>some xs|none=>none
section
variable {K:Frg} {G G':Gp} {H H':Hp}
def jo (hr:HR K G H) {p:Addr} {xs:List T} (h:zo G p=some xs):∃ vs,SqL K H p vs/\Rps K H xs vs:=by
 unfold zo at h;split at h
 ·rename_i ys e;cases h;obtain ⟨vs,h1,h2⟩:=hr p _ e;exact ⟨vs,SqL.of h1,h2⟩
 ·rename_i ys e;cases h;obtain ⟨vs,⟨o,h1⟩,h2⟩:=hr p _ e;exact ⟨vs,.inl (.inr ⟨o,h1⟩),h2⟩
 ·cases h
def HR.lst (hr:HR K G H) {p:Addr} {xs:List T} (h:G p=some (.lst xs)):∃ vs,H p=some (.lst vs)/\Rps K H xs vs:=hr p _ h
def Rps.atI {xs:List T} {vs:List V} {i:Int} {x:T} (r:Rps K H xs vs) (h:atI xs i=some x):∃ v,L2.atI vs i=some v/\Rp K H x v:=by
 unfold L2.atI at h ⊢;rw [← r.length];cases e:ixN xs.length i with
 |none=>rw [e] at h;cases h
 |some j=>
  rw [e] at h;exact r.get (by simpa using h)
end
def ix3:R3:=λx y G q=>match x,y with
 |.tup xs,.int i=>(match atI xs i with|some z=>q z G|none=>False)
 |.ref p,.int i=>(match zo G p with|some xs=>(match atI xs i with|some z=>q z G|none=>False)|none=>False)
 |_,_=>False
section
variable {X:Cx} {a b c e:Expr} {es:List Expr} {ta tb tc te:TE3} {t:TA3} {pos:Pos}
def qlI {K:Frg}:RA K ix3 (rIx K):=λx y v u G H q Q hr rx ry h af=>by
 cases x<;>try exact h.elim
 case tup xs=>
  cases y<;>try exact h.elim
  case int i=>
   unfold ix3 at h;simp only at h;split at h
   ·rename_i z e;cases ry;cases rx with
    |tup hs rs=>
     obtain ⟨w,e2,rw'⟩:=rs.atI e;exact .inr (.inl ⟨_,_,i,w,rfl,rfl,hs,e2,af z G h w H rw' hr Kp.refl⟩)
   ·exact h.elim
 case ref p=>
  cases y<;>try exact h.elim
  case int i=>
   unfold ix3 at h;simp only at h;split at h
   ·rename_i xs e0;split at h
    ·rename_i z e;cases ry;cases rx;obtain ⟨vs,hs,rs⟩:=jo hr e0;obtain ⟨w,e2,rw'⟩:=rs.atI e;exact .inl ⟨p,vs,i,w,rfl,rfl,hs,e2,af z G h w H rw' hr Kp.refl⟩
    ·exact h.elim
   ·exact h.elim
def qri (ha:E3 X a ta) (hb:E3 X b tb) (hs:XC b:=by intro _ _;rfl):E3 X (.Subscript a b pos) (o3 ix3 ta tb):=R0 (ql5 qmw ha hb hs) λ_ _ _ h=>qeC qlI h
def Z4 {α:Type} (xs:List α) (lo hi:Option Int):List α:=(xs.drop (HT.sIx xs.length 0 lo)).take (HT.sIx xs.length xs.length hi-HT.sIx xs.length 0 lo)
def Rps.cut {K:Frg} {H:Hp} {xs:List T} {vs:List V} (r:Rps K H xs vs) (lo hi:Option Int):Rps K H (Z4 xs lo hi) (qgg vs lo hi):=by
 unfold Z4 qgg;rw [r.length];exact (r.drop _).take _
abbrev TO3:=St3->Gp->(Option Int->Gp->Prop)->Prop
def lO (K:Frg) (t:TO3):TO:=λσ H Q=>∃ τ G q,Rel K τ G σ H/\t τ G q/\∀ x G',q x G'->∀ H',HR K G' H'->Kp G H G' H'->Q x H'
abbrev P3 (X:Cx) (e:Option Expr) (t:TO3):Prop:=PO X e (lO X.K t)
def np3:TO3:=λ_ G q=>q none G
def sp3 (t:TE3):TO3:=λτ G q=>t τ G λx G1=>match x with|.int i=>q (some i) G1|_=>False
def qrw {X:Cx} {e:Option Expr} {t t':TO} (h:PO X e t) (w:∀ σ H Q,t' σ H Q->t σ H Q):PO X e t':=λpins s σ H Q I q=>h pins s σ H Q I (w σ H Q q)
def qlf (h:E3 X e te):P3 X (some e) (sp3 te):=qrw (qhJ h) λ_ _ _ ⟨τ,G,q,rl,h,af⟩=>jc rl h λx G1 h1 v H1 rx hr1 k1 rl1=>by
 cases x<;>try exact h1.elim
 cases rx;exact ⟨_,rfl,af _ G1 h1 H1 hr1 k1⟩
def sl3:T->Option Int->Option Int->Gp->Q3->Prop:=λx lo hi G q=>match x with
 |.tup xs=>¬ (HT.sIx xs.length 0 lo=0/\HT.sIx xs.length xs.length hi=xs.length)/\q (.tup (Z4 xs lo hi)) G
 |.ref p=>(match zo G p with|some xs=>∀ a,G a=none->q (.ref a) (gu G a (.lst (Z4 xs lo hi)))|none=>False)
 |_=>False
def JX (te:TE3) (tl th:TO3):TE3:=λτ G q=>te τ G λx G1=>tl τ G1 λl G2=>th τ G2 λu G3=>sl3 x l u G3 q
def qhH {lo hi:Option Expr} {tl th:TO3} {p2:Pos} (he:E3 X e te) (hl:P3 X lo tl) (hu:P3 X hi th):E3 X (.Subscript e (.Slice lo hi none p2) pos) (JX te tl th):=
 R0 (qen (qnZ.or qh0) he hl hu) λ_ _ _ ⟨τ,G,q,rl,h,af⟩=>jc rl h λx G1 h1 v H1 rx hr1 k1 rl1=>
  ⟨τ,G1,_,rl1,h1,λl G2 h2 H2 hr2 k2=>⟨τ,G2,_,rl1.next hr2 k2,h2,λu G3 h3 H3 hr3 k3=>by
   have kk:=(k1.trans k2).trans k3;have rx3:=(rx.keep hr1 k2).keep hr2 k3;cases x<;>try exact h3.elim
   case tup xs=>
    cases rx3 with
    |tup hs rs=>
     refine .inl ⟨_,_,rfl,hs,by rw [← rs.length];exact h3.1,λp hp=>?_⟩;exact af _ G3 h3.2 _ _ (.tup (SqT.of zG) ((rs.cut _ _).keep hr3 (Kp.laid hp))) (hr3.laid hp) (kk.trans (Kp.laid hp))
   case ref p=>
    unfold sl3 at h3;simp only at h3;split at h3
    ·rename_i xs e0;cases rx3;obtain ⟨vs,hs,rs⟩:=jo hr3 e0;refine .inr ⟨p,vs,rfl,hs,λa ha=>?_⟩;exact af _ _ (h3 a (hr3.free ha)) _ _ (.ref a) (hr3.newL ha (rs.cut _ _)) (kk.trans (Kp.newL ha))
    ·exact h3.elim⟩⟩
def qdd {K:Frg} {H:Hp} {xs:List T} {vs:List V} (r:Rps K H xs vs):vs=[]↔xs=[]:=by
 cases r<;>simp
def q0:R3:=λx y G q=>match x,y with
 |.tup xs,.tup ys=>xs≠[]/\xs.length+ys.length<=sizeLine/\q (.tup (xs++ys)) G
 |.ref a,.ref b=>(match G a,G b with|some (.lst xs),some (.lst ys)=>xs.length+ys.length<=sizeLine/\∀ p,G p=none->q (.ref p) (gu G p (.lst (xs++ys)))|_,_=>False)
 |.int i,.int j=>q (.int (i+j)) G
 |_,_=>False
def qh8 {K:Frg}:RA K q0 (λx y H Q=>(rI0 (λi j=>.int (i+j)) x y H Q\/qmy K x y H Q)\/qqy x y H Q):=λx y v u G H q Q hr rx ry h af=>by
 cases x<;>try exact h.elim
 case int i=>
  cases y<;>try exact h.elim
  cases rx;cases ry;exact .inl (.inl ⟨_,_,rfl,rfl,af _ G h _ H (.int _) hr Kp.refl⟩)
 case tup xs=>
  cases y<;>try exact h.elim
  case tup ys=>
   obtain ⟨h1,h2,h3⟩:=h;cases rx with
   |tup hs rs=>
    cases ry with
    |tup hs' rs'=>
     refine .inl (.inr ⟨_,_,_,_,rfl,rfl,hs,hs',λz=>h1 ((qdd rs).mp z),by rw [← rs.length,← rs'.length];exact h2,λz=>?_,λz p hp=>?_⟩)
     ·have e:=(qdd rs').mp z;subst e;rw [List.append_nil] at h3;exact af _ G h3 _ H (.tup hs rs) hr Kp.refl
     ·exact af _ G h3 _ _ (.tup (SqT.of zG) ((rs.append rs').keep hr (Kp.laid hp))) (hr.laid hp) (Kp.laid hp)
 case ref a=>
  cases y<;>try exact h.elim
  case ref b=>
   unfold q0 at h;simp only at h;split at h
   ·rename_i xs ys e1 e2;cases rx;cases ry;obtain ⟨vs,g1,r1⟩:=hr.lst e1;obtain ⟨us,g2,r2⟩:=hr.lst e2;refine .inr ⟨a,b,vs,us,rfl,rfl,g1,g2,by rw [← r1.length,← r2.length];exact h.1,λp hp=>?_⟩;exact af _ _ (h.2 p (hr.free hp)) _ _ (.ref p) (hr.newL hp (r1.append r2)) (Kp.newL hp)
   ·exact h.elim
def qkk (ha:E3 X a ta) (hb:E3 X b tb):E3 X (.BinOp a .Add b pos) (o3 q0 ta tb):=qez ((qjR.or qhK).or qj4) qh8 ha hb
def zq:T->Bool
 |.non=>true|.bl _=>true|.int _=>true|.str _=>true|_=>false
def eqF:T->T->Bool
 |.non,.non=>true
 |.bl a,.bl b=>a==b
 |.bl a,.int b=>(if a then 1 else 0)==b
 |.int a,.bl b=>a==(if b then 1 else 0)
 |.int a,.int b=>a==b
 |.str a,.str b=>a==b
 |_,_=>false
def N0 {K:Frg} {H:Hp} {x:T} {v:V} (r:Rp K H x v) (h:zq x=true):R4 v=true:=by
 cases r<;>first|rfl|(cases h)
def TU {K:Frg} {H:Hp}:∀ {x:List T} {v:List V},Rps K H x v->x.all zq=true->v.all R4=true
 |_,_,.nil,_=>rfl
 |_,_,.cons a b,h=>by
  rw [List.all_cons,Bool.and_eq_true] at h ⊢;exact ⟨N0 a h.1,TU b h.2⟩
def qlY {K:Frg} {H:Hp} {x y:T} {v u:V} (r:Rp K H x v) (s:Rp K H y u) (h:zq x=true) (h':zq y=true):eqV v u=eqF x y:=by
 cases r<;>first|(cases h;done)|(cases s<;>first|rfl|(cases h';done))
def qcH {K:Frg} {H:Hp} {x:T} {v:V} (r:Rp K H x v) (h:zq x=true):∀ {ys:List T} {us:List V},Rps K H ys us->ys.all zq=true->inV v us=ys.any λy=>eqF y x
 |_,_,.nil,_=>rfl
 |_,_,.cons a b,h'=>by
  rw [List.all_cons,Bool.and_eq_true] at h';unfold inV;rw [List.any_cons,List.any_cons,qlY a r h'.1 h];congr 1;exact qcH r h b h'.2
def in3 (neg:Bool):R3:=λx y G q=>zq x=true/\match y with
 |.tup ys=>ys.all zq=true/\q (.bl (if neg then !(ys.any λy=>eqF y x) else (ys.any λy=>eqF y x))) G
 |.ref p=>(match zo G p with|some ys=>ys.all zq=true/\q (.bl (if neg then !(ys.any λy=>eqF y x) else (ys.any λy=>eqF y x))) G|none=>False)
 |_=>False
def qj3 {K:Frg} {neg:Bool}:RA K (in3 neg) (rIn K neg):=λx y v u G H q Q hr rx ry h af=>by
 obtain ⟨hf,h⟩:=h;cases y<;>try exact h.elim
 case tup ys=>
  cases ry with
  |tup hs rs=>
   refine ⟨_,_,rfl,.inr hs,N0 rx hf,TU rs h.1,?_⟩;rw [qcH rx hf rs h.1];exact af _ G h.2 _ H (.bl _) hr Kp.refl
 case ref p=>
  simp only at h;split at h
  ·rename_i ys e;cases ry;obtain ⟨us,hs,rs⟩:=jo hr e;refine ⟨_,_,rfl,.inl hs,N0 rx hf,TU rs h.1,?_⟩;rw [qcH rx hf rs h.1];exact af _ G h.2 _ H (.bl _) hr Kp.refl
  ·exact h.elim
def jE:List T->Gp->Q3->Prop:=λxs G q=>match xs with
 |[.tup ys]=>q (.int ys.length) G
 |[.str y]=>y.length<=sizeLine/\q (.int y.length) G
 |[.ref p]=>(match zo G p with|some ys=>q (.int ys.length) G|none=>False)
 |_=>False
def KZ {K:Frg} {H:Hp} {x:T} {vs:List V} (r:Rps K H [x] vs):∃ v,vs=[v]/\Rp K H x v:=by
 cases r with
 |cons a b=>cases b;exact ⟨_,rfl,a⟩
def qoa {K:Frg} {H:Hp} {x y:T} {vs:List V} (r:Rps K H [x,y] vs):∃ v u,vs=[v,u]/\Rp K H x v/\Rp K H y u:=by
 cases r with
 |cons a b=>cases b with|cons c d=>cases d;exact ⟨_,_,rfl,a,c⟩
def zt {K:Frg}:NH K jE (λxs H Q=>∃ x n,xs=[x]/\qqq K x H n/\Q (.int n) H):=λxs vs G H q Q hr rs h af=>by
 unfold jE at h;split at h
 ·obtain ⟨v,rfl,r⟩:=KZ rs;cases r with
  |tup hs r2=>exact ⟨_,_,rfl,.inr ⟨_,hs,rfl⟩,by rw [← r2.length];exact af _ G h _ H (.int _) hr Kp.refl⟩
 ·obtain ⟨v,rfl,r⟩:=KZ rs;cases r;exact ⟨_,_,rfl,⟨h.1,rfl⟩,af _ G h.2 _ H (.int _) hr Kp.refl⟩
 ·obtain ⟨v,rfl,r⟩:=KZ rs;split at h
  ·rename_i ys e;cases r;obtain ⟨us,hs,r2⟩:=jo hr e;exact ⟨_,_,rfl,.inl ⟨_,hs,rfl⟩,by rw [← r2.length];exact af _ G h _ H (.int _) hr Kp.refl⟩
  ·exact h.elim
 ·exact h.elim
def VD:List T->Gp->Q3->Prop:=λxs G q=>match xs with|[.int i]=>q (.int (if i<0 then -i else i)) G|_=>False
def qbN {K:Frg}:NH K VD (λxs H Q=>∃ i,xs=[.int i]/\Q (.int (if i<0 then -i else i)) H):=λxs vs G H q Q hr rs h af=>by
 unfold VD at h;split at h
 ·obtain ⟨v,rfl,r⟩:=KZ rs;cases r;exact ⟨_,rfl,af _ G h _ H (.int _) hr Kp.refl⟩
 ·exact h.elim
def VE:List T->Gp->Q3->Prop:=λxs G q=>match xs with|[.int i,.int j]=>q (.int (if j<i then j else i)) G|_=>False
def qiu {K:Frg}:NH K VE (λxs H Q=>∃ i j,xs=[.int i,.int j]/\Q (.int (if j<i then j else i)) H):=λxs vs G H q Q hr rs h af=>by
 unfold VE at h;split at h
 ·obtain ⟨v,u,rfl,r,r'⟩:=qoa rs;cases r;cases r';exact ⟨_,_,rfl,af _ G h _ H (.int _) hr Kp.refl⟩
 ·exact h.elim
def UX:List T->Gp->Q3->Prop:=λxs G q=>match xs with|[.int i,.int j]=>q (.int (if j > i then j else i)) G|_=>False
def ZW:List T->Gp->Q3->Prop:=λxs G q=>match xs with|[.int i]=>q (.int i) G|[.bl k]=>q (.int (if k then 1 else 0)) G|_=>False
def TL {K:Frg}:NH K ZW (λxs H Q=>(∃ i,xs=[.int i]/\Q (.int i) H)\/∃ k,xs=[.bl k]/\Q (.int (if k then 1 else 0)) H):=λxs vs G H q Q hr rs h af=>by
 unfold ZW at h;split at h
 ·obtain ⟨v,rfl,r⟩:=KZ rs;cases r;exact .inl ⟨_,rfl,af _ G h _ H (.int _) hr Kp.refl⟩
 ·obtain ⟨v,rfl,r⟩:=KZ rs;cases r;exact .inr ⟨_,rfl,af _ G h _ H (.int _) hr Kp.refl⟩
 ·exact h.elim
def qI:List T->Gp->Q3->Prop:=λxs G q=>match xs with
 |[.tup ys]=>q (.tup ys) G
 |[.ref p]=>(match zo G p with|some ys=>q (.tup ys) G|none=>False)
 |_=>False
def QE {K:Frg}:NH K qI (λxs H Q=>∃ p ys,xs=[.ref p]/\((SqL K H p ys/\∀ l,H l=none->Q (.ref l) (upd H l (.tup ys)))\/(SqT K H p ys/\Q (.ref p) H))):=λxs vs G H q Q hr rs h af=>by
 unfold qI at h;split at h
 ·obtain ⟨v,rfl,r⟩:=KZ rs;cases r with
  |tup hs r2=>exact ⟨_,_,rfl,.inr ⟨hs,af _ G h _ H (.tup hs r2) hr Kp.refl⟩⟩
 ·obtain ⟨v,rfl,r⟩:=KZ rs;split at h
  ·rename_i ys e;cases r;obtain ⟨us,hs,r2⟩:=jo hr e;exact ⟨_,_,rfl,.inl ⟨hs,λl hl=>af _ G h _ _ (.tup (SqT.of zG) (r2.keep hr (Kp.laid hl))) (hr.laid hl) (Kp.laid hl)⟩⟩
  ·exact h.elim
 ·exact h.elim
def zT:List T->Gp->Q3->Prop:=λxs G q=>match xs with
 |[.tup ys]=>∀ p,G p=none->q (.ref p) (gu G p (.lst ys))
 |[.ref p]=>(match zo G p with|some ys=>∀ p,G p=none->q (.ref p) (gu G p (.lst ys))|none=>False)
 |_=>False
def qau {K:Frg}:NH K zT (λxs H Q=>∃ p ys,xs=[.ref p]/\(SqL K H p ys\/SqT K H p ys)/\∀ l,H l=none->Q (.ref l) (upd H l (.lst ys))):=λxs vs G H q Q hr rs h af=>by
 unfold zT at h;split at h
 ·obtain ⟨v,rfl,r⟩:=KZ rs;cases r with
  |tup hs r2=>exact ⟨_,_,rfl,.inr hs,λl hl=>af _ _ (h l (hr.free hl)) _ _ (.ref l) (hr.newL hl r2) (Kp.newL hl)⟩
 ·obtain ⟨v,rfl,r⟩:=KZ rs;split at h
  ·rename_i ys e;cases r;obtain ⟨us,hs,r2⟩:=jo hr e;exact ⟨_,_,rfl,.inl hs,λl hl=>af _ _ (h l (hr.free hl)) _ _ (.ref l) (hr.newL hl r2) (Kp.newL hl)⟩
  ·exact h.elim
 ·exact h.elim
def JF:T->List T->Gp->Q3->Prop:=λx xs G q=>match x,xs with
 |.ref l,[.ref b]=>(match G l,G b with|some (.lst ys),some (.lst zs)=>ys.length+zs.length<=sizeLine/\q .non (gu G l (.lst (ys++zs)))|_,_=>False)
 |_,_=>False
def JG:T->List T->Gp->Q3->Prop:=λx xs G q=>match x,xs with
 |.ref l,[y]=>(match G l with|some (.lst ys)=>ys.length<sizeLine/\q .non (gu G l (.lst (ys++[y])))|_=>False)
 |_,_=>False
def qpx (K:Frg) (r3:T->List T->Gp->Q3->Prop) (r:V->List V->Hp->VK->Prop):Prop:=∀ x xs v vs G H q Q,HR K G H->Rp K H x v->Rps K H xs vs->r3 x xs G q->Aft K G H q Q->r v vs H Q
def qhG {K:Frg}:qpx K JF qcG:=λx xs v vs G H q Q hr rx rs h af=>by
 unfold JF at h;split at h
 ·rename_i l b;split at h
  ·rename_i ys zs e1 e2;cases rx;obtain ⟨u,rfl,r⟩:=KZ rs;cases r;obtain ⟨vs,g1,r1⟩:=hr.lst e1;obtain ⟨us,g2,r2⟩:=hr.lst e2;exact ⟨l,b,vs,us,rfl,rfl,g1,g2,by rw [← r1.length,← r2.length];exact h.1,af _ _ h.2 _ _ .non (hr.wr e1 (r1.append r2)) (Kp.wr e1)⟩
  ·exact h.elim
 ·exact h.elim
def qhZ {K:Frg}:qpx K JG qb9:=λx xs v vs G H q Q hr rx rs h af=>by
 unfold JG at h;split at h
 ·rename_i l y;split at h
  ·rename_i ys e1;cases rx;obtain ⟨u,rfl,r⟩:=KZ rs;obtain ⟨vs,g1,r1⟩:=hr.lst e1;exact ⟨l,vs,u,rfl,rfl,g1,by rw [← r1.length];exact h.1,af _ _ h.2 _ _ .non (hr.wr e1 (r1.append (.cons r .nil))) (Kp.wr e1)⟩
  ·exact h.elim
 ·exact h.elim
def bm3 (r:T->List T->Gp->Q3->Prop) (to:TE3) (t:TA3):TE3:=λτ G q=>to τ G λx G1=>(match x with|.ref p=>(zo G1 p).isSome=true|_=>False)/\t τ G1 λxs G2=>r x xs G2 q
def qqH {o:Expr} {to:TE3} {name:Str} {apos cpos:Pos} {id:String} {r3:T->List T->Gp->Q3->Prop} {r:V->List V->Hp->VK->Prop} (slot:Slot "list" name id) (hty:typeOf (.builtin id)=pure (.type "method_descriptor")) (hm:MtR X id r) (hr:qpx X.K r3 r) (ho:E3 X o to) (ha:A3 X (e::es) t)
  (hbase:attributeBase o name X.env (eval o X.env)=eval o X.env:=by rfl)
  (hfew:((backTo cpos (starEach (e::es) X.env)).all (λx=>!x.1)&&(backToKw cpos (keywordEach [] X.env)).all (λx=>x.1.isSome)
   && decide ((e::es).length+([]:List Keyword).length+(if ([]:List Keyword).isEmpty then 0 else 1)<30))=true:=by rfl)
  (hline:(apos.endLine==cpos.line)=true:=by rfl) (hs:starEach (e::es) X.env=(false,eval e X.env)::starEach es X.env:=by rfl) (hplain:(backTo cpos (starEach es X.env)).any (·.1)=false:=by rfl) :
  E3 X (.Call (.Attribute o name apos) (e::es) [] cpos) (bm3 r3 to t):=
 R0 (qpf PySem.F.plainAttrs_list slot hty hm ho ha hbase hfew hline hs hplain) λ_ _ _ ⟨τ,G,q,rl,h,af⟩=>jc rl h λx G1 h1 v H1 rx hr1 k1 rl1=>by
  obtain ⟨hp,h1⟩:=h1;cases x<;>try exact hp.elim
  case ref p=>
   cases rx;have hp':(zo G1 p).isSome=true:=hp;obtain ⟨ys,e⟩:=Option.isSome_iff_exists.mp hp';obtain ⟨us,hs,r2⟩:=jo hr1 e;exact ⟨.inl ⟨rfl,us,hs⟩,VT rl1 h1 λxs G2 h2 vs H2 rs hr2 k2 rl2=>hr _ xs _ vs G2 H2 q _ hr2 (.ref p) rs h2 (af.back (k1.trans k2))⟩
def qeb {o:Expr} {to:TE3} {apos cpos:Pos} (ho:E3 X o to) (ha:A3 X [e] t)
  (hbase:attributeBase o "append" X.env (eval o X.env)=eval o X.env:=by rfl)
  (hfew:((backTo cpos (starEach [e] X.env)).all (λx=>!x.1)&&(backToKw cpos (keywordEach [] X.env)).all (λx=>x.1.isSome)
   && decide (([e]:List Expr).length+([]:List Keyword).length+(if ([]:List Keyword).isEmpty then 0 else 1)<30))=true:=by rfl)
  (hline:(apos.endLine==cpos.line)=true:=by rfl) (hs:starEach [e] X.env=(false,eval e X.env)::starEach [] X.env:=by rfl) (hplain:(backTo cpos (starEach [] X.env)).any (·.1)=false:=by rfl) :
  E3 X (.Call (.Attribute o "append" apos) [e] [] cpos) (bm3 JG to t):=qqH PySem.F.slot_list_append PySem.F.type_list_append DH qhZ ho ha hbase hfew hline hs hplain
def qee {o:Expr} {to:TE3} {apos cpos:Pos} (ho:E3 X o to) (ha:A3 X [e] t)
  (hbase:attributeBase o "extend" X.env (eval o X.env)=eval o X.env:=by rfl)
  (hfew:((backTo cpos (starEach [e] X.env)).all (λx=>!x.1)&&(backToKw cpos (keywordEach [] X.env)).all (λx=>x.1.isSome)
   && decide (([e]:List Expr).length+([]:List Keyword).length+(if ([]:List Keyword).isEmpty then 0 else 1)<30))=true:=by rfl)
  (hline:(apos.endLine==cpos.line)=true:=by rfl) (hs:starEach [e] X.env=(false,eval e X.env)::starEach [] X.env:=by rfl) (hplain:(backTo cpos (starEach [] X.env)).any (·.1)=false:=by rfl) :
  E3 X (.Call (.Attribute o "extend" apos) [e] [] cpos) (bm3 JF to t):=qqH PySem.F.slot_list_extend PySem.F.type_list_extend qcO qhG ho ha hbase hfew hline hs hplain
end
def tyT (G:Gp):T->Option String
 |.non=>some "NoneType" |.bl _=>some "bool" |.int _=>some "int" |.str _=>some "str" |.tup _=>some "tuple"
 |.ref p=>if (zo G p).isSome then some "list" else none
def QQ (t c:String):Bool:=t==c||(t == "bool" && c == "int")
def qdW (K:Frg):∀ t∈["NoneType","bool","int","str","tuple","list"],∀ c∈["bool","int","str","tuple","list"],PySem.W.kitOne K (.type t) (.type c)=some (QQ t c):=by
 intro t ht c hc;simp only [mem_cons,not_mem_nil,or_false] at ht hc;rcases ht with rfl|rfl|rfl|rfl|rfl|rfl<;>rcases hc with rfl|rfl|rfl|rfl|rfl<;>kernel_rfl
section
variable {X:Cx} {a b c e:Expr} {es:List Expr} {ta tb tc te:TE3} {t:TA3} {pos:Pos}
def TyS (K:Frg) (H:Hp) (x:V) (t:String):Prop:=match x with
 |.non=>t="NoneType" |.bl _=>t="bool" |.int _=>t="int" |.str _=>t="str"
 |.ref a=>(t="tuple"/\∃ vs,SqT K H a vs)\/(t="list"/\∃ vs,SqL K H a vs)
 |_=>False
def TyS.mem {K:Frg} {H:Hp} {x:V} {t:String} (h:TyS K H x t):t∈["NoneType","bool","int","str","tuple","list"]:=by
 cases x<;>simp [TyS] at h<;>first|(subst h;decide)|(rcases h with ⟨rfl,_⟩|⟨rfl,_⟩<;>decide)
def TyS.kitx {pins:List (Addr×Obj)} {σ:L2.St} {H:Hp} {s:Shared} {x:V} {u:Value} {t:String} (I:Inv X pins σ H s) (rx:jT x u) (h:TyS X.K H x t) :
  ∃ HH:Heap->Prop,PySem.W.KitX X.K u (.type t) HH/\HH s.heap/\u≠.builtin "__main__.__loader__#opaque" := by
 cases x with
 |non=>cases (show u=Value.none from rx);cases (show t=_ from h);exact ⟨_,PySem.W.kitx_none,True.intro,λz=>nomatch z⟩
 |bl y=>cases (show u=Value.bool y from rx);cases (show t=_ from h);exact ⟨_,PySem.W.kitx_bool,True.intro,λz=>nomatch z⟩
 |int i=>obtain ⟨tk,q⟩:=(show ∃ t,u=Value.int i t from rx);cases q;cases (show t=_ from h);exact ⟨_,PySem.W.kitx_int,True.intro,λz=>nomatch z⟩
 |str y=>obtain ⟨tk,q⟩:=(show ∃ t,u=Value.str y t from rx);cases q;cases (show t=_ from h);exact ⟨_,PySem.W.kitx_str,True.intro,λz=>nomatch z⟩
 |ref a=>
  cases (show u=Value.ref a from rx);rcases (show (t="tuple"/\∃ vs,SqT X.K H a vs)\/(t="list"/\∃ vs,SqL X.K H a vs) from h) with ⟨rfl,vs,hs⟩|⟨rfl,vs,hs⟩
  ·obtain ⟨its,_,p,_⟩:=I.tuple hs;obtain ⟨o,h1,h2,_⟩:=p;exact ⟨_,PySem.W.kitx_tuple,⟨o,h1,h2⟩,λz=>nomatch z⟩
  ·obtain ⟨its,_,p,_⟩:=I.list hs;obtain ⟨o,n,h1,h2,_⟩:=p;exact ⟨_,PySem.W.kitx_list,⟨o,h1,h2⟩,λz=>nomatch z⟩
 |_=>exact False.elim h
abbrev NJ:List String:=["bool","int","str","tuple","list"]
def qem:VO X (.builtin "isinstance") (λxs H Q=>∃ x t c,xs=[x,.ty c]/\TyS X.K H x t/\c∈NJ/\Q (.bl (QQ t c)) H):=by
 intro pins s σ H xs us Q I r h;obtain ⟨x,t,c,rfl,ht,hc,q⟩:=h;obtain ⟨u,w,rfl,rx,rc⟩:=qif r;cases (show w=Value.type c from rc);obtain ⟨HH,kx,hh,ne⟩:=ht.kitx I rx;exact PySem.W.kia_one kx I.kIn hh (qdW X.K t ht.mem c hc) ne λtk=>⟨.bl _,H,I.tok tk,rfl,q⟩
def qjC {K:Frg} {G:Gp} {H:Hp} (hr:HR K G H) {x:T} {v:V} {t:String} (r:Rp K H x v) (h:tyT G x=some t):TyS K H v t:=by
 cases r with
 |non=>cases h;rfl
 |bl _=>cases h;rfl
 |int _=>cases h;rfl
 |str _=>cases h;rfl
 |tup hs rs=>cases h;exact .inl ⟨rfl,_,hs⟩
 |ref a=>
  have h:(if (zo G a).isSome then some "list" else none)=some t:=h;split at h
  ·rename_i e;cases h;obtain ⟨ys,e⟩:=Option.isSome_iff_exists.mp e;obtain ⟨us,hs,_⟩:=jo hr e;exact .inr ⟨rfl,us,hs⟩
  ·cases h
def JH (f:String->Bool) (te:TE3):TE3:=λτ G q=>te τ G λx G1=>match tyT G1 x with|some t=>q (.bl (f t)) G1|none=>False
def qpL {tn:Str} {ty:String} {p p2:Pos} (he:E3 X e te) (hg:Gl X "isinstance") (hm:X.mg "isinstance" = none) (hg2:Gl X tn) (hm2:X.mg tn=none) (hv:bootBuiltins tn=some (.type ty)) (hmem:ty∈NJ:=by decide) (hn:tn≠"__name__" := by decide) (hdb:(tn==("__debug__" : Str))=false:=by decide)
  (hs:starEach [e,.Name tn p2] X.env=(false,eval e X.env)::starEach [.Name tn p2] X.env:=by rfl) (hs2:starEach [.Name tn p2] X.env=(false,eval (.Name tn p2) X.env)::starEach [] X.env:=by rfl) (hpl:(backTo pos (starEach [.Name tn p2] X.env)).any (·.1)=false:=by rfl) :
  E3 X (.Call (.Name "isinstance" p) [e,.Name tn p2] [] pos) (JH (λt=>QQ t ty) te):=
 R0 (qal qem hg hm PyProof.Rows.boot_isinstance (N9 he (N9 (qhg (v:=.ty ty) hg2 hm2 hv rfl hn hdb) qfQ hs2) hs) (by decide) (by decide) hs hpl)
  λ_ _ _ ⟨τ,G,q,rl,h,af⟩=>jc rl h λx G1 h1 v H1 rx hr1 k1 rl1=>by
   split at h1
   ·rename_i t e1;exact ⟨_,t,ty,rfl,qjC hr1 rx e1,hmem,af _ G1 h1 _ H1 (.bl _) hr1 k1⟩
   ·exact h1.elim
structure Ends3 where
 nx:St3->Gp->Prop
 rt:Q3
 bk:St3->Gp->Prop:=λ_ _=>False
 ct:St3->Gp->Prop:=λ_ _=>False
abbrev TS3:=Ends3->St3->Gp->Prop
def qfD (K:Frg) (G:Gp) (H:Hp) (q:St3->Gp->Prop) (Q:L2.St->Hp->Prop):Prop:=∀ τ G',q τ G'->∀ σ H',Rel K τ G' σ H'->Kp G H G' H'->Q σ H'
structure AftD (K:Frg) (G:Gp) (H:Hp) (d:Ends3) (D:Ends):Prop where
 nx:qfD K G H d.nx D.nx
 rt:Aft K G H d.rt D.rt
 bk:qfD K G H d.bk D.bk
 ct:qfD K G H d.ct D.ct
def qfD.back {K:Frg} {G G1:Gp} {H H1:Hp} {q:St3->Gp->Prop} {Q:L2.St->Hp->Prop} (a:qfD K G H q Q) (k:Kp G H G1 H1):qfD K G1 H1 q Q:=λx G' h v H' r k'=>a x G' h v H' r (k.trans k')
def AftD.back {K:Frg} {G G1:Gp} {H H1:Hp} {d:Ends3} {D:Ends} (a:AftD K G H d D) (k:Kp G H G1 H1):AftD K G1 H1 d D:=⟨a.nx.back k,a.rt.back k,a.bk.back k,a.ct.back k⟩
def lS (K:Frg) (t:TS3):TS:=λD σ H=>∃ τ G d,Rel K τ G σ H/\t d τ G/\AftD K G H d D
abbrev S3 (X:Cx) (st:Stmt) (t:TS3):Prop:=PS X st (lS X.K t)
abbrev B3 (X:Cx) (st:List Stmt) (t:TS3):Prop:=PSs X st (lS X.K t)
def qdC {X:Cx} {st:Stmt} {t t':TS} (h:PS X st t) (w:∀ D σ H,t' D σ H->t D σ H):PS X st t':=λpins s σ H D I q=>h pins s σ H D I (w D σ H q)
def qjL {X:Cx} {st:List Stmt} {t t':TS} (h:PSs X st t) (w:∀ D σ H,t' D σ H->t D σ H):PSs X st t':=λpins s σ H D I q=>h pins s σ H D I (w D σ H q)
variable {st:Stmt} {ZY:List Stmt} {t1 t2:TS3} {tA:TT3}
def qw:TS3:=λd τ G=>d.nx τ G
def qx (t u:TS3):TS3:=λd τ G=>t { d with nx:=u d } τ G
def qoA:B3 X [] qw:=qjL qid λ_ σ H ⟨τ,G,d,rl,h,af⟩=>af.nx τ G h σ H rl Kp.refl
def qmL (h1:S3 X st t1) (h2:B3 X ZY t2):B3 X (st::ZY) (qx t1 t2):=qjL (qd3 h1 h2) λD σ H ⟨τ,G,d,rl,h,af⟩=>
 ⟨τ,G,{ d with nx:=t2 d },rl,h,⟨λτ' G' h' σ' H' rl' k'=>⟨τ',G',d,rl',h',af.back k'⟩,af.rt,af.bk,af.ct⟩⟩
def qos (h1:S3 X st t1):B3 X [st] t1:=qh3 h1
def zw (te:TE3):TS3:=λd τ G=>te τ G λ_ G1=>d.nx τ G1
def qnG (he:E3 X e te) (hs:swapsWith e none pos.line X.env=pure false:=by rfl):S3 X (.Expr e pos) (zw te):=qdC (qho he hs) λ_ σ H ⟨τ,G,d,rl,h,af⟩=>
 jc rl h λx G1 h1 v H1 rx hr1 k1 rl1=>af.nx τ G1 h1 σ H1 rl1 k1
def qD (te:TE3):TS3:=λd τ G=>te τ G d.rt
def qpS (he:E3 X e te):S3 X (.Return (some e) pos) (qD te):=qdC (qmH he) λ_ σ H ⟨τ,G,d,rl,h,af⟩=>⟨τ,G,d.rt,rl,h,af.rt⟩
def jw:TS3:=λd _ G=>d.rt .non G
def za (c:TT3) (t u:TS3):TS3:=λd τ G=>c τ G λk G1=>if k=true then t d τ G1 else u d τ G1
def qq2 {c:Expr} {ba bb:List Stmt} (hc:C3 X c tA) (ha:B3 X ba t1) (hb:B3 X bb t2):S3 X (.If c ba bb pos) (za tA t1 t2):=qdC (qpZ hc ha hb) λ_ σ H ⟨τ,G,d,rl,h,af⟩=>
 SW rl h λk G1 h1 H1 hr1 k1 rl1=>by
  cases k with
  |true=>rw [if_pos rfl] at h1 ⊢;exact ⟨τ,G1,d,rl1,h1,af.back k1⟩
  |false=>rw [if_neg Bool.false_ne_true] at h1 ⊢;exact ⟨τ,G1,d,rl1,h1,af.back k1⟩
def VH:TS3:=λ_ _ _=>False
def qia {sts:List Stmt}:B3 X sts VH:=λ_ _ _ _ _ _ ⟨_,_,_,_,h,_⟩=>h.elim
abbrev TG3:=T->St3->Gp->(St3->Gp->Prop)->Prop
abbrev M2:=List T->St3->Gp->(St3->Gp->Prop)->Prop
def lG (K:Frg) (t:TG3):TG:=λv σ H Q=>∃ x τ G q,Rp K H x v/\Rel K τ G σ H/\t x τ G q/\qfD K G H q Q
def lGs (K:Frg) (t:M2):TGs:=λv σ H Q=>∃ x τ G q,Rps K H x v/\Rel K τ G σ H/\t x τ G q/\qfD K G H q Q
abbrev G3 (X:Cx) (e:Expr) (t:TG3):Prop:=PG X e (lG X.K t)
abbrev Gs3 (X:Cx) (es:List Expr) (t:M2):Prop:=PGs X es (lGs X.K t)
def qpR {X:Cx} {e:Expr} {t t':TG} (h:PG X e t) (w:∀ v σ H Q,t' v σ H Q->t v σ H Q):PG X e t':=λpins s σ H v u Q I r q=>h pins s σ H v u Q I r (w v σ H Q q)
def qlS {X:Cx} {e:List Expr} {t t':TGs} (h:PGs X e t) (w:∀ v σ H Q,t' v σ H Q->t v σ H Q):PGs X e t':=λpins s σ H v u Q I r q=>h pins s σ H v u Q I r (w v σ H Q q)
def gn3 (i:Nat):TG3:=λx τ G q=>q (τ.set i (some x)) G
def qkG {i:Nat} {x:Str} (hN:X.N.Nodup) (hi:X.N[i]?=some x:=by rfl) (hx:Loc X.env.scope x:=by first|exact Or.inl rfl|exact Or.inr rfl) (hf:X.fn x=true\/X.env.scope.names.lookup x=some .local:=by first|exact .inl rfl|exact .inr rfl):G3 X (.Name x pos) (gn3 i):=
 qpR (qhO hN hi hx hf) λv σ H Q ⟨x,τ,G,q,rx,rl,h,af⟩=>af _ G h _ H (rl.set i rx) Kp.refl
def qO:M2:=λxs τ G q=>match xs with|[]=>q τ G|_=>False
def qj (t:TG3) (u:M2):M2:=λxs τ G q=>match xs with|x::r=>t x τ G λτ' G'=>u r τ' G' q|[]=>False
def qpa:Gs3 X [] qO:=qlS qhT λv σ H Q ⟨x,τ,G,q,rx,rl,h,af⟩=>by
 cases rx with
 |nil=>exact ⟨rfl,af _ G h _ H rl Kp.refl⟩
 |cons _ _=>exact h.elim
def ql6 {tg:TG3} {tgs:M2} (h1:G3 X e tg) (h2:Gs3 X es tgs) (hs:(assignEach (e::es) X.env).map (·.2)=assign e X.env::(assignEach es X.env).map (·.2):=by rfl):Gs3 X (e::es) (qj tg tgs):=qlS (qdR h1 h2 hs) λv σ H Q ⟨x,τ,G,q,rx,rl,h,af⟩=>by
 cases rx with
 |nil=>exact h.elim
 |cons r rs=>exact ⟨_,_,rfl,_,τ,G,_,r,rl,h,λτ' G' h' σ' H' rl' k'=>⟨_,τ',G',q,rs.keep rl.hp k',rl',h',af.back k'⟩⟩
def qN (n:Nat) (t:M2):TG3:=λx τ G q=>match x with|.tup xs=>xs.length=n/\t xs τ G q|_=>False
def qpV {k:Nat} {tgs:M2} {n:Nat} (hc:X.calm=true) (h:Gs3 X es tgs) (hn:(assignEach es X.env).length=n:=by rfl) (hst:(assignEach es X.env).findIdx? (·.1)=none:=by rfl):G3 X (.Tuple es k pos) (qN n tgs):=
 qpR (qnW hc h hn hst) λv σ H Q ⟨x,τ,G,q,rx,rl,h,af⟩=>by
  cases x<;>try exact h.elim
  case tup xs=>
   cases rx with
   |tup hs rs=>exact ⟨_,_,rfl,hs,by rw [← rs.length];exact h.1,_,τ,G,q,rs,rl,h.2,af⟩
def JY:T->T->T->Gp->(Gp->Prop)->Prop:=λo i v G q=>match o,i with
 |.ref p,.int k=>(match G p with|some (.lst xs)=>(match ixN xs.length k with|some j=>q (gu G p (.lst (xs.set j v)))|none=>False)|_=>False)
 |_,_=>False
def zF (to ti:TE3):TG3:=λx τ G q=>to τ G λo G1=>ti τ G1 λi G2=>JY o i x G2 λG3=>q τ G3
def qp3 {o i : Expr} {to ti : TE3} (ho : E3 X o to) (hi : E3 X i ti) (ha : ∀ v,assign (.Subscript o i pos) X.env v = (do
      let ov←holding [v] (eval o X.env)
      let iv←holding [v,ov] (eval i X.env)
      standAt pos
      holding [v,ov,iv] (setItem ov iv v)
      release [v,ov,iv] []):=by intro _;rfl):G3 X (.Subscript o i pos) (zF to ti):=
  qpR (qjb ho hi qdU ha) λv σ H Q ⟨x,τ,G,q,rx,rl,h,af⟩=>jc rl h λy G1 h1 u H1 ry hr1 k1 rl1=>jc rl1 h1 λz G2 h2 w H2 rz hr2 k2 rl2=>by
    have rx2:=(rx.keep rl.hp k1).keep hr1 k2;have ry2:=ry.keep hr1 k2;unfold JY at h2;split at h2
    · rename_i p k;split at h2
      · rename_i xs e;split at h2
        · rename_i j ej;cases ry2;cases rz;obtain ⟨vs,g1,r1⟩:=hr2.lst e;have kk:Kp G2 H2 (gu G2 p (.lst (xs.set j x))) (upd H2 p (.lst (vs.set j v))):=Kp.wr e;exact ⟨p,vs,k,j,rfl,rfl,g1,by rw [← r1.length];exact ej,af τ _ h2 σ _ (rl2.next (hr2.wr e (r1.set rx2 j)) kk) ((k1.trans k2).trans kk)⟩
        · exact h2.elim
      · exact h2.elim
    · exact h2.elim
def qG (te:TE3) (g:TG3):TS3:=λd τ G=>te τ G λx G1=>g x τ G1 d.nx
def qpo {tg e:Expr} {g:TG3} (he:E3 X e te) (hg:G3 X tg g) (hs:swapsWithSole [tg] e pos.line X.env=pure false:=by rfl) (hw:swappedStores [tg] e X.env=pure none:=by rfl)
  (h1:(assignEach [tg] X.env).map (·.2)=[assign tg X.env]:=by rfl):S3 X (.Assign [tg] e pos) (qG te g):=qdC (qjg he hg hs hw h1) λ_ σ H ⟨τ,G,d,rl,h,af⟩=>
 jc rl h λx G1 h1 v H1 rx hr1 k1 rl1=>⟨x,τ,G1,d.nx,rx,rl1,h1,af.nx.back k1⟩
def qoQ (i:Nat) {x:Str} {e:Expr} {pos':Pos} (hN:X.N.Nodup) (he:E3 X e te) (hi:X.N[i]?=some x:=by rfl) (hx:Loc X.env.scope x:=by first|exact Or.inl rfl|exact Or.inr rfl) (hs:swapsWith e (some (.Name x pos')) pos.line X.env=pure false:=by rfl) (hf:X.fn x=true\/X.env.scope.names.lookup x=some .local:=by first|exact .inl rfl|exact .inr rfl) :
  S3 X (.Assign [.Name x pos'] e pos) (qG te (gn3 i)):=qdC (qmp hN hi hx he hs hf) λ_ σ H ⟨τ,G,d,rl,h,af⟩=>
 jc rl h λx G1 h1 v H1 rx hr1 k1 rl1=>af.nx _ G1 h1 _ H1 (rl1.set i rx) k1
def jU (i j:Nat) (ta:TA3):TS3:=λd τ G=>ta τ G λxs G1=>match xs with|[x,y]=>d.nx ((τ.set i (some x)).set j (some y)) G1|_=>False
def qoU {i j:Nat} {x y:Str} {a b:Expr} {tt:TA3} {px py pt:Pos} {kt k2 pt2} (hc:X.calm=true) (hN:X.N.Nodup) (hi:X.N[i]?=some x) (hj:X.N[j]?=some y) (hij:i≠j)
  (hx:X.env.scope.names.lookup x=some .local) (hy:X.env.scope.names.lookup y=some .local) (ha:A3 X [a,b] tt)
  (hw:swappedStores [.Tuple [.Name x px,.Name y py] kt pt] (.Tuple [a,b] k2 pt2) X.env=pure (some [x,y]):=by rfl)
  (hs:swapsWithSole [.Tuple [.Name x px,.Name y py] kt pt] (.Tuple [a,b] k2 pt2) pos.line X.env=pure false:=by rfl) :
  S3 X (.Assign [.Tuple [.Name x px,.Name y py] kt pt] (.Tuple [a,b] k2 pt2) pos) (jU i j tt):=qdC (qlM hc hN hi hj hij hx hy ha hw hs) λ_ σ H ⟨τ,G,d,rl,h,af⟩=>
 VT rl h λxs G1 h1 vs H1 rs hr1 k1 rl1=>by
  split at h1
  ·obtain ⟨v,u,rfl,r,r'⟩:=qoa rs;exact ⟨v,u,rfl,af.nx _ G1 h1 _ H1 ((rl1.set i r).set j r') k1⟩
  ·exact h1.elim
end
abbrev TI3:=St3->Gp->(List T->(Gp->Prop)->Gp->Prop)->Prop
def qiY (K:Frg) (J:It) (items:List T) (stay:Gp->Prop) (G0:Gp) (H0:Hp):Prop:=∀ G H,HR K G H->Kp G0 H0 G H->stay G ->
 (∀ i x,items[i]?=some x->J.go i H)/\(∀ i x v H',items[i]?=some x->J.yld i H v H'->Rp K H' x v/\HR K G H'/\Kp G H G H')/\J.stop items.length H
def lI (K:Frg) (wi:TI3):TI:=λσ H R=>∃ τ G r,Rel K τ G σ H/\wi τ G r/\∀ items stay G',r items stay G'->∀ J H',HR K G' H'->Kp G H G' H'->qiY K J items stay G' H'->R J H'
abbrev I3 (X:Cx) (tg iter:Expr) (wi:TI3):Prop:=PI X tg iter (lI X.K wi)
def qlU {X:Cx} {tg e:Expr} {t t':TI} (h:PI X tg e t) (w:∀ σ H R,t' σ H R->t σ H R):PI X tg e t':=λpins s σ H R I q=>h pins s σ H R I (w σ H R q)
section
variable {X:Cx} {a b c e l tg:Expr} {es:List Expr} {ta tb tc te:TE3} {t:TA3} {pos:Pos}
def qkq {tl:TE} (hl:PE X l tl):PI X tg l (λσ H R=>tl σ H λx H1=>∃ a,x=.ref a/\(((∃ xs,SqL X.K H1 a xs)/\R (Itl X.K a) H1)\/((∃ xs,SqT X.K H1 a xs)/\R (Itt X.K a) H1))):=by
 intro pins s σ H R I h;refine thn (hl pins s σ H _ I h) λv s1 ⟨x,H1,I1,r1,q1⟩=>?_;obtain ⟨a,e,⟨⟨xs,hq⟩,q⟩|⟨⟨xs,hq⟩,q⟩⟩:=q1
 ·subst e;cases r1;obtain ⟨its,rv,p,hz⟩:=I1.list hq;refine wpAny_pyIter_list p.isList ?_;refine ⟨s1.heap.objs.size,[s1.heap.objs.size],_,_,H1,rfl,I1.kept (t':=s1.toks) λb o e=>Heap.get?_push_of_some _ e,qbR a _,⟨_,Heap.get?_push_size _ rfl,rfl,rfl⟩,λb hb=>?_,q⟩;have e:b=s1.heap.objs.size:=by simpa using hb
  subst e;exact I1.fpOk (Nat.le_refl _) (I1.hok.fresh (Nat.le_refl _))
 ·subst e;cases r1;obtain ⟨its,rv,p,hz⟩:=I1.tuple hq;refine wpAny_pyIter_tuple (show s1.heap.IsTuple a its.toArray from p) ?_;refine ⟨s1.heap.objs.size,[s1.heap.objs.size],_,_,H1,rfl,I1.kept (t':=s1.toks) λb o e=>Heap.get?_push_of_some _ e,qbq a _,⟨_,Heap.get?_push_size _ rfl,rfl,rfl⟩,λb hb=>?_,q⟩;have e:b=s1.heap.objs.size:=by simpa using hb
  subst e;exact I1.fpOk (Nat.le_refl _) (I1.hok.fresh (Nat.le_refl _))
def YQ (tl:TE3):TI3:=λτ G r=>tl τ G λx G1=>match x with
 |.tup xs=>r xs (λ_=>True) G1
 |.ref p=>(match zo G1 p with|some xs=>r xs (λG=>zo G p=some xs) G1|none=>False)
 |_=>False
def qi8 {K:Frg} {p:Addr} {xs:List T} {G0:Gp} {H0:Hp}:qiY K (Itl K p) xs (λG=>zo G p=some xs) G0 H0:=by
 intro G H hr _ hs;obtain ⟨vs,sq,rs⟩:=jo hr hs;refine ⟨λi x hi=>?_,λi x v H' hi y=>?_,⟨vs,sq,by rw [rs.length];exact Nat.le_refl _⟩⟩
 ·obtain ⟨v,hv,_⟩:=rs.get hi;exact ⟨vs,v,sq,hv⟩
 ·obtain ⟨e,y⟩:=y;subst e;obtain ⟨w,hw,rw'⟩:=rs.get hi;have e2:=(y vs sq).symm.trans hw;cases e2;exact ⟨rw',hr,Kp.refl⟩
def qma {K:Frg} {p:Addr} {xs:List T} {vs:List V} {G0:Gp} {H0:Hp} (hr0:HR K G0 H0) (sq0:SqT K H0 p vs) (rs0:Rps K H0 xs vs):qiY K (Itt K p) xs (λ_=>True) G0 H0:=by
 intro G H hr k _;have sq:=KR hr0 k sq0;have rs:=rs0.keep hr0 k;refine ⟨λi x hi=>?_,λi x v H' hi y=>?_,⟨vs,sq,by rw [rs.length];exact Nat.le_refl _⟩⟩
 ·obtain ⟨v,hv,_⟩:=rs.get hi;exact ⟨vs,v,sq,hv⟩
 ·obtain ⟨e,y⟩:=y;subst e;obtain ⟨w,hw,rw'⟩:=rs.get hi;have e2:=(y vs sq).symm.trans hw;cases e2;exact ⟨rw',hr,Kp.refl⟩
def qoF (hl:E3 X l te):I3 X tg l (YQ te):=qlU (qkq hl) λσ H R ⟨τ,G,r,rl,h,af⟩=>jc rl h λx G1 h1 v H1 rx hr1 k1 rl1=>by
 cases x<;>try exact h1.elim
 case tup xs=>
  cases rx with
  |tup hs rs=>exact ⟨_,rfl,.inr ⟨⟨_,hs⟩,af _ _ G1 h1 _ H1 hr1 k1 (qma hr1 hs rs)⟩⟩
 case ref p=>
  simp only at h1;split at h1
  ·rename_i xs e0;cases rx;obtain ⟨vs,hs,rs⟩:=jo hr1 e0;exact ⟨_,rfl,.inl ⟨⟨_,hs⟩,af _ _ G1 h1 _ H1 hr1 k1 qi8⟩⟩
  ·exact h1.elim
def qaJ (lo:Int) (n:Nat):List T:=(List.range n).map λ(i:Nat)=>T.int (lo+(i:Int))
def qgk {K:Frg} {lo:Int} {n:Nat} {G0:Gp} {H0:Hp}:qiY K (Itr lo n) (qaJ lo n) (λ_=>True) G0 H0:=by
 intro G H hr k _;have hl:(qaJ lo n).length=n:=by simp [qaJ]
 refine ⟨λi x hi=>?_,λi x v H' hi y=>?_,(show n<=(qaJ lo n).length by rw [hl];exact Nat.le_refl n)⟩
 ·have:=(List.getElem?_eq_some_iff.mp hi).1;rw [hl] at this;exact this
 ·obtain ⟨e,y⟩:=y;subst e;subst y;have h1:=(List.getElem?_eq_some_iff.mp hi).1;rw [hl] at h1;unfold qaJ at hi;rw [getElem?_map,List.getElem?_range h1] at hi;have e:T.int (lo+(i:Int))=x:=by simpa using hi
  subst e;exact ⟨.int _,hr,Kp.refl⟩
def zE (ta:TA3):TI3:=λτ G r=>ta τ G λxs G1=>match xs with
 |[.int j]=>(-(2 ^ 62)<=j/\j<2 ^ 62)/\r (qaJ 0 j.toNat) (λ_=>True) G1
 |[.int i,.int j]=>(-(2 ^ 62)<=i/\i<2 ^ 62/\-(2 ^ 62)<=j/\j<2 ^ 62)/\r (qaJ i (j-i).toNat) (λ_=>True) G1
 |_=>False
def qdO {p:Pos} (hg:Gl X "range") (hm:X.mg "range" = none) (ha:A3 X [a] t) (hs:starEach [a] X.env=[(false,eval a X.env)]:=by rfl) (h1:∀ τ G q,t τ G q->t τ G λxs G=>q xs G/\xs.length=1):I3 X tg (.Call (.Name "range" p) [a] [] pos) (zE t):=
 qlU (qc3 hg hm ha hs) λσ H R ⟨τ,G,r,rl,h,af⟩=>VT rl (h1 _ _ _ h) λxs G1 h1 vs H1 rs hr1 k1 rl1=>by
  obtain ⟨h1,hl⟩:=h1;simp only at h1;split at h1
  ·obtain ⟨v,rfl,r1⟩:=KZ rs;cases r1;exact ⟨_,rfl,h1.1.1,h1.1.2,af _ _ G1 h1.2 _ H1 hr1 k1 qgk⟩
  ·simp at hl
  ·exact h1.elim
def qeq {p:Pos} (hg:Gl X "range") (hm:X.mg "range" = none) (ha:A3 X [a,b] t) (hs:starEach [a,b] X.env=[(false,eval a X.env),(false,eval b X.env)]:=by rfl) (hs2:starEach [b] X.env=[(false,eval b X.env)]:=by rfl) (h1:∀ τ G q,t τ G q->t τ G λxs G=>q xs G/\xs.length=2):I3 X tg (.Call (.Name "range" p) [a,b] [] pos) (zE t):=
 qlU (qc1 hg hm ha hs hs2) λσ H R ⟨τ,G,r,rl,h,af⟩=>VT rl (h1 _ _ _ h) λxs G1 h1 vs H1 rs hr1 k1 rl1=>by
  obtain ⟨h1,hl⟩:=h1;simp only at h1;split at h1
  ·simp at hl
  ·obtain ⟨v,u,rfl,r1,r2⟩:=qoa rs;cases r1;cases r2;exact ⟨_,_,rfl,h1.1,af _ _ G1 h1.2 _ H1 hr1 k1 qgk⟩
  ·exact h1.elim
def KT (stay:Gp->Prop) (g:TG3) (tb:TS3) (d:Ends3):List T->St3->Gp->Prop
 |[],τ,G=>stay G/\d.nx τ G
 |x::r,τ,G=>stay G/\g x τ G λτ2 G2=>tb { d with nx:=KT stay g tb d r,ct:=KT stay g tb d r,bk:=d.nx } τ2 G2
def XY (wi:TI3) (g:TG3) (tb:TS3):TS3:=λd τ G=>wi τ G λitems stay G1=>KT stay g tb d items τ G1
def qpJ {iter:Expr} {body:List Stmt} {wi:TI3} {g:TG3} {tb:TS3} (hp:PassesOwn (model X.prog X.w) X.A X.env X.xe) (hc:X.calm=true) (hi:I3 X tg iter wi) (hg:G3 X tg g) (hb:B3 X body tb)
  (hs:∀ x,foldedSetIterable iter X.env x=pure x:=by intro _;rfl):S3 X (.For tg iter body [] pos) (XY wi g tb):=
 qdC (qjZ hp hc hi hg hb hs) λD σ H ⟨τ,G,d,rl,h,af⟩=>by
  refine ⟨τ,G,_,rl,h,λitems stay G1 h1 J H1 hr1 k1 ok=>?_⟩;refine ⟨λi m σ' H'=>m=items.length-i/\i<=items.length/\∃ τ' G',Rel X.K τ' G' σ' H'/\Kp G1 H1 G' H'/\KT stay g tb d (items.drop i) τ' G',⟨_,rfl,Nat.zero_le _,τ,G1,rl.next hr1 k1,Kp.refl,by simpa using h1⟩,?_⟩;rintro i m σ' H' ⟨rfl,hi,τ',G',rl',k',h'⟩;by_cases hlt:i<items.length
  ·rw [List.drop_eq_getElem_cons hlt] at h';obtain ⟨hst,h'⟩:=h';obtain ⟨go,yld,_⟩:=ok G' H' rl'.hp k' hst;have hx:items[i]?=some items[i]:=getElem?_eq_getElem hlt;refine .inr ⟨go i _ hx,λσ2 H2=>∃ τ2 G2,Rel X.K τ2 G2 σ2 H2/\Kp G1 H1 G2 H2/\KT stay g tb d (items.drop (i+1)) τ2 G2,λσ2 H2 h2=>⟨_,by omega,rfl,hlt,h2⟩,λv H2 y=>?_⟩;obtain ⟨rv,hr2,k2⟩:=yld i _ v H2 hx y;have k3:Kp G1 H1 G' H2:=k'.trans k2;refine ⟨_,τ',G',_,rv,rl'.next hr2 k2,h',λτ3 G3 h3 σ3 H3 rl3 k4=>?_⟩;have k5:Kp G H G3 H3:=(k1.trans k3).trans k4;refine ⟨τ3,G3,_,rl3,h3,⟨λτ4 G4 h4 σ4 H4 rl4 k6=>⟨τ4,G4,rl4,(k3.trans k4).trans k6,h4⟩,af.rt.back k5,af.nx.back k5,λτ4 G4 h4 σ4 H4 rl4 k6=>⟨τ4,G4,rl4,(k3.trans k4).trans k6,h4⟩⟩⟩
  ·have e:i=items.length:=by omega
   subst e;rw [List.drop_length] at h';obtain ⟨_,_,stop⟩:=ok G' H' rl'.hp k' h'.1;exact .inl ⟨stop,af.nx τ' G' h'.2 σ' H' rl' (k1.trans k')⟩
def VW {stay:Gp->Prop} {g:TG3} {tb:TS3} {d:Ends3} (items:List T) (Pv:Nat->St3->Gp->Prop) {τ:St3} {G:Gp} (h0:Pv 0 τ G) (hst:∀ i τ G,i<=items.length->Pv i τ G->stay G)
  (hs:∀ i x τ G (nx:St3->Gp->Prop),items[i]?=some x->Pv i τ G->(∀ τ G,Pv (i+1) τ G->nx τ G)->g x τ G λτ2 G2=>tb { d with nx:=nx,ct:=nx,bk:=d.nx } τ2 G2)
  (hd:∀ τ G,Pv items.length τ G->d.nx τ G):KT stay g tb d items τ G:=by
 have key:∀ (r:List T) (i:Nat) τ G,items.drop i=r->i<=items.length->Pv i τ G->KT stay g tb d r τ G:=by
  intro r;induction r with
  |nil=>
   intro i τ G e hi p;have:i=items.length:=by have:=congrArg List.length e;simp at this;omega
   subst this;exact ⟨hst _ τ G hi p,hd τ G p⟩
  |cons x r ih=>
   intro i τ G e hi p;have hl:i<items.length:=by
    apply Classical.byContradiction;intro z;rw [List.drop_eq_nil_of_le (by omega)] at e;cases e
   have e':=List.drop_eq_getElem_cons hl;rw [e] at e';injection e' with e1 e2;refine ⟨hst i τ G hi p,hs i x τ G _ (by rw [getElem?_eq_getElem hl,e1]) p λτ2 G2 p2=>ih (i+1) τ2 G2 e2.symm hl p2⟩
 exact key items 0 τ G (by simp) (Nat.zero_le _) h0
def S0 (c:TT3) (tb:TS3):TS3:=λd τ G=>∃ W:Nat->St3->Gp->Prop,(∃ m,W m τ G)/\∀ m τ G,W m τ G ->
 c τ G λb G1=>if b=true then ∃ N:St3->Gp->Prop,(∀ τ' G',N τ' G'->∃ m',m'<m/\W m' τ' G')/\tb { d with nx:=N,ct:=N,bk:=d.nx } τ G1 else d.nx τ G1
def qh4 {c:Expr} {body:List Stmt} {tc:TT3} {tb:TS3} (hp:PassesOwn (model X.prog X.w) X.A X.env X.xe) (hc:C3 X c tc) (hb:B3 X body tb):S3 X (.While c body [] pos) (S0 tc tb):=
 qdC (qdZ hp hc hb) λD σ H ⟨τ,G,d,rl,⟨W,⟨m0,w0⟩,turn⟩,af⟩=>by
  refine ⟨λm σ' H'=>∃ τ' G',Rel X.K τ' G' σ' H'/\Kp G H G' H'/\W m τ' G',⟨m0,τ,G,rl,Kp.refl,w0⟩,?_⟩;rintro m σ' H' ⟨τ',G',rl',k',w'⟩;refine SW rl' (turn m τ' G' w') λb G1 h1 H1 hr1 k1 rl1=>?_;cases b with
  |true=>
   rw [if_pos rfl] at h1 ⊢;obtain ⟨N,hN,h1⟩:=h1;refine ⟨λσ2 H2=>∃ τ2 G2,Rel X.K τ2 G2 σ2 H2/\Kp G H G2 H2/\N τ2 G2,λσ2 H2 ⟨τ2,G2,r2,k2,n2⟩=>?_,τ',G1,_,rl1,h1,⟨λτ2 G2 h2 σ2 H2 r2 k2=>⟨τ2,G2,r2,(k'.trans k1).trans k2,h2⟩,af.rt.back (k'.trans k1),af.nx.back (k'.trans k1),λτ2 G2 h2 σ2 H2 r2 k2=>⟨τ2,G2,r2,(k'.trans k1).trans k2,h2⟩⟩⟩;obtain ⟨m',hm,w2⟩:=hN τ2 G2 n2;exact ⟨m',hm,τ2,G2,r2,k2,w2⟩
  |false=>
   rw [if_neg Bool.false_ne_true] at h1 ⊢;exact af.nx τ' G1 h1 σ' H1 rl1 (k'.trans k1)
abbrev Sp3:=List T->Gp->Q3->Prop
def lSp (K:Frg) (sp:Sp3):Sp:=λvs H Q _=>∃ ts G q,HR K G H/\Rps K H ts vs/\sp ts G q/\Aft K G H q Q
def Fn3 (P:Program) (w:World) (K:Frg) (mg:Str->Option Value) (base:Heap) (k:Nat) (x:Str) (sp:Sp3):Prop:=
 ∃ f fd ps,FnOk P w K mg base CX0 k f fd ps (lSp K sp)/\zi K fd ps []/\PySem.W.keepIn K (.ref f)=true/\mg x=some (.ref f)
def Fn3.mono {P:Program} {w:World} {K:Frg} {mg:Str->Option Value} {base:Heap} {j k:Nat} {x:Str} {sp:Sp3} (F:Fn3 P w K mg base j x sp) (h:j<=k):Fn3 P w K mg base k x sp:=
 let ⟨f,fd,ps,a,b,c,d⟩:=F;⟨f,fd,ps,a.mono h,b,c,d⟩
def qlV {k:Nat} {x:Str} {p:Pos} {sp:Sp3} (F:Fn3 X.prog X.w X.K X.mg X.base k x sp) (hr:Room k X.A) (hg:Gl X x) (ha:A3 X (e::es) t) (hdb:(x==("__debug__" : Str))=false:=by decide)
  (he:starEach (e::es) X.env=(false,eval e X.env)::starEach es X.env:=by rfl) (hpl:(backTo pos (starEach es X.env)).any (·.1)=false:=by rfl):E3 X (.Call (.Name x p) (e::es) [] pos) (cb3 sp t):=by
 obtain ⟨f,fd,ps,F,b,kp,m⟩:=F;refine R0 (qh9 F hr hg m kp b .nil qp1 ha hdb he hpl) λσ H Q ⟨τ,G,q,rl,h,af⟩=>VT rl h λxs G1 h1 vs H1 rs hr1 k1 rl1=>?_;rw [List.append_nil];exact ⟨xs,G1,q,hr1,rs,h1,af.back k1⟩
def qm (N:List Str) (ts:List T):St3:=ts.map some++List.replicate (N.length-ts.length) none
def K2 {K:Frg} {N:List Str} {G:Gp} {H:Hp} {ts:List T} {vs:List V} (hr:HR K G H) (rs:Rps K H ts vs):Rel K (qm N ts) G (L2.RX N vs) H:=by
 refine ⟨hr,by simp [qm,L2.RX,rs.length],λi t e=>?_⟩;unfold qm at e;by_cases hi:i<ts.length
 ·rw [List.getElem?_append_left (by simpa using hi),getElem?_map] at e;cases q:ts[i]? with
  |none=>rw [q] at e;cases e
  |some z=>
   rw [q] at e;have e':z=t:=by simpa using e
   subst e';obtain ⟨v,hv,r⟩:=rs.get q;refine ⟨v,?_,r⟩;unfold L2.RX;rw [List.getElem?_append_left (by rw [length_map,← rs.length];exact hi),getElem?_map,hv];rfl
 ·rw [List.getElem?_append_right (by simpa using hi),List.getElem?_replicate] at e;split at e<;>cases e
def qkN {P:Program} {w:World} {K:Frg} {mg:Str->Option Value} {base:Heap} {x qual:Str} {st:Stmt} {f:Addr} {fd:FuncData} {N ps:List Str} {k:Nat} {sp:Sp3} {t3:TS3} (F:Fun K x qual st f fd) (S:FnScope N ps (qk st)) (bd:zi K fd ps []) (hm:mg x=some (.ref f))
  (body:∀ (cdv:Value) (A:Around) (outer:List Env) (s:Shared) (H:Hp) (E:XK),Room k (A.deeper (envOfC qual (qk st) s.heap.objs.size f cdv)) ->
   B3 (qdE CX0 P w K mg base N qual (qk st) f cdv A outer s H E).nox (jM st) t3)
  (read:∀ ts G q,sp ts G q->ts.length=ps.length/\t3 { nx:=λ_ G'=>q .non G',rt:=q } (qm N ts) G):Fn3 P w K mg base (k+1) x sp:=by
 refine ⟨f,fd,ps,F.ok S (λvs H Q E ⟨ts,G,q,h1,h2,h3,h4⟩=>by rw [← h2.length];exact (read ts G q h3).1) λcdv A outer s H vs Q E hr ⟨ts,G,q,h1,h2,h3,h4⟩=>?_,bd,F.kp,hm⟩;refine ⟨_,body cdv A outer s H E hr,qm N ts,G,_,K2 h1 h2,(read ts G q h3).2,⟨λτ' G' h' σ' H' rl' k'=>h4 _ G' h' _ H' .non rl'.hp k',h4,λ_ _ z=>z.elim,λ_ _ z=>z.elim⟩⟩
def qi5 (xs:List T):Option Bool:=match xs with
 |[]=>some true
 |.bl k::r=>(match qi5 r with|some j=>some (k&&j)|none=>none)
 |_=>none
def qoj (xs:List T):Option Bool:=match xs with
 |[]=>some false
 |.bl k::r=>(match qoj r with|some j=>some (k||j)|none=>none)
 |_=>none
def qd7 {P:Program} {w:World} {A:Around} {its:List Value} {ks:List Bool} (h:its=ks.map Value.bool):TruthOf P w A (λi v=>its.toArray[i]?=some v) (λi=>ks.getD i true):=by
 intro i v s Q E hp hq;subst h;have hp':ks[i]?.map Value.bool=some v:=by simpa using hp
 cases e:ks[i]? with
 |none=>rw [e] at hp';cases hp'
 |some k=>
  rw [e] at hp';cases hp';have:ks.getD i true=k:=by rw [getD_eq_getElem?_getD,e];rfl
  have hq:Q (ks.getD i true) s:=hq;rw [this] at hq;exact wpAny_truthy_bool hq
def SM:∀ {ks:List Bool} {us:List Value},jx (ks.map V.bl) us->us=ks.map Value.bool
 |[],_,r=>by cases r;rfl
 |k::ks,_,r=>by
  cases r with
  |cons a b=>rw [show _=Value.bool k from a,SM b];rfl
def qcv (ks:List Bool):((List.range ks.length).all λi=>ks.getD i true)=ks.all id:=by
 induction ks with
 |nil=>rfl
 |cons k ks ih=>
  rw [length_cons,List.range_succ_eq_map,List.all_cons,List.all_map,List.all_cons];congr 1
def SH (hc:X.calm=true):VO X (.builtin "all") (λxs H Q=>∃ (p:Addr) (ks:List Bool),xs=[.ref p]/\SqL X.K H p (ks.map V.bl)/\Q (.bl (ks.all id)) H):=by
 intro pins s σ H xs us Q I r h;obtain ⟨p,ks,rfl,hq,q⟩:=h;obtain ⟨u,rfl,rp⟩:=C2 r;cases (show u=Value.ref p from rp);obtain ⟨its,rv,pl,hz⟩:=I.list hq;have hb:=SM rv;have hlen:its.length=ks.length:=by rw [hb];simp
 have hp:p<s.heap.objs.size:=by obtain ⟨o,n,e,_⟩:=pl;exact Heap.lt_size e
 refine call_all_walk (wpAny_pyIter_list pl.isList ⟨s.heap.objs.size,_,_,_,_,_,λi=>ks.getD i true,rfl,Walks.list (A:=X.A.in1) (show X.A.in1.handled=none from I.ok.hd hc) s.heap.objs.size p (Nat.ne_of_lt hp) its.toArray,⟨⟨_,Heap.get?_push_size _ rfl,rfl,rfl⟩,?_⟩,qd7 hb,λh' tk hk=>?_⟩)
 ·obtain ⟨o,n,e,c,_,d⟩:=pl;exact ⟨o,Heap.get?_push_of_some _ e,c,n,d⟩
 ·refine ⟨.bl _,H,?_,rfl,by rw [size_toArray,hlen,qcv];exact q⟩;exact I.kept (h':=h') (t':=tk) λb o e=>hk b o (by simp;exact Nat.ne_of_lt (Heap.lt_size e)) (Heap.get?_push_of_some _ e)
end
def R9 (env:Env):List (Str×NameKind)->List (Str×Addr)->List (Str×Addr)
 |[],cs=>cs
 | (n,k)::r,cs=>if k=.free then R9 env r ((n,(env.cells.lookup n).getD 0)::cs) else R9 env r cs
def YM {scope:Scope} {env:Env} (h:∀ y∈scope.names,y.2=.free->∃ c,env.cells.lookup y.1=some c):closureFor scope env=pure (R9 env scope.names []):=by
 have key:∀ (l:List (Str×NameKind)) (cs:List (Str×Addr)),(∀ y∈l,y.2=.free->∃ c,env.cells.lookup y.1=some c) ->
   (forIn l cs λ(x:Str×NameKind) (r:List (Str×Addr))=>if (x.2==NameKind.free)=true then (do let a←cellOf env x.1;pure (ForInStep.yield ((x.1,a)::r))) else pure (ForInStep.yield r))=(pure (R9 env l cs):Sem _):=by
  intro l;induction l with
  |nil=>intro cs _;rfl
  |cons y r ih=>
   intro cs hl;obtain ⟨n,k⟩:=y;rw [List.forIn_cons];by_cases hk:k=.free
   ·subst hk;obtain ⟨c,hc⟩:=hl (n,.free) List.mem_cons_self rfl;have e:cellOf env n=pure c:=by unfold cellOf;rw [show List.lookup n env.cells=some c from hc]
    simp only [beq_self_eq_true,if_true];rw [e,pure_bind,pure_bind];show forIn r ((n,c)::cs) _=_;rw [ih _ λz hz=>hl z (List.mem_cons_of_mem _ hz)];show _=(pure (if NameKind.free=NameKind.free then R9 env r ((n,(env.cells.lookup n).getD 0)::cs) else R9 env r cs):Sem _);rw [if_pos rfl,show List.lookup n env.cells=some c from hc];rfl
   ·have hb:(k==NameKind.free)=false:=by cases k<;>first|rfl|exact absurd rfl hk
    simp only [hb,Bool.false_eq_true,if_false];rw [pure_bind];show forIn r cs _=_;rw [ih _ λz hz=>hl z (List.mem_cons_of_mem _ hz)];show _=(pure (if k=NameKind.free then R9 env r ((n,(env.cells.lookup n).getD 0)::cs) else R9 env r cs):Sem _);rw [if_neg hk]
 have:=key scope.names [] h;unfold closureFor;refine Eq.trans ?_ this;exact bind_pure (m:=Sem) _
def EA {env:Env}:∀ (l:List (Str×NameKind)) (cs:List (Str×Addr)) (x:Str) (c:Addr),(∀ y∈l,y.2=.free->∃ c,env.cells.lookup y.1=some c) ->
  (∀ x c,cs.lookup x=some c->env.cells.lookup x=some c)->(R9 env l cs).lookup x=some c->env.cells.lookup x=some c
 |[],_,_,_,_,h,e=>h _ _ e
 | (n,k)::r,cs,x,c,hl,h,e=>by
  unfold R9 at e;split at e
  ·rename_i hk;refine EA r _ x c (λy hy=>hl y (List.mem_cons_of_mem _ hy)) (λx c e=>?_) e;rw [List.lookup_cons] at e;split at e
   ·rename_i hx;have hx':x=n:=by simpa using hx
    subst hx';obtain ⟨d,hd⟩:=hl (x,k) List.mem_cons_self hk;have hd:List.lookup x env.cells=some d:=hd;rw [hd] at e ⊢;exact e
   ·exact h _ _ e
  ·exact EA r cs x c (λy hy=>hl y (List.mem_cons_of_mem _ hy)) h e
def CF {env:Env}:∀ (l:List (Str×NameKind)) (cs:List (Str×Addr)) (x:Str),((x,NameKind.free)∈l\/∃ c,cs.lookup x=some c)->∃ c,(R9 env l cs).lookup x=some c
 |[],_,_,h=>by
  rcases h with h|h
  ·simp at h
  ·exact h
 | (n,k)::r,cs,x,h=>by
  unfold R9;have put:∀ d:Addr,(x=n\/∃ c,cs.lookup x=some c)->∃ c,((n,d)::cs).lookup x=some c:=λd z=>by
   rw [List.lookup_cons];cases hx:x==n with
   |true=>exact ⟨d,rfl⟩
   |false=>
    rcases z with z|z
    ·rw [z] at hx;simp at hx
    ·exact z
  split
  ·rename_i hk;refine CF r _ x ?_;rcases h with h|h
   ·rcases mem_cons.mp h with e|e
    ·cases e;exact .inr (put _ (.inl rfl))
    ·exact .inl e
   ·exact .inr (put _ (.inr h))
  ·rename_i hk;refine CF r _ x ?_;rcases h with h|h
   ·rcases mem_cons.mp h with e|e
    ·cases e;exact absurd rfl hk
    ·exact .inl e
   ·exact .inr h
def TJ {env:Env}:∀ (l:List (Str×NameKind)) (cs:List (Str×Addr)) (x:Str) (c:Addr),(R9 env l cs).lookup x=some c->(x,NameKind.free)∈l\/cs.lookup x=some c
 |[],_,_,_,e=>.inr e
 | (n,k)::r,cs,x,c,e=>by
  unfold R9 at e;split at e
  ·rename_i hk;rcases TJ r _ x c e with z|z
   ·exact .inl (List.mem_cons_of_mem _ z)
   ·rw [List.lookup_cons] at z;split at z
    ·rename_i hx;have hx':x=n:=by simpa using hx
     subst hx';subst hk;exact .inl List.mem_cons_self
    ·exact .inr z
  ·rcases TJ r cs x c e with z|z
   ·exact .inl (List.mem_cons_of_mem _ z)
   ·exact .inr z
def XD {α:Type}:∀ (xs ys:List (Str×α)) (x:Str),(xs++ys).lookup x=(match xs.lookup x with|some c=>some c|none=>ys.lookup x)
 |[],ys,x=>rfl
 | (n,c)::xs,ys,x=>by
  rw [cons_append,List.lookup_cons,List.lookup_cons];cases x==n with
  |true=>rfl
  |false=>exact XD xs ys x
def jN:∀ (l:List (Str×NameKind)) {n:Nat} {acc:List (Str×Addr)},cellsFrom n l acc=cellsFrom n l []++acc
 |[],_,_=>rfl
 | (x,k)::r,n,acc=>by
  unfold cellsFrom;split
  ·rw [jN r (acc:=(x,n)::acc),jN r (acc:=[(x,n)]),List.append_assoc];rfl
  ·exact jN r
def J2:∀ (l:List (Str×NameKind)) (n:Nat) (acc:List (Str×Addr)) (x:Str) (c:Addr),(x,c)∈cellsFrom n l acc->(x,NameKind.cell)∈l\/(x,c)∈acc
 |[],_,_,_,_,h=>.inr h
 | (y,k)::r,n,acc,x,c,h=>by
  unfold cellsFrom at h;split at h
  ·rename_i hk;have hk:k=.cell:=by simpa using hk
   rcases J2 r _ _ x c h with z|z
   ·exact .inl (List.mem_cons_of_mem _ z)
   ·rcases mem_cons.mp z with e|e
    ·cases e;subst hk;exact .inl List.mem_cons_self
    ·exact .inr e
  ·rcases J2 r _ _ x c h with z|z
   ·exact .inl (List.mem_cons_of_mem _ z)
   ·exact .inr z
def Q5:∀ (l:List (Str×NameKind)) (n:Nat) (acc:List (Str×Addr)) (x:Str),((x,NameKind.cell)∈l\/∃ c,acc.lookup x=some c)->∃ c,(cellsFrom n l acc).lookup x=some c
 |[],_,_,_,h=>by
  rcases h with h|h
  ·simp at h
  ·exact h
 | (y,k)::r,n,acc,x,h=>by
  unfold cellsFrom;have put:(x=y\/∃ c,acc.lookup x=some c)->∃ c,((y,n)::acc).lookup x=some c:=λz=>by
   rw [List.lookup_cons];cases hx:x==y with
   |true=>exact ⟨n,rfl⟩
   |false=>
    rcases z with z|z
    ·rw [z] at hx;simp at hx
    ·exact z
  split
  ·refine Q5 r _ _ x ?_;rcases h with h|h
   ·rcases mem_cons.mp h with e|e
    ·cases e;exact .inr (put (.inl rfl))
    ·exact .inl e
   ·exact .inr (put (.inr h))
  ·rename_i hk;refine Q5 r _ _ x ?_;rcases h with h|h
   ·rcases mem_cons.mp h with e|e
    ·cases e;exact absurd rfl hk
    ·exact .inl e
   ·exact .inr h
def QX {M:Model} {A:Around} {E:Value->Shared->Prop} {s:Shared} {scope:Scope} {globals:Addr} {cl:List (Str×Addr)} {qual:Str} {env:Env} {Q:Env->Shared->Prop}
  (hQ:∀ h₁:Heap,h₁.Ns s.heap.objs.size (λ_=>none)->(∀ b o,s.heap.get? b=some o->h₁.get? b=some o)->CellsOk h₁ (s.heap.objs.size+1) (cellsFrom (s.heap.objs.size+1) scope.names [])->Q (newEnv scope s.heap.objs.size globals (cellsFrom (s.heap.objs.size+1) scope.names cl) qual none .none (some env) builtinsNs) { s with heap:=h₁ }) :
  wpAny M A (newFunctionEnv scope globals cl [] qual none .none (some env)) Q E s:=by
 simp only [newFunctionEnv,Option.isSome_some,if_true];refine wpAny_bind (wpAny_alloc ?_);refine wpAny_bind (wpAny_layCells _ (λname kind cells=>by cases hkc:kind==NameKind.cell<;>simp [hkc]) _ _ _ _ ?_);have ok:=cellsFrom_ok scope.names (s.heap.push { cls:=.type "dict",data:=.dict #[] }) (s.heap.objs.size+1) [] ⟨λ_ _ hm=>(nomatch hm),List.Pairwise.nil⟩ (by rw [Heap.size_push];exact Nat.le_refl _);rw [Heap.size_push] at ok;rw [show ({ s with heap:=s.heap.push { cls:=.type "dict",data:=.dict #[] } }:Shared).heap.objs.size=s.heap.objs.size+1 from Heap.size_push ..];rw [List.forIn_nil];refine wpAny_bind (wpAny_pure (wpAny_pure ?_));exact hQ _ ((Heap.Ns.new s.heap (.type "dict")).keeps (pushCells_keeps _ _)) (λb o e=>pushCells_keeps _ _ b o (Heap.get?_push_of_some _ e)) ok
def qt (X:Cx) (N':List Str) (scope:Scope) (s:Shared) (H:Hp) (fp:List Addr):Cx where
 prog:=X.prog
 w:=X.w
 K:=X.K
 mg:=X.mg
 base:=X.base
 A:=X.A
 N:=N'
 s₀:=s
 H₀:=H
 env:=compEnvC scope (cellsFrom (s.heap.objs.size+1) scope.names (R9 X.env scope.names [])) s.heap.objs.size X.env
 outer:=X.stack
 stack:=X.stack
 ex:=fp
 fn:=λx=>scope.names.lookup x==some .cell
 calm:=true
 pn:=[]
 xe:=λ_ _=>False
def qbC (outer inner:Scope):Bool:=(inner.kind==.function)&&inner.names.all λy=>
 (y.2 != .cell||inner.names.lookup y.1==some .cell)&&(y.2 != .local||inner.names.lookup y.1==some .local)&&(y.2 != .free||(inner.names.lookup y.1==some .free&&(outer.names.lookup y.1==some .cell||outer.names.lookup y.1==some .free)))
def cap {α:Type} (m:List (Option Nat)) (σ:List (Option α)):List (Option α):=m.map λo=>match o with|some j=>(σ[j]?).join|none=>none
def ET (N N':List Str) (scope:Scope) (m:List (Option Nat)):Bool:=(m.length==N'.length)&&(m.zip N').all λp=>match p.1 with
 |none=>true
 |some j=>N[j]?==some p.2&&scope.names.lookup p.2==some .free
def qdh {α:Type} {m:List (Option Nat)} {σ:List (Option α)} {i:Nat} {v:α} (h:(cap m σ)[i]?=some (some v)):∃ j,m[i]?=some (some j)/\σ[j]?=some (some v):=by
 unfold cap at h;rw [getElem?_map] at h;cases e:m[i]? with
 |none=>rw [e] at h;cases h
 |some o=>
  rw [e] at h;cases o with
  |none=>cases h
  |some j=>
   refine ⟨j,rfl,?_⟩;have h':(σ[j]?).join=some v:=by simpa using h
   cases q:σ[j]? with
   |none=>rw [q] at h';cases h'
   |some z=>rw [q] at h';exact congrArg some h'
def qc6 {N N':List Str} {scope:Scope} {m:List (Option Nat)} (h:ET N N' scope m=true) {i j:Nat} {x:Str} (e:m[i]?=some (some j)) (hx:N'[i]?=some x):N[j]?=some x/\scope.names.lookup x=some .free:=by
 unfold ET at h;rw [Bool.and_eq_true] at h;have hm:(some j,x)∈m.zip N':=mem_of_getElem? (i:=i) (List.getElem?_zip_eq_some.mpr ⟨e,hx⟩);have:=List.all_eq_true.mp h.2 _ hm;simp only [Bool.and_eq_true,beq_iff_eq] at this;exact this
def qhz {N N':List Str} {scope:Scope} {m:List (Option Nat)} {α:Type} (σ:List (Option α)) (h:ET N N' scope m=true):(cap m σ).length=N'.length:=by
 unfold ET at h;rw [Bool.and_eq_true] at h;unfold cap;rw [length_map];simpa using h.1
structure ScFacts (outer inner:Scope):Prop where
 kind:inner.kind=.function
 own:∀ y∈inner.names,y.2=.cell->inner.names.lookup y.1=some .cell
 loc:∀ y∈inner.names,y.2=.local->inner.names.lookup y.1=some .local
 free:∀ y∈inner.names,y.2=.free->inner.names.lookup y.1=some .free/\(outer.names.lookup y.1=some .cell\/outer.names.lookup y.1=some .free)
def WG {outer inner:Scope} (h:qbC outer inner=true):ScFacts outer inner:=by
 unfold qbC at h;rw [Bool.and_eq_true] at h;have ha:=List.all_eq_true.mp h.2;refine ⟨by simpa using h.1,λy hy e=>?_,λy hy e=>?_,λy hy e=>?_⟩
 ·have:=ha y hy;rw [e] at this;simpa using this
 ·have:=ha y hy;rw [e] at this;simpa using this
 ·have:=ha y hy;rw [e] at this;simpa using this
def JD {scope:Scope} {env:Env} {x:Str} {k:NameKind} (h:(relabel scope env).names.lookup x=some k):scope.names.lookup x=some k\/(k=.cell/\scope.names.lookup x=some .free):=by
 have key:∀ (l:List (Str×NameKind)),(l.map λ(n,k)=>if (k==NameKind.free&&env.scope.kind==.function&&env.kindOf n==some .cell) then (n,NameKind.cell) else (n,k)).lookup x=some k->l.lookup x=some k\/(k=.cell/\l.lookup x=some .free):=by
  intro l;induction l with
  |nil=>intro h;simp at h
  |cons y r ih=>
   intro h;obtain ⟨n,j⟩:=y;rw [map_cons] at h;dsimp only at h;by_cases hc:(j==NameKind.free&&env.scope.kind==.function&&env.kindOf n==some .cell)=true
   ·rw [if_pos hc,List.lookup_cons] at h;rw [List.lookup_cons];cases hx:x==n with
    |true=>
     rw [hx] at h;have hk:NameKind.cell=k:=by simpa using h
     have hj:j=.free:=by simp only [Bool.and_eq_true,beq_iff_eq] at hc;exact hc.1.1
     exact .inr ⟨hk.symm,by rw [hj]⟩
    |false=>rw [hx] at h;exact ih h
   ·rw [if_neg hc,List.lookup_cons] at h;rw [List.lookup_cons];cases hx:x==n with
    |true=>rw [hx] at h;exact .inl h
    |false=>rw [hx] at h;exact ih h
 exact key scope.names h
def PF (X:Cx) (ifs:List Expr) (t:TT):Prop:=
 ∀ (pins:List (Addr×Obj)) (s:Shared) (σ:L2.St) (H:Hp) (Q:Bool->Hp->Prop),Inv X pins σ H s->t σ H Q ->
  wpAny (model X.prog X.w) X.A (forIn ifs true λc r=>if r=true then do let ok←isTrue c X.env (eval c X.env);pure (ForInStep.yield ok) else pure (ForInStep.yield r)) (TP X pins σ Q) X.xe s
def qlg {X:Cx}:PF X [] (λ_ H Q=>Q true H):=λ_ _ _ H _ I h=>wpAny_tests_nil ⟨H,I,h⟩
def qmg {X:Cx} {c:Expr} {t:TT} (h:PT X c t):PF X [c] t:=λpins s σ H Q I q=>wpAny_tests_one (h pins s σ H Q I q)
section
variable {X:Cx} {pins:List (Addr×Obj)} {σ:L2.St} {H:Hp} {s:Shared}
def KD {N':List Str} {scope:Scope} {fp:List Addr} {m:List (Option Nat)} {h1:Heap} {mm:Str->Option Value} (hc:X.calm=true) (I:Inv X pins σ H s) (sc:ScFacts X.env.scope scope) (hcap:ET X.N N' scope m=true)
  (hfp:∀ b∈fp,LR X pins H b) (hob:∀ b∈fp,∃ o,s.heap.get? b=some o) (hns:h1.Ns s.heap.objs.size mm) (hk:∀ b o,s.heap.get? b=some o->h1.get? b=some o) (hown:CellsOk h1 (s.heap.objs.size+1) (cellsFrom (s.heap.objs.size+1) scope.names [])) :
  Inv (qt X N' scope s H fp) [] (cap m σ) H { s with heap:=h1 }:=by
 have hcl:∀ y∈scope.names,y.2=.free->∃ c,X.env.cells.lookup y.1=some c:=λy hy e=>by
  rcases (sc.free y hy e).2 with z|z
  ·exact I.ok.has y.1 (.inl z)
  ·exact I.ok.has y.1 (.inr z)
 have cl:∀ x c,(R9 X.env scope.names []).lookup x=some c->X.env.cells.lookup x=some c:=λx c e=>EA scope.names [] x c hcl (λ_ _ z=>by simp at z) e;have clt:∀ x c,(R9 X.env scope.names []).lookup x=some c->c<s.heap.objs.size:=λx c e=>by
  obtain ⟨v,q⟩:=I.cell x c (cl x c e);exact q.lt
 -- a cell of the block: its own,or one from around
 have cs:∀ x c,(cellsFrom (s.heap.objs.size+1) scope.names (R9 X.env scope.names [])).lookup x=some c->((x,c)∈cellsFrom (s.heap.objs.size+1) scope.names []/\s.heap.objs.size+1<=c/\h1.IsCell c none)\/(R9 X.env scope.names []).lookup x=some c:=λx c e=>by
  rw [jN,XD] at e;cases q:(cellsFrom (s.heap.objs.size+1) scope.names []).lookup x with
  |none=>rw [q] at e;exact .inr e
  |some d=>
   rw [q] at e;cases e;have mem:=PySem.mem_of_lookup q;exact .inl ⟨mem,(hown.empty x _ mem).2,(hown.empty x _ mem).1⟩
 have fpne:∀ b∈fp,b≠s.heap.objs.size:=λb hb=>let ⟨o,e⟩:=hob b hb;Nat.ne_of_lt (Heap.lt_size e)
 refine ⟨⟨I.ok.mod,sc.kind,I.ok.glob,I.ok.blt,Nat.le_refl _,λx y c e1 e2=>?_,λx hx=>?_,λx c hf e=>?_,λ_=>I.ok.hd hc,I.ok.frames,.inl rfl,λb hb=>⟨fpne b hb,λx c e=>?_⟩,I.bs,Nat.le_trans I.ok.bsz I.sz,λb o e hb=>?_,λb hb z=>?_,I.stack,I.stkFree⟩,
  rfl,I.bare,Un.kept hk,⟨mm,hns,λi x v e1 e2 e3=>?_⟩,λx c e=>?_,I.fresh,λx c e=>?_,λp hp=>absurd (show p∈([]:List (Addr×Obj)) from hp) (by simp),I.hok.kept hk,qhz σ hcap⟩
 ·rcases cs x c e1 with ⟨m1,l1,_⟩|z1<;>rcases cs y c e2 with ⟨m2,l2,_⟩|z2
  ·exact PySem.name_of_addr hown.apart m1 m2
  ·exact absurd (clt y c z2) (Nat.not_lt.mpr (Nat.le_trans (Nat.le_succ _) l1))
  ·exact absurd (clt x c z1) (Nat.not_lt.mpr (Nat.le_trans (Nat.le_succ _) l2))
  ·exact I.ok.inj x y c (cl x c z1) (cl y c z2)
 ·have hx:(relabel scope X.env).names.lookup x=some .cell\/(relabel scope X.env).names.lookup x=some .free:=hx;have hf:scope.names.lookup x=some .cell\/scope.names.lookup x=some .free:=by
   rcases hx with z|z
   ·rcases JD z with q|⟨_,q⟩
    ·exact .inl q
    ·exact .inr q
   ·rcases JD z with q|⟨q,_⟩
    ·exact .inr q
    ·cases q
  show ∃ c,(cellsFrom (s.heap.objs.size+1) scope.names (R9 X.env scope.names [])).lookup x=some c;rcases hf with hf|hf
  ·exact Q5 scope.names _ _ x (.inl (PySem.mem_of_lookup hf))
  ·exact Q5 scope.names _ _ x (.inr (CF scope.names [] x (.inl (PySem.mem_of_lookup hf))))
 ·have hf:scope.names.lookup x=some .cell:=by simpa [qt] using hf
  rcases cs x c e with ⟨_,l1,_⟩|z1
  ·exact Nat.le_trans (Nat.le_succ _) l1
  ·rcases TJ scope.names [] x c z1 with q|q
   ·rw [(sc.free _ q rfl).1] at hf;cases hf
   ·simp at q
 ·rcases cs x c e with ⟨_,l1,_⟩|z1
  ·obtain ⟨o,eo⟩:=hob b hb;exact Nat.ne_of_gt (Nat.lt_of_lt_of_le (Heap.lt_size eo) (Nat.le_trans (Nat.le_succ _) l1))
  ·exact (hfp b hb).2.2.2.2.1 x c (cl x c z1)
 ·rcases (hfp b hb).2.2.2.1 with z|z
  ·exact I.ok.noex b o e z
  ·exact absurd (Nat.lt_of_lt_of_le (Heap.lt_size e) (Nat.le_trans I.ok.bsz z)) (Nat.lt_irrefl _)
 ·rcases mem_cons.mp (I.stkSub b z) with q|q
  ·exact (hfp b hb).2.1 q
  ·exact (hfp b hb).2.2.1 q
 ·obtain ⟨j,ej,es⟩:=qdh e2;obtain ⟨hN,hfr⟩:=qc6 hcap ej e1;have mem:=PySem.mem_of_lookup hfr;have ho:=(sc.free _ mem rfl).2;obtain ⟨m0,hn0,hl0⟩:=I.loc;obtain ⟨u,ru,lk⟩:=hl0 j x v hN es (ho.elim (λz=>.inr (.inl z)) λz=>.inr (.inr z));refine ⟨u,ru,.inr ⟨?_,?_⟩⟩
  ·rcases e3 with z|z|z
   ·rcases JD z with q|⟨q,_⟩
    ·rw [hfr] at q;cases q
    ·cases q
   ·exact .inl z
   ·exact .inr z
  ·rcases lk with ⟨z,_⟩|⟨_,c,hc',hcell⟩
   ·have z:X.env.scope.names.lookup x=some .local:=z;rcases ho with q|q<;>(rw [z] at q;cases q)
   ·obtain ⟨c',hc2⟩:=CF (env:=X.env) scope.names [] x (.inl mem);have e:=cl x c' hc2;rw [hc'] at e;cases e;obtain ⟨o,eo,d⟩:=hcell;refine ⟨c,?_,o,hk c o eo,d⟩;show (cellsFrom (s.heap.objs.size+1) scope.names (R9 X.env scope.names [])).lookup x=some c;rw [jN,XD];cases q:(cellsFrom (s.heap.objs.size+1) scope.names []).lookup x with
    |none=>exact hc2
    |some d=>
     rcases J2 scope.names _ [] x d (PySem.mem_of_lookup q) with z|z
     ·rw [sc.own _ z rfl] at hfr;cases hfr
     ·simp at z
 ·rcases cs x c e with ⟨_,_,z⟩|z1
  ·exact ⟨none,z⟩
  ·obtain ⟨v,o,eo,d⟩:=I.cell x c (cl x c z1);exact ⟨v,o,hk c o eo,d⟩
 ·rcases cs x c e with ⟨_,l1,_⟩|z1
  ·exact I.hok.fresh (Nat.le_trans (Nat.le_succ _) l1)
  ·exact I.freeC x c (cl x c z1)
def W4 {N':List Str} {scope:Scope} {fp:List Addr} {pins':List (Addr×Obj)} {σ':L2.St} {H':Hp} {s':Shared} {h2:Heap} (I:Inv X pins σ H s) (hfp:∀ b∈fp,LR X pins H b) (J:Inv (qt X N' scope s H fp) pins' σ' H' s')
  (sb:Heap.SameBut s.heap.objs.size s'.heap h2):Inv X pins σ H' { s' with heap:=h2 }:=by
 have ne:∀ b o,s.heap.get? b=some o->b≠s.heap.objs.size:=λb o e=>Nat.ne_of_lt (Heap.lt_size e);have g:∀ b,b≠s.heap.objs.size->h2.get? b=s'.heap.get? b:=λb hb=>sb.2 b hb;have hn:H' s.heap.objs.size=none:=J.free;have u:Un (frs X.stack) fp H H' s.heap s'.heap:=J.base;refine I.call' (s':={ s' with heap:=h2 }) J.os ⟨λb o e n hb hx=>?_,λb o e n hb hx=>?_,u.free,λb o e hx=>?_,u.tups,u.frzs,u.tbls⟩ (λa o e=>?_) J.bare λb hb=>⟨(hfp b hb).2.2.2.1,(hfp b hb).2.1,(hfp b hb).2.2.2.2.1,(hfp b hb).2.2.2.2.2⟩
 ·show h2.get? b=_;rw [g b (ne b o e)];exact u.keep b o e n hb hx
 ·show ∃ sl,h2.get? b=_;rw [g b (ne b o e)];exact u.slot b o e n hb hx
 ·show ∃ o',h2.get? b=_;rw [g b (ne b o e)];exact u.there b o e hx
 ·refine (J.hok a o e).stay (λb v hb q=>?_) (λ_ q=>q) λ_ _ q=>q;have hb':b≠s.heap.objs.size:=by
   intro z;subst z;rcases hb with z|z
   ·rw [← z] at e;rw [hn] at e;cases e
   ·rw [hn] at z;cases z
  rw [g b hb'];exact q
end
def tLC (wi:TI) (g:TG) (tif:TT) (te:TE) (m:List (Option Nat)):TE:=λσ H Q=>wi σ H λJ H1=>∀ D,H1 D=none ->
 ∃ W:Nat->Nat->L2.St->Hp->Prop,(∃ n,W 0 n (cap m σ) (upd H1 D (.lst [])))/\∀ i n σ H,W i n σ H ->
  (J.stop i H/\Q (.ref D) H)\/(J.go i H/\∀ x H',J.yld i H x H'->g x σ H' λσ2 H2=>tif σ2 H2 λk H3=>
   if k=true then te σ2 H3 λy H4=>∃ zs,H4 D=some (.lst zs)/\zs.length<sizeLine/\∃ n',n'<n/\W (i+1) n' σ2 (upd H4 D (.lst (zs++[y])))
   else ∃ n',n'<n/\W (i+1) n' σ2 H3)
section
variable {X:Cx}
def qpO {elt tg iter:Expr} {ifs:List Expr} {scope:Scope} {pos:Pos} {N':List Str} {m:List (Option Nat)} {wi:TI} {g:TG} {tif:TT} {te:TE} (hc:X.calm=true) (hi:PI X tg iter wi)
  (hg:∀ s H fp,PG (qt X N' scope s H fp) tg g) (hf:∀ s H fp,PF (qt X N' scope s H fp) ifs tif) (he:∀ s H fp,PE (qt X N' scope s H fp) elt te)
  (hsc:qbC X.env.scope scope=true) (hcap:ET X.N N' scope m=true) (hs:∀ x,foldedSetIterable iter X.env x=pure x:=by intro _;rfl) :
  PE X (.ListComp elt [⟨tg,iter,ifs,0⟩] scope pos) (tLC wi g tif te m):=by
 intro pins s σ H Q I h;have sc:=WG hsc;have hcl:∀ y∈scope.names,y.2=.free->∃ c,X.env.cells.lookup y.1=some c:=λy hy e=>by
  rcases (sc.free y hy e).2 with z|z
  ·exact I.ok.has y.1 (.inl z)
  ·exact I.ok.has y.1 (.inr z)
 rw [eval_ListComp];refine wpAny_comprehension_free (use:=none) (g:=⟨tg,iter,ifs,0⟩) (gs:=[]) rfl hs (YM hcl) sc.kind sc.loc ?_;show wpAny _ _ (eval iter X.env) _ _ s;refine thn (hi pins s σ H _ I h) λv s1 h1=>thn h1 λitv s2 h2=>?_;obtain ⟨it,fp,tn,J,H2,rfl,I2,T,st2,f2,hW⟩:=h2;refine wpAny_newObj_type ?_;have hD:H2 s2.heap.objs.size=none:=I2.fresh;obtain ⟨W,⟨n0,w0⟩,turn⟩:=hW _ hD;generalize hDe:s2.heap.objs.size=D at *;have I3:Inv X pins σ (upd H2 D (.lst [])) { s2 with heap:=s2.heap.push { cls:=.type "list",dict:=none,data:=.seq ([]:List Value).toArray } }:=by
  subst hDe;exact I2.laid (t':=s2.toks) (λb u e=>Heap.get?_push_of_some _ e) (Nat.le_refl _) ⟨Nat.zero_le _,[],0,.nil,Heap.get?_push_size _ rfl⟩
 have ob2:=T.obj 0 _ st2;have ob3:∀ b∈fp,∃ o,(s2.heap.push { cls:=.type "list",dict:=none,data:=.seq ([]:List Value).toArray }).get? b=some o:=λb hb=>let ⟨o,e,_⟩:=ob2 b hb;⟨o,Heap.get?_push_of_some _ e⟩
 have f3:∀ b∈fp,LR X pins (upd H2 D (.lst [])) b:=λb hb=>by
  obtain ⟨o,e,_⟩:=ob2 b hb;have:b≠D:=by rw [← hDe];exact Nat.ne_of_lt (Heap.lt_size e)
  exact ⟨by rw [qT this];exact (f2 b hb).1,(f2 b hb).2⟩
 have k23:∀ b o,s2.heap.get? b=some o->(s2.heap.push { cls:=.type "list",dict:=none,data:=.seq ([]:List Value).toArray }).get? b=some o:=λb o e=>Heap.get?_push_of_some _ e;generalize hH3:upd H2 D (.lst [])=H3 at *;generalize hs3:({ s2 with heap:=s2.heap.push { cls:=.type "list",dict:=none,data:=.seq ([]:List Value).toArray } }:Shared)=s3 at *;have ob3:∀ b∈fp,∃ o,s3.heap.get? b=some o:=by rw [← hs3];exact ob3
 have k23:∀ b o,s2.heap.get? b=some o->s3.heap.get? b=some o:=by rw [← hs3];exact k23
 refine QX λh₁ hns hk hown=>?_;have I4:Inv (qt X N' scope s3 H3 fp) [] (cap m σ) H3 { s3 with heap:=h₁ }:=KD hc I3 sc hcap f3 ob3 hns hk hown;have tn4:tn 0 h₁:=T.keep _ _ _ st2 λb hb o e=>hk b o (k23 b o e);have fr4:∀ b∈fp,H3 b=none:=λb hb=>(f3 b hb).1;have stat:∀ {H':Hp},(∀ b∈fp,H' b=none)->∀ b∈fp,LR (qt X N' scope s3 H3 fp) [] H' b:=λhn b hb=>by
  refine ⟨hn b hb,I4.ok.exf b hb |>.1,I4.ok.exfs b hb,.inl hb,λx c e=>(I4.ok.exf b hb).2 x c e,λp hp=>absurd (show p∈([]:List (Addr×Obj)) from hp) (by simp)⟩
 show codeAny (model X.prog X.w) X.A (.compStart (.ListComp elt [⟨tg,iter,ifs,0⟩] scope pos) 0 (.ref it) (.ref D) (qt X N' scope s3 H3 fp).env) (compPost (model X.prog X.w) X.A X.xe none (EP X pins σ Q) (.ref D) s3.heap.objs.size) { s3 with heap:=h₁ };have loop:codeAny (model X.prog X.w) X.A (.compLoop (.ListComp elt [⟨tg,iter,ifs,0⟩] scope pos) 0 (.ref it) (.ref D) (qt X N' scope s3 H3 fp).env) (compPost (model X.prog X.w) X.A X.xe none (EP X pins σ Q) (.ref D) s3.heap.objs.size) { s3 with heap:=h₁ }:=by
  refine codeAny_loop rfl (λn s'=>∃ i σ' H',Inv (qt X N' scope s3 H3 fp) [] σ' H' s'/\tn i s'.heap/\(∀ b∈fp,H' b=none)/\W i n σ' H') (λn s' hI=>?_) n0 ⟨0,cap m σ,H3,I4,tn4,fr4,w0⟩;show wpAny _ X.A ((compTurn (.ListComp elt [⟨tg,iter,ifs,0⟩] scope pos) 0 (.ref it) (.ref D) (qt X N' scope s3 H3 fp).env).onRaise (λx=>do noteFrame x (qt X N' scope s3 H3 fp).env;theTreesLotGoes x)) _ _ s';refine wpAny_noted ?_;rw [compTurn_list];refine wpAny_bind (wpAny_standAt (wpAny_bind ?_));obtain ⟨i,σ5,H5,I5,st5,fr5,w5⟩:=hI;rcases turn i n σ5 H5 w5 with ⟨stop,q⟩|⟨go,step⟩
  ·refine thn (T.done (qt X N' scope s3 H3 fp) rfl rfl rfl rfl i [] s' σ5 H5 _ I5 (stat fr5) st5 stop) λr s6 ⟨hr,I6⟩=>?_;subst hr;refine wpAny_pure ?_;obtain ⟨mm,hn6,_⟩:=I6.loc;exact ⟨mm,hn6,λh' sb=>⟨.ref D,H5,W4 I3 f3 I6 sb,rfl,q⟩⟩
  ·refine thn (T.item (qt X N' scope s3 H3 fp) rfl rfl rfl rfl i [] s' σ5 H5 _ I5 (stat fr5) st5 go) λr s6 ⟨u,hr,h6⟩=>?_;subst hr;refine wpAny_bind (thn h6 λ_ s7 ⟨x,H7,I7,r7,y7,st7,fr7⟩=>?_);have I7':=I7.pinned (stat fr7) (T.obj _ _ st7);have again:∀ {σ8:L2.St} {H8:Hp} {s8:Shared},Inv (qt X N' scope s3 H3 fp) ([]++XH fp s7.heap) σ8 H8 s8->(∃ n',n'<n/\W (i+1) n' σ8 H8) ->
     ∃ m',m'<n/\∃ i σ' H',Inv (qt X N' scope s3 H3 fp) [] σ' H' s8/\tn i s8.heap/\(∀ b∈fp,H' b=none)/\W i m' σ' H':=λ{σ8 H8 s8} I8 ⟨n',hn,w8⟩=>by
    refine ⟨n',hn,i+1,σ8,H8,I8.unpinned,T.keep _ _ _ st7 λb hb o e=>(I8.pin (b,o) (mem_append_right _ (mem_append_right _ (z9 hb e)))).1,λb hb=>?_,w8⟩;obtain ⟨o,e,d⟩:=T.obj _ _ st7 b hb;exact (I8.pin (b,o) (mem_append_right _ (mem_append_right _ (z9 hb e)))).2.1
   refine wpAny_bind (wpAny_mono (hg s3 H3 fp _ s7 σ5 H7 x u _ I7' r7 (step x H7 y7)) (λ_ s8 ⟨σ8,H8,I8,q8⟩=>?_) λ_ _ z=>z.elim);refine wpAny_bind (wpAny_mono (hf s3 H3 fp _ s8 σ8 H8 _ I8 q8) (λk s9 ⟨H9,I9,q9⟩=>?_) λ_ _ z=>z.elim);cases k with
   |false=>
    rw [if_neg Bool.false_ne_true] at q9;exact wpAny_pure ⟨rfl,again I9 q9⟩
   |true=>
    rw [if_pos rfl] at q9;refine wpAny_bind (wpAny_bind (wpAny_mono (he s3 H3 fp _ s9 σ8 H9 _ I9 q9) (λw s10 ⟨y,H10,I10,r10,q10⟩=>?_) λ_ _ z=>z.elim));obtain ⟨zs,hz,hl,q10⟩:=q10;refine wpAny_bind (wpAny_mono (DH (X:=qt X N' scope s3 H3 fp) _ s10 σ8 H10 (.ref D) [y] (.ref D) [w] (λ_ H11=>H11=upd H10 D (.lst (zs++[y]))) I10 rfl (.cons r10 .nil) ⟨D,zs,y,rfl,rfl,hz,hl,rfl⟩) (λ_ s11 ⟨_,H11,I11,_,e11⟩=>?_) λ_ _ z=>z.elim);subst e11;exact wpAny_pure (wpAny_pure ⟨rfl,again I11 q10⟩)
 exact codeAny_compStart_list loop (T.self X.A 0 _ _ _ tn4 loop)
end
section
variable {K:Frg} {G G':Gp} {H H':Hp}
def qhy {D:Addr} {o:HO} {ws:List V} (hD:H D=some (.lst ws)) {a:Addr} {vs:List V} (h:SqT K H a vs):SqT K (upd H D o) a vs:=by
 rcases h with h|h
 ·refine .inl ?_;rcases h with h|⟨ob,h⟩
  ·have:a≠D:=by intro e;subst e;rw [hD] at h;cases h
   exact .inl (by rw [qT this];exact h)
  ·have:a≠D:=by intro e;subst e;rw [hD] at h;cases h
   exact .inr ⟨ob,by rw [qT this];exact h⟩
 ·exact .inr h
mutual
def Rp.wrD {D:Addr} {o:HO} {ws:List V} (hD:H D=some (.lst ws)):∀ {x:T} {v:V},Rp K H x v->Rp K (upd H D o) x v
 |_,_,.non=>.non
 |_,_,.bl b=>.bl b
 |_,_,.int i=>.int i
 |_,_,.str x=>.str x
 |_,_,.ref a=>.ref a
 |_,_,.tup h hs=>.tup (qhy hD h) (Rps.wrD hD hs)
def Rps.wrD {D:Addr} {o:HO} {ws:List V} (hD:H D=some (.lst ws)):∀ {x:List T} {v:List V},Rps K H x v->Rps K (upd H D o) x v
 |_,_,.nil=>.nil
 |_,_,.cons a b=>.cons (Rp.wrD hD a) (Rps.wrD hD b)
end
def HR.wrD {D:Addr} {o:HO} {ws:List V} (hr:HR K G H) (hD:H D=some (.lst ws)) (g:G D=none):HR K G (upd H D o):=λa ob e=>by
 have ha:a≠D:=by intro z;subst z;rw [g] at e;cases e
 have q:=hr a ob e;cases ob with
 |lst xs=>obtain ⟨vs,h1,h2⟩:=q;exact ⟨vs,by rw [qT ha];exact h1,h2.wrD hD⟩
 |frz xs=>obtain ⟨vs,⟨o1,h1⟩,h2⟩:=q;exact ⟨vs,⟨o1,by rw [qT ha];exact h1⟩,h2.wrD hD⟩
def Rel.wrD {D:Addr} {o:HO} {ws:List V} {τ:St3} {σ:L2.St} (r:Rel K τ G σ H) (hD:H D=some (.lst ws)) (g:G D=none):Rel K τ G σ (upd H D o):=
 ⟨r.hp.wrD hD g,r.len,λi t e=>let ⟨v,h1,h2⟩:=r.st i t e;⟨v,h1,h2.wrD hD⟩⟩
def Kp.wrD {D:Addr} {o:HO} (k:Kp G H G' H') (hD:H D=none):Kp G H G' (upd H' D o):=λa ob h g=>by
 obtain ⟨h1,h2⟩:=k a ob h g;exact ⟨by rw [qT (qE h hD)];exact h1,h2⟩
def qdI {α:Type} {m:List (Option Nat)} {σ:List (Option α)} {i j:Nat} (h:m[i]?=some (some j)):(cap m σ)[i]?=some ((σ[j]?).join):=by
 unfold cap;rw [getElem?_map,h];rfl
def Rel.cap {τ:St3} {σ:L2.St} (r:Rel K τ G σ H) (m:List (Option Nat)):Rel K (cap m τ) G (L3.cap m σ) H:=by
 refine ⟨r.hp,by simp [L3.cap],λi t e=>?_⟩;obtain ⟨j,e1,e2⟩:=qdh e;obtain ⟨v,h1,h2⟩:=r.st j t e2;exact ⟨v,by rw [qdI e1,h1];rfl,h2⟩
end
def SB (stay:Gp->Prop) (g:TG3) (tif:TT3) (te:TE3) (q:Q3):List T->List T->St3->Gp->Prop
 |[],ys,_,G=>stay G/\∀ p,G p=none->q (.ref p) (gu G p (.lst ys))
 |x::r,ys,τ,G=>stay G/\g x τ G λτ2 G2=>tif τ2 G2 λk G3=>if k=true then te τ2 G3 λy G4=>ys.length<sizeLine/\SB stay g tif te q r (ys++[y]) τ2 G4 else SB stay g tif te q r ys τ2 G3
def lc3 (wi:TI3) (g:TG3) (tif:TT3) (te:TE3) (m:List (Option Nat)):TE3:=λτ G q=>wi τ G λitems stay G1=>SB stay g tif te q items [] (cap m τ) G1
abbrev F3 (X:Cx) (ifs:List Expr) (t:TT3):Prop:=PF X ifs (lT X.K t)
def tt3:TT3:=λ_ G q=>q true G
def qpX {X:Cx}:F3 X [] tt3:=λpins s σ H Q I ⟨τ,G,q,rl,h,af⟩=>qlg pins s σ H Q I (af true G h H rl.hp Kp.refl)
def qov {X:Cx} {c:Expr} {t:TT3} (h:C3 X c t):F3 X [c] t:=qmg h
section
variable {X:Cx}
def qrd {elt tg iter:Expr} {ifs:List Expr} {scope:Scope} {pos:Pos} (N':List Str) (m:List (Option Nat)) {wi:TI3} {g:TG3} {tif:TT3} {te:TE3} (hc:X.calm=true) (hi:I3 X tg iter wi)
  (hg:∀ s H fp,G3 (qt X N' scope s H fp) tg g) (hf:∀ s H fp,F3 (qt X N' scope s H fp) ifs tif) (he:∀ s H fp,E3 (qt X N' scope s H fp) elt te)
  (hsc:qbC X.env.scope scope=true) (hcap:ET X.N N' scope m=true) (hs:∀ x,foldedSetIterable iter X.env x=pure x:=by intro _;rfl) :
  E3 X (.ListComp elt [⟨tg,iter,ifs,0⟩] scope pos) (lc3 wi g tif te m):=
 R0 (qpO (g:=lG X.K g) (tif:=lT X.K tif) (te:=lE X.K te) hc hi hg hf he hsc hcap hs) λσ H Q ⟨τ,G,q,rl,h,af⟩=>by
  refine ⟨τ,G,_,rl,h,λitems stay G1 h1 J H1 hr1 k1 ok D hD=>?_⟩;have gD:G1 D=none:=hr1.free hD;refine ⟨λi n σ' H'=>n=items.length-i/\i<=items.length/\∃ τ' G' ys vs,Rel X.K τ' G' σ' H'/\Kp G1 H1 G' H'/\H' D=some (.lst vs)/\Rps X.K H' ys vs/\G' D=none/\SB stay g tif te q (items.drop i) ys τ' G',
   ⟨_,rfl,Nat.zero_le _,cap m τ,G1,[],[],((rl.next hr1 k1).cap m).next (hr1.laid hD) (Kp.laid hD),Kp.laid hD,zG,.nil,gD,by simpa using h1⟩,?_⟩
  rintro i n σ' H' ⟨rfl,hi,τ',G',ys,vs,rl',k',hDl,rys,gD',h'⟩;by_cases hlt:i<items.length
  ·rw [List.drop_eq_getElem_cons hlt] at h';obtain ⟨hst,h'⟩:=h';obtain ⟨go,yld,_⟩:=ok G' H' rl'.hp k' hst;have hx:items[i]?=some items[i]:=getElem?_eq_getElem hlt;refine .inr ⟨go i _ hx,λv H2 y=>?_⟩;obtain ⟨rv,hr2,k2⟩:=yld i _ v H2 hx y;have nxt:∀ {τ4:St3} {G4:Gp} {σ4:L2.St} {H4:Hp} {ys4:List T} {vs4:List V},Rel X.K τ4 G4 σ4 H4->Kp G1 H1 G4 H4->H4 D=some (.lst vs4)->Rps X.K H4 ys4 vs4->G4 D=none->SB stay g tif te q (items.drop (i+1)) ys4 τ4 G4 ->
     ∃ n',n'<items.length-i/\(n'=items.length-(i+1)/\i+1<=items.length/\∃ τ' G' ys vs,Rel X.K τ' G' σ4 H4/\Kp G1 H1 G' H4/\H4 D=some (.lst vs)/\Rps X.K H4 ys vs/\G' D=none/\SB stay g tif te q (items.drop (i+1)) ys τ' G'):=
    λ{τ4 G4 σ4 H4 ys4 vs4} a b c d e f=>⟨_,by omega,rfl,hlt,τ4,G4,ys4,vs4,a,b,c,d,e,f⟩
   refine ⟨_,τ',G',_,rv,rl'.next hr2 k2,h',λτ3 G3 h3 σ3 H3 rl3 k3=>⟨τ3,G3,_,rl3,h3,λk G4 h4 H4 hr4 k4=>?_⟩⟩;have kk:=(k2.trans k3).trans k4;obtain ⟨hD4,gD4⟩:=kk D _ hDl gD';have rys4:=rys.keep rl'.hp kk;cases k with
   |false=>
    rw [if_neg Bool.false_ne_true] at h4;refine qoo ?_;exact nxt (rl3.next hr4 k4) (k'.trans kk) hD4 rys4 gD4 h4
   |true=>
    rw [if_pos rfl] at h4;refine qob ?_;refine ⟨τ3,G4,_,rl3.next hr4 k4,h4,λz G5 h5 w H5 rw5 hr5 k5=>?_⟩;obtain ⟨hD5,gD5⟩:=k5 D _ hD4 gD4;have rys5:=rys4.keep hr4 k5;exact ⟨vs,hD5,by rw [← rys.length];exact h5.1,nxt (((rl3.next hr4 k4).next hr5 k5).wrD hD5 gD5) (((k'.trans kk).trans k5).wrD hD) zG ((rys5.append (.cons rw5 .nil)).wrD hD5) gD5 h5.2⟩
  ·have e:i=items.length:=by omega
   subst e;rw [List.drop_length] at h';obtain ⟨_,_,stop⟩:=ok G' H' rl'.hp k' h'.1;refine .inl ⟨stop,af _ _ (h'.2 D gD') _ H' (.ref D) (λa o e=>?_) λa o e ga=>?_⟩
   ·by_cases ha:a=D
    ·subst ha;rw [qy] at e;cases e;exact ⟨vs,hDl,rys⟩
    ·rw [jL ha] at e;exact rl'.hp a o e
   ·obtain ⟨e1,g1⟩:=k1 a o e ga;obtain ⟨e2,g2⟩:=k' a o e1 g1;exact ⟨e2,by rw [jL (qE e1 hD)];exact g2⟩
end
structure Src (P:Program) (w:World) (it c:Addr) (St:Nat->Heap->Prop) (Has:Array Value->Heap->Prop):Prop where
 obj:∀ {k h},St k h->∃ o,h.get? it=some o/\∀ v,o.data≠.cell v
 keep:∀ {k h h'},St k h->(∀ o,h.get? it=some o->h'.get? it=some o)->St k h'
 hkeep:∀ {xs h h'},Has xs h->(∀ o,h.get? c=some o->h'.get? c=some o)->Has xs h'
 item:∀ {A:Around} {s:Shared} {k:Nat} {xs:Array Value} {x:Value} {Q:Value->Shared->Prop} {E:Value->Shared->Prop},St k s.heap->Has xs s.heap->xs[k]?=some x ->
  (∀ h',St (k+1) h'->Heap.SameBut it s.heap h'->Q x { s with heap:=h' })->wpAny (model P w) A (Builtin.SmallTypes.nextOf (.ref it)) Q E s
 done:∀ {A:Around} {s:Shared} {k:Nat} {xs:Array Value} {Q:Value->Shared->Prop} {E:Value->Shared->Prop},A.handled=none->St k s.heap->Has xs s.heap->xs[k]?=none ->
  (∀ h' e,Heap.ExtBut it s.heap h'->(∃ o,h'.get? e=some o/\o.cls=.type "StopIteration")->E (.ref e) { s with heap:=h' })->wpAny (model P w) A (Builtin.SmallTypes.nextOf (.ref it)) Q E s
def qef {P:Program} {w:World} (it l:Addr):Src P w it l (λk h=>h.IsListIter it l k) (λxs h=>h.IsList l xs) where
 obj:=λst=>let ⟨o,e,_,d⟩:=st;⟨o,e,λv z=>by rw [d] at z;cases z⟩
 keep:=λst k=>st.at λo e=>k o e
 hkeep:=λst k=>st.at λo e=>k o e
 item:=λst hl hx hQ=>wpAny_nextOf_list_item st hl hx hQ
 done:=λhh st hl hx hE=>wpAny_nextOf_list_end hh st hl hx hE
def qbb {P:Program} {w:World} {A:Around} {s:Shared} {it t:Addr} {i:Nat} {its:Array Value} {x:Value} {Q:Value->Shared->Prop} {E:Value->Shared->Prop} (hit:s.heap.IsTupleIter it t i) (ht:s.heap.IsTuple t its) (hx:its[i]?=some x)
  (hQ:∀ h',h'.IsTupleIter it t (i+1)->Heap.SameBut it s.heap h'->Q x { s with heap:=h' }):wpAny (model P w) A (Builtin.SmallTypes.nextOf (.ref it)) Q E s:=by
 obtain ⟨o1,e1,c1,d1⟩:=id hit;obtain ⟨o2,e2,_,n2,d2⟩:=ht;unfold Builtin.SmallTypes.nextOf;refine wpAny_bind (wpAny_callSpecial?_slot (name:=Str.ofString "__next__") hit.typeIs F.slot_tuple_iterator_next (wpAny_call_entry F.slot_tuple_iterator_next hit.typeIs F.entry_tuple_iterator_next ?_ (F.args_tuple_iterator_next_1 _)));refine wpAny_bind (m:=field (.ref it) 0) (wpAny_field e1 d1 (x:=.ref t) rfl ?_);rw [if_neg (show ¬ ((Value.ref t==Value.none)=true) by exact Bool.false_ne_true)];refine wpAny_bind (m:=field (.ref it) 1) (wpAny_field e1 d1 (x:=.int i 0) rfl ?_);refine wpAny_bind (m:=seqItems? (.ref t)) (wpAny_seqItems e2 d2 ?_);simp only [Int.toNat_natCast,hx];refine wpAny_bind (wpAny_setField e1 d1 (by simp) (wpAny_pure ⟨x,rfl,wpAny_pure (hQ _ ⟨_,Heap.get?_update_self _ e1 (Obj.isFreed_of_fields (Obj.data_mapFields d1 _)),(Obj.cls_mapFields ..).trans c1,?_⟩ (Heap.SameBut.update ..))⟩));rw [Obj.data_mapFields d1];simp [rawInt]
def SC {P:Program} {w:World} {A:Around} {s:Shared} {it t:Addr} {i:Nat} {its:Array Value} {Q:Value->Shared->Prop} {E:Value->Shared->Prop} (hh:A.handled=none) (hit:s.heap.IsTupleIter it t i) (ht:s.heap.IsTuple t its) (hx:its[i]?=none)
  (hE:∀ h' e,Heap.ExtBut it s.heap h'->(∃ o,h'.get? e=some o/\o.cls=.type "StopIteration")->E (.ref e) { s with heap:=h' }):wpAny (model P w) A (Builtin.SmallTypes.nextOf (.ref it)) Q E s:=by
 obtain ⟨o1,e1,c1,d1⟩:=id hit;obtain ⟨o2,e2,_,n2,d2⟩:=ht;unfold Builtin.SmallTypes.nextOf;refine wpAny_bind (wpAny_callSpecial?_slot (name:=Str.ofString "__next__") hit.typeIs F.slot_tuple_iterator_next (wpAny_call_entry F.slot_tuple_iterator_next hit.typeIs F.entry_tuple_iterator_next ?_ (F.args_tuple_iterator_next_1 _)));refine wpAny_bind (m:=field (.ref it) 0) (wpAny_field e1 d1 (x:=.ref t) rfl ?_);rw [if_neg (show ¬ ((Value.ref t==Value.none)=true) by exact Bool.false_ne_true)];refine wpAny_bind (m:=field (.ref it) 1) (wpAny_field e1 d1 (x:=.int i 0) rfl ?_);refine wpAny_bind (m:=seqItems? (.ref t)) (wpAny_seqItems e2 d2 ?_);simp only [Int.toNat_natCast,hx];refine wpAny_bind (wpAny_rule (wpAny_bind (wpAny_setField e1 d1 (by simp) ?_)));refine wpAny_bind (m:=newExc (.type "StopIteration") []) ?_;simp only [newExc,newTuple];refine wpAny_bind (wpAny_newObj_type ?_ (by size_fits));refine wpAny_bind (m:=firstArgMember _ _) (wpAny_of_eq (a:=Value.none) (by first|rfl|(simp only [firstArgMember]<;>rfl)) (wpAny_newObj_type ?_ (by size_fits)));simp only [raiseNew];refine wpAny_bind (wpAny_handled ?_)
 first|rw [show A.in1.handled=Option.none from hh]|rw [show A.handled=Option.none from hh]
 exact wpAny_bind (wpAny_pure (wpAny_throw (hE _ _ (((Heap.SameBut.update ..).extBut.push _).push _) ⟨_,Heap.get?_push_size _ rfl,rfl⟩)))
def qiU {P:Program} {w:World} (it t:Addr):Src P w it t (λk h=>h.IsTupleIter it t k) (λxs h=>h.IsTuple t xs) where
 obj:=λst=>let ⟨o,e,_,d⟩:=st;⟨o,e,λv z=>by rw [d] at z;cases z⟩
 keep:=λst k=>st.at λo e=>k o e
 hkeep:=λst k=>st.at λo e=>k o e
 item:=λst hl hx hQ=>qbb st hl hx hQ
 done:=λhh st hl hx hE=>SC hh st hl hx hE
structure ZA (z ti to i1 i2 c1 c2:Addr):Prop where
 ne:([z,ti,to,i1,i2]:List Addr).Nodup
 a1:c1∉[z,to,i1,i2]
 a2:c2∉[z,to,i1,i2]
section
variable {P:Program} {w:World} {A:Around} {s:Shared} {z ti to i1 i2 c1 c2:Addr} {S1 S2:Nat->Heap->Prop} {H1 H2:Array Value->Heap->Prop} {k1 k2:Nat} {xs ys:Array Value} {x y a b:Value} {E:Value->Shared->Prop}
def qd1 {Q:Value->Shared->Prop} (R1:Src P w i1 c1 S1 H1) (R2:Src P w i2 c2 S2 H2) (D:ZA z ti to i1 i2 c1 c2) (hz:IsZip s.heap z ti to .none) (hi:IsPair s.heap ti (.ref i1) (.ref i2)) (ho:IsPair s.heap to a b)
  (p1:S1 k1 s.heap) (p2:S2 k2 s.heap) (l1:H1 xs s.heap) (l2:H2 ys s.heap) (hx:xs[k1]?=some x) (hy:ys[k2]?=some y)
  (hQ:∀ h',IsZip h' z ti to (rawInt s.heap.objs.size)->IsPair h' to x y->S1 (k1+1) h'->S2 (k2+1) h'->IsPair h' s.heap.objs.size x y->(∀ c o,c∉[z,to,i1,i2]->s.heap.get? c=some o->h'.get? c=some o)->Q (.ref s.heap.objs.size) { s with heap:=h' }) :
  wpAny (model P w) A (Builtin.«zip.__next__» ⟨[.ref z],[]⟩) (λfin s'=>∃ v,fin=.done (.ret v)/\Q v s') E s:=by
 have ne:=D.ne;simp only [List.nodup_cons,mem_cons,not_mem_nil,not_or,or_false] at ne;obtain ⟨⟨n1,n2,n3,n4⟩,⟨n5,n6,n7⟩,⟨n8,n9⟩,n10,_⟩:=ne;have a1:=D.a1;have a2:=D.a2;simp only [mem_cons,not_mem_nil,not_or,or_false] at a1 a2;obtain ⟨q1,q2,q3,q4⟩:=a1;obtain ⟨r1,r2,r3,r4⟩:=a2;refine wpAny_bind (m:=field (.ref z) 2) (wpAny_field hz rfl (x:=.bool false) rfl ?_);refine wpAny_bind (m:=field (.ref z) 3) (wpAny_field hz rfl (x:=.ref ti) rfl ?_);refine wpAny_bind (wpAny_seqItems hi rfl ?_);refine wpAny_bind (m:=Builtin.SmallTypes.ownedTupleIsFree (.ref z)) ?_;unfold Builtin.SmallTypes.ownedTupleIsFree;refine wpAny_bind (wpAny_field hz rfl (x:=Value.none) rfl (wpAny_pure ?_));simp only [if_true];refine wpAny_bind (wpAny_rule (wpAny_bind (wpAny_field hz rfl (x:=.ref to) rfl (wpAny_bind (wpAny_setField_rec hz (by simp) λg1 z1 s1=>?_)))))
 replace z1:IsZip g1 z ti to Value.ellipsis:=z1
 refine wpAny_bind ?_;simp only [List.zipIdx_cons,List.zipIdx_nil,List.forIn_cons,List.forIn_nil];refine wpAny_bind (wpAny_bind (wpAny_onRaise (wpAny_bind (m:=Builtin.SmallTypes.nextOf (.ref i1)) ?_)));refine R1.item (R1.keep p1 λo e=>s1.extBut _ _ (Ne.symm n3) e) (R1.hkeep l1 λo e=>s1.extBut _ _ q1 e) hx λg2 p12 s2=>wpAny_pure ?_;have t2:IsPair g2 to a b:=s2.extBut _ _ n8 (s1.extBut _ _ (Ne.symm n2) ho);refine wpAny_bind (wpAny_seqItems t2 rfl (wpAny_bind (wpAny_updateSeq_pair t2 λg3 t3 s3=>?_)))
 replace t3:IsPair g3 to x b:=t3
 refine wpAny_bind (wpAny_letGo (wpAny_pure (wpAny_bind (wpAny_bind (wpAny_onRaise (wpAny_bind (m:=Builtin.SmallTypes.nextOf (.ref i2)) ?_))))));refine R2.item (R2.keep p2 λo e=>s3.extBut _ _ (Ne.symm n9) (s2.extBut _ _ (Ne.symm n10) (s1.extBut _ _ (Ne.symm n4) e))) (R2.hkeep l2 λo e=>s3.extBut _ _ r2 (s2.extBut _ _ r3 (s1.extBut _ _ r1 e))) hy λg4 p24 s4=>wpAny_pure ?_;have t4:IsPair g4 to x b:=s4.extBut _ _ n9 t3;refine wpAny_bind (wpAny_seqItems t4 rfl (wpAny_bind (wpAny_updateSeq_pair t4 λg5 t5 s5=>?_)))
 replace t5:IsPair g5 to x y:=t5
 refine wpAny_bind (wpAny_letGo (wpAny_pure (wpAny_pure (wpAny_bind (wpAny_seqItems t5 rfl (wpAny_bind (wpAny_newTuple ?_)))))));have sz:g5.objs.size=s.heap.objs.size:=by rw [s5.1,s4.1,s3.1,s2.1,s1.1]
 have z5:IsZip g5 z ti to Value.ellipsis:=s5.extBut _ _ n2 (s4.extBut _ _ n4 (s3.extBut _ _ n2 (s2.extBut _ _ n3 z1)));have kk:∀ c o,c∉[z,to,i1,i2]->s.heap.get? c=some o->g5.get? c=some o:=λc o hc e=>by
  simp only [mem_cons,not_mem_nil,not_or,or_false] at hc;exact s5.extBut _ _ hc.2.1 (s4.extBut _ _ hc.2.2.2 (s3.extBut _ _ hc.2.1 (s2.extBut _ _ hc.2.2.1 (s1.extBut _ _ hc.1 e))))
 have p15:S1 (k1+1) g5:=R1.keep p12 λo e=>s5.extBut _ _ (Ne.symm n8) (s4.extBut _ _ n10 (s3.extBut _ _ (Ne.symm n8) e));have p25:S2 (k2+1) g5:=R2.keep p24 λo e=>s5.extBut _ _ (Ne.symm n9) e;have zlt:z<g5.objs.size:=Heap.lt_size z5;refine wpAny_bind (m:=Builtin.SmallTypes.ownedTupleHandOut (.ref z) (.ref g5.objs.size)) ?_;unfold Builtin.SmallTypes.ownedTupleHandOut;have z6:IsZip (g5.push { cls:=.type "tuple",data:=.seq #[x,y] }) z ti to Value.ellipsis:=Heap.get?_push_of_some _ z5;refine wpAny_bind (wpAny_setField_rec z6 (by simp) λg7 z7 s7=>?_)
 replace z7:IsZip g7 z ti to (rawInt g5.objs.size):=z7
 refine wpAny_setField_rec z7 (by simp) λg8 z8 s8=>?_
 replace z8:IsZip g8 z ti to (rawInt g5.objs.size):=z8
 have up:∀ c o,c≠z->g5.get? c=some o->g8.get? c=some o:=λc o hc e=>s8.extBut _ _ hc (s7.extBut _ _ hc (Heap.get?_push_of_some _ e));have t8:IsPair g8 g5.objs.size x y:=s8.extBut _ _ (Nat.ne_of_gt zlt) (s7.extBut _ _ (Nat.ne_of_gt zlt) (Heap.get?_push_size _ rfl));rw [sz] at z8 t8;refine wpAny_pure ⟨_,rfl,?_⟩;show Q (Value.ref g5.objs.size) _;rw [sz];exact hQ g8 z8 (up _ _ (Ne.symm n2) t5) (R1.keep p15 λo e=>up _ o (Ne.symm n3) e) (R2.keep p25 λo e=>up _ o (Ne.symm n4) e) t8 λc o hc e=>up c o (λq=>hc (by simp [q])) (kk c o hc e)
def qhm {Q:Fin->Shared->Prop} (hh:A.handled=none) (R1:Src P w i1 c1 S1 H1) (R2:Src P w i2 c2 S2 H2) (D:ZA z ti to i1 i2 c1 c2) (hz:IsZip s.heap z ti to .none) (hi:IsPair s.heap ti (.ref i1) (.ref i2)) (ho:IsPair s.heap to a b)
  (p1:S1 k1 s.heap) (p2:S2 k2 s.heap) (l1:H1 xs s.heap) (l2:H2 ys s.heap) (hend:xs[k1]?=none\/ys[k2]?=none)
  (hE:∀ h' e,(∀ c o,c∉[z,to,i1,i2]->s.heap.get? c=some o->h'.get? c=some o)->(∃ o,h'.get? e=some o/\o.cls=.type "StopIteration")->E (.ref e) { s with heap:=h' }) :
  wpAny (model P w) A (Builtin.«zip.__next__» ⟨[.ref z],[]⟩) Q E s:=by
 have ne:=D.ne;simp only [List.nodup_cons,mem_cons,not_mem_nil,not_or,or_false] at ne;obtain ⟨⟨n1,n2,n3,n4⟩,⟨n5,n6,n7⟩,⟨n8,n9⟩,n10,_⟩:=ne;have a1:=D.a1;have a2:=D.a2;simp only [mem_cons,not_mem_nil,not_or,or_false] at a1 a2;obtain ⟨q1,q2,q3,q4⟩:=a1;obtain ⟨r1,r2,r3,r4⟩:=a2;refine wpAny_bind (m:=field (.ref z) 2) (wpAny_field hz rfl (x:=.bool false) rfl ?_);refine wpAny_bind (m:=field (.ref z) 3) (wpAny_field hz rfl (x:=.ref ti) rfl ?_);refine wpAny_bind (wpAny_seqItems hi rfl ?_);refine wpAny_bind (m:=Builtin.SmallTypes.ownedTupleIsFree (.ref z)) ?_;unfold Builtin.SmallTypes.ownedTupleIsFree;refine wpAny_bind (wpAny_field hz rfl (x:=Value.none) rfl (wpAny_pure ?_));simp only [if_true];refine wpAny_bind (wpAny_rule (wpAny_bind (wpAny_field hz rfl (x:=.ref to) rfl (wpAny_bind (wpAny_setField_rec hz (by simp) λg1 z1 s1=>?_)))))
 replace z1:IsZip g1 z ti to Value.ellipsis:=z1
 refine wpAny_bind ?_;simp only [List.zipIdx_cons,List.zipIdx_nil,List.forIn_cons,List.forIn_nil];refine wpAny_bind (wpAny_bind (wpAny_onRaise (wpAny_bind (m:=Builtin.SmallTypes.nextOf (.ref i1)) ?_)));cases hx:xs[k1]? with
 |none=>
  refine R1.done hh (R1.keep p1 λo e=>s1.extBut _ _ (Ne.symm n3) e) (R1.hkeep l1 λo e=>s1.extBut _ _ q1 e) hx λg2 e s2 ⟨oe,he,ce⟩=>?_;have z2:IsZip g2 z ti to Value.ellipsis:=s2 _ _ n3 z1;have ez:e≠z:=λq=>by subst q;rw [z2] at he;cases he;simp at ce
  refine wpAny_setField_rec z2 (by simp) λg3 _ s3=>hE g3 e (λc o hc q=>?_) ⟨oe,s3.extBut _ _ ez he,ce⟩;simp only [mem_cons,not_mem_nil,not_or,or_false] at hc;exact s3.extBut _ _ hc.1 (s2 _ _ hc.2.2.1 (s1.extBut _ _ hc.1 q))
 |some x=>
  have hy:ys[k2]?=none:=by rcases hend with q|q;rw [hx] at q;cases q;exact q
  refine R1.item (R1.keep p1 λo e=>s1.extBut _ _ (Ne.symm n3) e) (R1.hkeep l1 λo e=>s1.extBut _ _ q1 e) hx λg2 p12 s2=>wpAny_pure ?_;have t2:IsPair g2 to a b:=s2.extBut _ _ n8 (s1.extBut _ _ (Ne.symm n2) ho);refine wpAny_bind (wpAny_seqItems t2 rfl (wpAny_bind (wpAny_updateSeq_pair t2 λg3 t3 s3=>?_)));refine wpAny_bind (wpAny_letGo (wpAny_pure (wpAny_bind (wpAny_bind (wpAny_onRaise (wpAny_bind (m:=Builtin.SmallTypes.nextOf (.ref i2)) ?_))))));refine R2.done hh (R2.keep p2 λo e=>s3.extBut _ _ (Ne.symm n9) (s2.extBut _ _ (Ne.symm n10) (s1.extBut _ _ (Ne.symm n4) e))) (R2.hkeep l2 λo e=>s3.extBut _ _ r2 (s2.extBut _ _ r3 (s1.extBut _ _ r1 e))) hy λg4 e s4 ⟨oe,he,ce⟩=>?_;have z4:IsZip g4 z ti to Value.ellipsis:=s4 _ _ n4 (s3.extBut _ _ n2 (s2.extBut _ _ n3 z1));have ez:e≠z:=λq=>by subst q;rw [z4] at he;cases he;simp at ce
  refine wpAny_setField_rec z4 (by simp) λg5 _ s5=>hE g5 e (λc o hc q=>?_) ⟨oe,s5.extBut _ _ ez he,ce⟩;simp only [mem_cons,not_mem_nil,not_or,or_false] at hc;exact s5.extBut _ _ hc.1 (s4 _ _ hc.2.2.2 (s3.extBut _ _ hc.2.1 (s2.extBut _ _ hc.2.2.1 (s1.extBut _ _ hc.1 q))))
end
abbrev qo4 (b:Bool):String:=if b then "list_iterator" else "tuple_iterator"
abbrev je (b:Bool) (c:Addr):Obj:={ cls:=.type (qo4 b),data:=.fields #[.ref c,.int 0 0] }
def qdX (b:Bool) (it c:Addr) (k:Nat) (h:Heap):Prop:=match b with|true=>h.IsListIter it c k|false=>h.IsTupleIter it c k
def M0 (b:Bool) (c:Addr) (xs:Array Value) (h:Heap):Prop:=match b with|true=>h.IsList c xs|false=>h.IsTuple c xs
def jf {P:Program} {w:World} (b:Bool) (it c:Addr):Src P w it c (qdX b it c) (M0 b c):=by
 cases b
 ·exact qiU it c
 ·exact qef it c
def NQ {P:Program} {w:World} {A:Around} {s:Shared} {b:Bool} {c:Addr} {xs:Array Value} {Q:Value->Shared->Prop} {E:Value->Shared->Prop} (h:M0 b c xs s.heap) (q:Q (.ref s.heap.objs.size) { s with heap:=s.heap.push (je b c) }) :
  wpAny (model P w) A (pyIter (.ref c)) Q E s:=by
 cases b
 ·exact wpAny_pyIter_tuple (show s.heap.IsTuple c xs from h) q
 ·exact wpAny_pyIter_list (show s.heap.IsList c xs from h) q
def qb3 {b:Bool} {c:Addr} {xs:Array Value} {h:Heap} {o:Obj} (q:M0 b c xs h):M0 b c xs (h.push o):=by
 cases b
 ·exact (show h.IsTuple c xs from q).at λ_ e=>Heap.get?_push_of_some _ e
 ·exact (show h.IsList c xs from q).at λ_ e=>Heap.get?_push_of_some _ e
abbrev zh1 (h:Heap) (o1:Obj):Heap:=h.push o1
abbrev zh2 (h:Heap) (o1 o2:Obj):Heap:=(zh1 h o1).push o2
abbrev zh3 (h:Heap) (o1 o2:Obj):Heap:=(zh2 h o1 o2).push { cls:=.type "tuple",data:=.seq #[.ref h.objs.size,.ref (zh1 h o1).objs.size] }
abbrev zh4 (h:Heap) (o1 o2:Obj):Heap:=(zh3 h o1 o2).push { cls:=.type "tuple",data:=.seq #[.none,.none] }
abbrev zh5 (h:Heap) (o1 o2:Obj):Heap:=(zh4 h o1 o2).push { cls:=.type "zip",data:=.fields #[.none,.bool false,.bool false,.ref (zh2 h o1 o2).objs.size,.ref (zh3 h o1 o2).objs.size] }
def qcm (c1 c2:Addr) (o1 o2:Obj) :
  Meets (Builtin.«zip.__new__» ⟨[.type "zip",.ref c1,.ref c2],[]⟩) (λ_ R s=>
   (∀ (P:Program) (w:World) (A:Around) (Q:Value->Shared->Prop) (E:Value->Shared->Prop),Q (.ref s.heap.objs.size) { s with heap:=zh1 s.heap o1 }->wpAny (model P w) A (pyIter (.ref c1)) Q E s) /\
   (∀ (P:Program) (w:World) (A:Around) (Q:Value->Shared->Prop) (E:Value->Shared->Prop),Q (.ref (zh1 s.heap o1).objs.size) { s with heap:=zh2 s.heap o1 o2 }->wpAny (model P w) A (pyIter (.ref c2)) Q E { s with heap:=zh1 s.heap o1 }) /\
   R (.ok (.ret (.ref (zh4 s.heap o1 o2).objs.size))) { s with heap:=zh5 s.heap o1 o2 }):=
 .of_wp λprog w A R s h=>by
  obtain ⟨hp,g,d,tk,os⟩:=s;obtain ⟨h1,h2,h⟩:=h;have hsub:=sub_zip;have k1:=λA Q E=>h1 prog w A Q E;have k2:=λA Q E=>h2 prog w A Q E
  wp_walk using k1 _ _ _,k2 _ _ _
  exact ⟨_,rfl,h⟩
def qes (b1 b2:Bool) (z ti to i1 i2 c1 c2:Addr) (k:Nat) (h:Heap):Prop:=
 IsZip h z ti to .none/\IsPair h ti (.ref i1) (.ref i2)/\(∃ a b,IsPair h to a b)/\qdX b1 i1 c1 k h/\qdX b2 i2 c2 k h
section
variable {P:Program} {w:World} {A:Around} {s:Shared} {E:Value->Shared->Prop}
def qei {b1 b2:Bool} {c1 c2:Addr} {xs ys:Array Value} {Q:Value->Shared->Prop} (h1:M0 b1 c1 xs s.heap) (h2:M0 b2 c2 ys s.heap)
  (q:∀ h',qes b1 b2 (s.heap.objs.size+4) (s.heap.objs.size+2) (s.heap.objs.size+3) s.heap.objs.size (s.heap.objs.size+1) c1 c2 0 h'->(∀ c o,s.heap.get? c=some o->h'.get? c=some o)->Q (.ref (s.heap.objs.size+4)) { s with heap:=h' }) :
  wpAny (model P w) A (call (.type "zip") [.ref c1,.ref c2]) Q E s:=by
 refine callType_new F.called_zip (by decide) (F.typeCall_zip_2 _ _) (F.newCall_zip_2 _ _) (λobj=>F.args_object_init_3 obj _ _) F.entry_zip_new
  (qcm c1 c2 (je b1 c1) (je b2 c2)) ⟨λP w A Q E q=>NQ h1 q,λP w A Q E q=>NQ (s:={ s with heap:=zh1 s.heap (je b1 c1) }) (qb3 h2) q,?_⟩
 have e1:(zh1 s.heap (je b1 c1)).objs.size=s.heap.objs.size+1:=Heap.size_push ..;have e2:(zh2 s.heap (je b1 c1) (je b2 c2)).objs.size=s.heap.objs.size+2:=by rw [Heap.size_push,e1]
 have e3:(zh3 s.heap (je b1 c1) (je b2 c2)).objs.size=s.heap.objs.size+3:=by rw [Heap.size_push,e2]
 have e4:(zh4 s.heap (je b1 c1) (je b2 c2)).objs.size=s.heap.objs.size+4:=by rw [Heap.size_push,e3]
 have g5:(zh5 s.heap (je b1 c1) (je b2 c2)).get? (zh4 s.heap (je b1 c1) (je b2 c2)).objs.size=some _:=Heap.get?_push_size _ rfl;have g4:(zh5 s.heap (je b1 c1) (je b2 c2)).get? (zh3 s.heap (je b1 c1) (je b2 c2)).objs.size=some _:=Heap.get?_push_of_some _ (Heap.get?_push_size _ rfl);have g3:(zh5 s.heap (je b1 c1) (je b2 c2)).get? (zh2 s.heap (je b1 c1) (je b2 c2)).objs.size=some _:=Heap.get?_push_of_some _ (Heap.get?_push_of_some _ (Heap.get?_push_size _ rfl));have g2:(zh5 s.heap (je b1 c1) (je b2 c2)).get? (zh1 s.heap (je b1 c1)).objs.size=some (je b2 c2):=Heap.get?_push_of_some _ (Heap.get?_push_of_some _ (Heap.get?_push_of_some _ (Heap.get?_push_size _ rfl)));have g1:(zh5 s.heap (je b1 c1) (je b2 c2)).get? s.heap.objs.size=some (je b1 c1):=Heap.get?_push_of_some _ (Heap.get?_push_of_some _ (Heap.get?_push_of_some _ (Heap.get?_push_of_some _ (Heap.get?_push_size _ rfl))));show _/\_;rw [e2,e3,e4] at g5;rw [e1,e2] at g3;rw [e3] at g4;rw [e1] at g2;rw [e4];refine ⟨⟨_,g5,rfl⟩,q _ ⟨g5,g3,⟨_,_,g4⟩,?_,?_⟩ λc o e=>Heap.get?_push_of_some _ (Heap.get?_push_of_some _ (Heap.get?_push_of_some _ (Heap.get?_push_of_some _ (Heap.get?_push_of_some _ e))))⟩
 ·cases b1<;>exact ⟨_,g1,rfl,rfl⟩
 ·cases b2<;>exact ⟨_,g2,rfl,rfl⟩
def qej {b1 b2:Bool} {z ti to i1 i2 c1 c2:Addr} {k:Nat} {xs ys:Array Value} {x y:Value} {Q:Option Value->Shared->Prop} (D:ZA z ti to i1 i2 c1 c2) (st:qes b1 b2 z ti to i1 i2 c1 c2 k s.heap) (l1:M0 b1 c1 xs s.heap) (l2:M0 b2 c2 ys s.heap) (hx:xs[k]?=some x) (hy:ys[k]?=some y)
  (hQ:∀ h',IsZip h' z ti to (rawInt s.heap.objs.size)->IsPair h' ti (.ref i1) (.ref i2)->(∃ a b,IsPair h' to a b)->qdX b1 i1 c1 (k+1) h'->qdX b2 i2 c2 (k+1) h'->IsPair h' s.heap.objs.size x y->(∀ c o,c∉[z,to,i1,i2]->s.heap.get? c=some o->h'.get? c=some o)->Q (some (.ref s.heap.objs.size)) { s with heap:=h' }) :
  wpAny (model P w) A (pyNext (.ref z)) Q E s:=by
 obtain ⟨hz,hi,⟨a,b,ho⟩,p1,p2⟩:=st;have ty:s.TypeIs (.ref z) "zip" := ⟨_,hz,rfl⟩
 have nti:ti∉[z,to,i1,i2]:=by
  have ne:=D.ne;simp only [List.nodup_cons,mem_cons,not_mem_nil,not_or,or_false] at ne ⊢;exact ⟨Ne.symm ne.1.1,ne.2.1.1,ne.2.1.2.1,ne.2.1.2.2⟩
 unfold pyNext;exact wpAny_bind (wpAny_attempt (wpAny_callSpecial?_slot (name:=Str.ofString "__next__") ty F.slot_zip_next (wpAny_call_entry F.slot_zip_next ty F.entry_zip_next
  (qd1 (jf b1 i1 c1) (jf b2 i2 c2) D hz hi ho p1 p2 l1 l2 hx hy λh' u1 u2 u3 u4 u5 u6=>wpAny_pure (hQ h' u1 (u6 _ _ nti hi) ⟨_,_,u2⟩ u3 u4 u5 u6)) (F.args_zip_next_1 _))))
def MV {b1 b2:Bool} {z ti to i1 i2 c1 c2:Addr} {k:Nat} {xs ys:Array Value} {Q:Option Value->Shared->Prop} (hh:A.handled=none) (D:ZA z ti to i1 i2 c1 c2) (st:qes b1 b2 z ti to i1 i2 c1 c2 k s.heap) (l1:M0 b1 c1 xs s.heap) (l2:M0 b2 c2 ys s.heap) (hend:xs[k]?=none\/ys[k]?=none)
  (hQ:∀ h',(∀ c o,c∉[z,to,i1,i2]->s.heap.get? c=some o->h'.get? c=some o)->Q none { s with heap:=h' }):wpAny (model P w) A (pyNext (.ref z)) Q E s:=by
 obtain ⟨hz,hi,⟨a,b,ho⟩,p1,p2⟩:=st;have ty:s.TypeIs (.ref z) "zip" := ⟨_,hz,rfl⟩
 unfold pyNext;refine wpAny_bind (wpAny_attempt (wpAny_callSpecial?_slot (name:=Str.ofString "__next__") ty F.slot_zip_next (wpAny_call_entry F.slot_zip_next ty F.entry_zip_next
  (qhm hh (jf b1 i1 c1) (jf b2 i2 c2) D hz hi ho p1 p2 l1 l2 hend λh' e hk ⟨o,q1,q2⟩=>?_) (F.args_zip_next_1 _))))
 exact wpAny_bind (wpAny_isInstance (T:="StopIteration") (b:=true) ⟨o,q1,q2⟩ isSubtype_stop (wpAny_pure (hQ _ hk)))
end
def SqB (K:Frg) (b:Bool) (H:Hp) (a:Addr) (xs:List V):Prop:=match b with|true=>SqL K H a xs|false=>SqT K H a xs
def SqB.get {X:Cx} {pins:List (Addr×Obj)} {σ:L2.St} {H:Hp} {s:Shared} {b:Bool} {a:Addr} {xs:List V} (I:Inv X pins σ H s) (h:SqB X.K b H a xs):∃ its:List Value,jx xs its/\M0 b a its.toArray s.heap/\xs.length<=sizeLine:=by
 cases b
 ·obtain ⟨its,r,p,hz⟩:=I.tuple (show SqT X.K H a xs from h);exact ⟨its,r,(show s.heap.IsTuple a its.toArray from p),hz⟩
 ·obtain ⟨its,r,p,hz⟩:=I.list (show SqL X.K H a xs from h);exact ⟨its,r,p.isList,hz⟩
def SqB.inj {X:Cx} {pins:List (Addr×Obj)} {σ:L2.St} {H:Hp} {s:Shared} {b:Bool} {a:Addr} {xs ys:List V} (I:Inv X pins σ H s) (h:SqB X.K b H a xs) (h':SqB X.K b H a ys):xs=ys:=by
 cases b
 ·exact I.tuple_inj h h'
 ·exact I.list_inj h h'
def Itz (K:Frg) (b1 b2:Bool) (c1 c2:Addr):It:=
  ⟨λi H=>∃ xs ys x y,SqB K b1 H c1 xs/\SqB K b2 H c2 ys/\xs[i]?=some x/\ys[i]?=some y,
   λi H v H'=>∃ p x y,H p=none/\v=.ref p/\H'=upd H p (.tup [x,y])/\(∀ xs,SqB K b1 H c1 xs->xs[i]?=some x)/\(∀ ys,SqB K b2 H c2 ys->ys[i]?=some y),
   λi H=>∃ xs ys,SqB K b1 H c1 xs/\SqB K b2 H c2 ys/\(xs.length<=i\/ys.length<=i)⟩
def qg6 {b:Bool} {c:Addr} {xs:Array Value} {h:Heap} (q:M0 b c xs h):c<h.objs.size:=by
 cases b
 ·obtain ⟨o,e,_⟩:=(show h.IsTuple c xs from q);exact Heap.lt_size e
 ·obtain ⟨o,e,_⟩:=(show h.IsList c xs from q);exact Heap.lt_size e
def qeA {P:Program} {w:World} {K:Frg} {es:List Expr} {k1:Nat} {pt:Pos} {b1 b2:Bool} {z ti to i1 i2 c1 c2:Addr} (D:ZA z ti to i1 i2 c1 c2):Turn P w K (.Tuple es k1 pt) (Itz K b1 b2 c1 c2) [z,ti,to,i1,i2] z (qes b1 b2 z ti to i1 i2 c1 c2) where
 mem:=by simp
 obj:=λi h ⟨hz,hi,⟨a,b,ho⟩,p1,p2⟩ c hc=>by
  simp only [mem_cons,not_mem_nil,or_false] at hc;rcases hc with rfl|rfl|rfl|rfl|rfl
  ·exact ⟨_,hz,λv q=>by cases q⟩
  ·exact ⟨_,hi,λv q=>by cases q⟩
  ·exact ⟨_,ho,λv q=>by cases q⟩
  ·exact (jf (P:=P) (w:=w) b1 c c1).obj p1
  ·exact (jf (P:=P) (w:=w) b2 c c2).obj p2
 keep:=λi h h' ⟨hz,hi,⟨a,b,ho⟩,p1,p2⟩ k=>
  ⟨k z (by simp) _ hz,k ti (by simp) _ hi,⟨a,b,k to (by simp) _ ho⟩,(jf (P:=P) (w:=w) b1 i1 c1).keep p1 λo e=>k i1 (by simp) o e,(jf (P:=P) (w:=w) b2 i2 c2).keep p2 λo e=>k i2 (by simp) o e⟩
 item:=by
  intro X hP hw hK hc i pins s σ H E I hf st hg;subst hP hw hK;obtain ⟨xs,ys,x,y,sq1,sq2,hx,hy⟩:=hg;obtain ⟨its1,rv1,l1,z1⟩:=sq1.get I;obtain ⟨its2,rv2,l2,z2⟩:=sq2.get I;obtain ⟨u1,hu1,ru1⟩:=rv1.get hx;obtain ⟨u2,hu2,ru2⟩:=rv2.get hy;refine qej D st l1 l2 (x:=u1) (y:=u2) (by simpa using hu1) (by simpa using hu2) λh' hz hi ho p1 p2 hp hk=>?_;have hfr:H s.heap.objs.size=none:=I.fresh;have free:∀ b∈[z,ti,to,i1,i2],H b=none:=λb hb=>(hf b hb).1;refine ⟨_,rfl,wpAny_letOwnedTupleGo_zip hz λh2 hz2 s2=>?_⟩;have zlt:z<s.heap.objs.size:=Heap.lt_size st.1;have hp2:IsPair h2 s.heap.objs.size u1 u2:=(s2.2 _ (Nat.ne_of_gt zlt)).trans hp;have ne:=D.ne;simp only [List.nodup_cons,mem_cons,not_mem_nil,not_or,or_false] at ne;have up:∀ c o,c≠z->h'.get? c=some o->h2.get? c=some o:=λc o hc e=>(s2.2 c hc).trans e;have kk:∀ c o,c∉[z,to,i1,i2]->s.heap.get? c=some o->h2.get? c=some o:=λc o hc e=>up c o (λq=>hc (by simp [q])) (hk c o hc e);have I3:Inv X pins σ (upd H s.heap.objs.size (.tup [x,y])) { s with heap:=h2 }:=by
   refine I.step (g':=s.gens) (d':=s.drawn) (t':=s.toks) (ch:=[z,to,i1,i2]) (λb hb=>?_) (λb o _ _ hcb e _=>kk b o hcb e) (λb o _ _ hcb e _=>⟨o.slots,kk b o hcb e⟩) (λb o _ e n=>by rw [qT (Nat.ne_of_lt (Heap.lt_size e))];exact n) (λb o hcb e=>⟨o,kk b o hcb e⟩)
    (λb _ e=>by rw [qT (qE e hfr)];exact e) (λb _ _ e=>by rw [qT (qE e hfr)];exact e) (λb ps e=>⟨#[],by rw [qT (qE e hfr),e];simp⟩) (λm hm=>?_) (λb u e=>?_) I.bare
   ·obtain ⟨f0,f1,f2,f3,f4,f5⟩:=hf b (by simp only [mem_cons,not_mem_nil,or_false] at hb ⊢;rcases hb with q|q|q|q<;>simp [q]);exact ⟨f3,f1,f4,f5⟩
   ·obtain ⟨o,es',ep,ho',r⟩:=hm;refine ⟨o,es',ep,kk _ o (λq=>?_) ho',r⟩;obtain ⟨f0,f1,_⟩:=hf X.env.locals (by simp only [mem_cons,not_mem_nil,or_false] at q ⊢;rcases q with q|q|q|q<;>simp [q]);exact f1 rfl
   ·by_cases hb:b=s.heap.objs.size
    ·subst hb;rw [zG] at e;cases e;exact ⟨by show 2<=sizeLine;decide,[u1,u2],.cons ru1 (.cons ru2 .nil),⟨_,hp2,rfl,_,rfl⟩⟩
    ·rw [qT hb] at e;refine (I.hok b u e).stay (λc v hcb q=>kk c v (λm=>?_) q) (λ_ q=>by rw [qT (qE q hfr)];exact q) λ_ _ q=>by rw [qT (qE q hfr)];exact q
     have hn:=free c (by simp only [mem_cons,not_mem_nil,or_false] at m ⊢;rcases m with q|q|q|q<;>simp [q]);rcases hcb with q|q
     ·rw [q] at hn;rw [hn] at e;cases e
     ·rw [hn] at q;cases q
  refine ⟨.ref s.heap.objs.size,_,I3,rfl,⟨_,x,y,hfr,rfl,rfl,λzs q=>by rw [q.inj I sq1];exact hx,λzs q=>by rw [q.inj I sq2];exact hy⟩,⟨hz2,up _ _ (Ne.symm ne.1.1) hi,let ⟨a,b,q⟩:=ho;⟨a,b,up _ _ (Ne.symm ne.1.2.1) q⟩,(jf (P:=X.prog) (w:=X.w) b1 i1 c1).keep p1 λo e=>up _ o (Ne.symm ne.1.2.2.1) e,(jf (P:=X.prog) (w:=X.w) b2 i2 c2).keep p2 λo e=>up _ o (Ne.symm ne.1.2.2.2) e⟩,λb hb=>?_⟩;rw [qT (λq=>?_)]
  ·exact free b hb
  ·subst q;obtain ⟨hz0,hi0,⟨a0,b0,ho0⟩,q1,q2⟩:=st;simp only [mem_cons,not_mem_nil,or_false] at hb;rcases hb with q|q|q|q|q
   ·exact absurd q (Nat.ne_of_gt zlt)
   ·exact absurd q (Nat.ne_of_gt (Heap.lt_size hi0))
   ·exact absurd q (Nat.ne_of_gt (Heap.lt_size ho0))
   ·obtain ⟨o,e,_⟩:=(jf (P:=X.prog) (w:=X.w) b1 i1 c1).obj q1;exact absurd q (Nat.ne_of_gt (Heap.lt_size e))
   ·obtain ⟨o,e,_⟩:=(jf (P:=X.prog) (w:=X.w) b2 i2 c2).obj q2;exact absurd q (Nat.ne_of_gt (Heap.lt_size e))
 done:=by
  intro X hP hw hK hc i pins s σ H E I hf st hg;subst hP hw hK;obtain ⟨xs,ys,sq1,sq2,hend⟩:=hg;obtain ⟨its1,rv1,l1,z1⟩:=sq1.get I;obtain ⟨its2,rv2,l2,z2⟩:=sq2.get I;have e1:=rv1.length;have e2:=rv2.length;refine MV (I.ok.hd hc) D st l1 l2 (by rcases hend with q|q;exact .inl (by simp;omega);exact .inr (by simp;omega)) λh' hk=>⟨rfl,?_⟩
  have free:∀ b∈[z,ti,to,i1,i2],H b=none:=λb hb=>(hf b hb).1;refine I.step (g':=s.gens) (d':=s.drawn) (t':=s.toks) (ch:=[z,to,i1,i2]) (λb hb=>?_) (λb o _ _ hcb e _=>hk b o hcb e) (λb o _ _ hcb e _=>⟨o.slots,hk b o hcb e⟩) (λ_ _ _ _ n=>n) (λb o hcb e=>⟨o,hk b o hcb e⟩) (λ_ _ e=>e) (λ_ _ _ e=>e) (λb ps e=>⟨#[],by rw [e];simp⟩) (λm hm=>?_) (λb u e=>?_) I.bare
  ·obtain ⟨f0,f1,f2,f3,f4,f5⟩:=hf b (by simp only [mem_cons,not_mem_nil,or_false] at hb ⊢;rcases hb with q|q|q|q<;>simp [q]);exact ⟨f3,f1,f4,f5⟩
  ·obtain ⟨o,es',ep,ho',r⟩:=hm;refine ⟨o,es',ep,hk _ o (λq=>?_) ho',r⟩;obtain ⟨f0,f1,_⟩:=hf X.env.locals (by simp only [mem_cons,not_mem_nil,or_false] at q ⊢;rcases q with q|q|q|q<;>simp [q]);exact f1 rfl
  ·refine (I.hok b u e).stay (λc v hcb q=>hk c v (λm=>?_) q) (λ_ q=>q) λ_ _ q=>q;have hn:=free c (by simp only [mem_cons,not_mem_nil,or_false] at m ⊢;rcases m with q|q|q|q<;>simp [q]);rcases hcb with q|q
   ·rw [q] at hn;rw [hn] at e;cases e
   ·rw [hn] at q;cases q
 self:=λA i s Q E st h=>wpAny_pyIter_zip st.1 h
def qjj {n c1 c2:Addr} (h1:c1<n) (h2:c2<n):ZA (n+4) (n+2) (n+3) n (n+1) c1 c2:=by
 have k:∀ n c:Nat,c<n->c≠n+4/\c≠n+3/\c≠n/\c≠n+1:=λn c h=>by omega
 have d:∀ n:Nat,(([n+4,n+2,n+3,n,n+1]:List Nat)).Nodup:=λn=>by
  simp only [List.nodup_cons,mem_cons,not_mem_nil,not_or,or_false,List.nodup_nil,and_true,not_false_eq_true];omega
 refine ⟨d n,?_,?_⟩
 ·simp only [mem_cons,not_mem_nil,not_or,or_false];exact k n c1 h1
 ·simp only [mem_cons,not_mem_nil,not_or,or_false];exact k n c2 h2
section
variable {X:Cx} {a b e l:Expr} {es:List Expr} {pos:Pos}
def qmd {p pt:Pos} {k1:Nat} {ta:TA} (hg:Gl X "zip") (hm:X.mg "zip" = none) (ha:PA X [a,b] ta) (hs:starEach [a,b] X.env=[(false,eval a X.env),(false,eval b X.env)]:=by rfl) (hs2:starEach [b] X.env=[(false,eval b X.env)]:=by rfl) :
  PI X (.Tuple es k1 pt) (.Call (.Name "zip" p) [a,b] [] pos) (λσ H R=>ta σ H λvs H1=>∃ b1 b2 c1 c2 xs ys,vs=[.ref c1,.ref c2]/\SqB X.K b1 H1 c1 xs/\SqB X.K b2 H1 c2 ys/\R (Itz X.K b1 b2 c1 c2) H1):=by
 intro pins s σ H R I h;refine Call_ (C7 I hg hm PyProof.Rows.boot_zip (PyProof.Rows.callWith_type1 (thn (ha pos pins s σ H _ I h) λus s1 ⟨vs,H1,I1,r1,q1⟩=>?_) (by rw [hs,hs2]) (by rw [hs2];rfl)));obtain ⟨b1,b2,c1,c2,xs,ys,rfl,sq1,sq2,q⟩:=q1;obtain ⟨u1,u2,rfl,e1,e2⟩:=qif r1;cases (show u1=Value.ref c1 from e1);cases (show u2=Value.ref c2 from e2);obtain ⟨its1,rv1,l1,z1⟩:=sq1.get I1;obtain ⟨its2,rv2,l2,z2⟩:=sq2.get I1;refine qei l1 l2 λh' st hk=>wpAny_pyIter_zip st.1 ?_;refine ⟨s1.heap.objs.size+4,[s1.heap.objs.size+4,s1.heap.objs.size+2,s1.heap.objs.size+3,s1.heap.objs.size,s1.heap.objs.size+1],_,_,H1,rfl,I1.kept (t':=s1.toks) hk,qeA (qjj (qg6 l1) (qg6 l2)),st,λc hc=>?_,q⟩;have hle:s1.heap.objs.size<=c:=by
  simp only [mem_cons,not_mem_nil,or_false] at hc;rcases hc with rfl|rfl|rfl|rfl|rfl<;>first|exact Nat.le_refl _|exact Nat.le_add_right _ _
 exact I1.fpOk hle (I1.hok.fresh hle)
end
def ZX (G:Gp):T->Option (List T)
 |.tup xs=>some xs
 |.ref p=>zo G p
 |_=>none
def qdz {K:Frg} {G0:Gp} {H0:Hp} {x:T} {v:V} {us:List T} (hr0:HR K G0 H0) (rx:Rp K H0 x v) (h:ZX G0 x=some us) :
  ∃ b c,v=.ref c/\∀ G H,HR K G H->Kp G0 H0 G H->ZX G x=some us->∃ vs,SqB K b H c vs/\Rps K H us vs:=by
 cases rx with
 |tup hs rs=>
  cases h;exact ⟨false,_,rfl,λG H hr k _=>⟨_,(KR hr0 k hs:SqT K H _ _),rs.keep hr0 k⟩⟩
 |ref a=>exact ⟨true,a,rfl,λG H hr k hq=>let ⟨vs,h1,h2⟩:=jo hr (show zo G a=some us from hq);⟨vs,h1,h2⟩⟩
 |_=>cases h
def qdG (us vs:List T):List T:=(us.zip vs).map λp=>.tup [p.1,p.2]
def qaF {us vs:List T} {i:Nat} {x:T} (h:(qdG us vs)[i]?=some x):∃ a b,us[i]?=some a/\vs[i]?=some b/\x=.tup [a,b]:=by
 unfold qdG at h;rw [getElem?_map] at h;cases e:(us.zip vs)[i]? with
 |none=>rw [e] at h;cases h
 |some p=>
  rw [e] at h;have:=List.getElem?_zip_eq_some.mp e;exact ⟨p.1,p.2,this.1,this.2,by simpa using h.symm⟩
def qj8 {K:Frg} {b1 b2:Bool} {c1 c2:Addr} {x y:T} {us vs:List T} {G0:Gp} {H0:Hp}
  (f1:∀ G H,HR K G H->Kp G0 H0 G H->ZX G x=some us->∃ vs,SqB K b1 H c1 vs/\Rps K H us vs) (f2:∀ G H,HR K G H->Kp G0 H0 G H->ZX G y=some vs->∃ ws,SqB K b2 H c2 ws/\Rps K H vs ws) :
  qiY K (Itz K b1 b2 c1 c2) (qdG us vs) (λG=>ZX G x=some us/\ZX G y=some vs) G0 H0:=by
 intro G H hr k ⟨h1,h2⟩;obtain ⟨p,sp,rp⟩:=f1 G H hr k h1;obtain ⟨q,sq,rq⟩:=f2 G H hr k h2;refine ⟨λi z hz=>?_,λi z v H' hz hy=>?_,⟨p,q,sp,sq,?_⟩⟩
 ·obtain ⟨a,b,ha,hb,_⟩:=qaF hz;obtain ⟨v,hv,_⟩:=rp.get ha;obtain ⟨w,hw,_⟩:=rq.get hb;exact ⟨p,q,v,w,sp,sq,hv,hw⟩
 ·obtain ⟨a,b,ha,hb,rfl⟩:=qaF hz;obtain ⟨t,v1,v2,ht,rfl,rfl,g1,g2⟩:=hy;obtain ⟨v,hv,rv⟩:=rp.get ha;obtain ⟨w,hw,rw'⟩:=rq.get hb;have e1:=(g1 p sp).symm.trans hv;have e2:=(g2 q sq).symm.trans hw;obtain rfl:v1=v:=Option.some.inj e1;obtain rfl:v2=w:=Option.some.inj e2;have kk:Kp G H G (upd H t (.tup [v1,v2])):=Kp.laid ht;exact ⟨.tup (SqT.of zG) (.cons (rv.keep hr kk) (.cons (rw'.keep hr kk) .nil)),hr.laid ht,kk⟩
 ·rw [← rp.length,← rq.length,show (qdG us vs).length=min us.length vs.length by simp [qdG]];omega
def qed (ta:TA3):TI3:=λτ G r=>ta τ G λxs G1=>match xs with
 |[x,y]=>(match ZX G1 x,ZX G1 y with|some us,some vs=>r (qdG us vs) (λG=>ZX G x=some us/\ZX G y=some vs) G1|_,_=>False)
 |_=>False
section
variable {X:Cx} {a b e l:Expr} {es:List Expr} {pos:Pos} {t:TA3}
def qoV {p pt:Pos} {k1:Nat} (hg:Gl X "zip") (hm:X.mg "zip" = none) (ha:A3 X [a,b] t) (hs:starEach [a,b] X.env=[(false,eval a X.env),(false,eval b X.env)]:=by rfl) (hs2:starEach [b] X.env=[(false,eval b X.env)]:=by rfl) :
  I3 X (.Tuple es k1 pt) (.Call (.Name "zip" p) [a,b] [] pos) (qed t):=
 qlU (qmd hg hm ha hs hs2) λσ H R ⟨τ,G,r,rl,h,af⟩=>VT rl h λxs G1 h1 vs H1 rs hr1 k1 rl1=>by
  split at h1
  ·rename_i x y;split at h1
   ·rename_i us ws e1 e2;obtain ⟨v,u,rfl,r1,r2⟩:=qoa rs;obtain ⟨b1,c1,rfl,f1⟩:=qdz hr1 r1 e1;obtain ⟨b2,c2,rfl,f2⟩:=qdz hr1 r2 e2;obtain ⟨p,sp,_⟩:=f1 G1 H1 hr1 Kp.refl e1;obtain ⟨q,sq,_⟩:=f2 G1 H1 hr1 Kp.refl e2;exact ⟨b1,b2,c1,c2,p,q,rfl,sp,sq,af _ _ G1 h1 _ H1 hr1 k1 (qj8 f1 f2)⟩
   ·exact h1.elim
  ·exact h1.elim
def Y8:List T->Gp->Q3->Prop:=λxs G q=>match xs with
 |[.ref p]=>(match zo G p with|some ys=>(match qi5 ys with|some k=>q (.bl k) G|none=>False)|none=>False)
 |_=>False
def qcf {K:Frg} {H:Hp}:∀ {ys:List T} {vs:List V} {k:Bool},Rps K H ys vs->qi5 ys=some k->∃ ks:List Bool,vs=ks.map V.bl/\ks.all id=k
 |_,_,_,.nil,h=>by cases h;exact ⟨[],rfl,rfl⟩
 |y::ys,_,k,.cons a b,h=>by
  unfold qi5 at h;split at h
  ·rename_i e;cases e
  ·rename_i j r e;cases e;split at h
   ·rename_i i ei;obtain ⟨ks,rfl,hk⟩:=qcf b ei;cases a;cases h;exact ⟨j::ks,rfl,by rw [List.all_cons,hk];rfl⟩
   ·cases h
  ·cases h
def qhL {K:Frg}:NH K Y8 (λxs H Q=>∃ (p:Addr) (ks:List Bool),xs=[.ref p]/\SqL K H p (ks.map V.bl)/\Q (.bl (ks.all id)) H):=λxs vs G H q Q hr rs h af=>by
 unfold Y8 at h;split at h
 ·rename_i p;obtain ⟨v,rfl,r⟩:=KZ rs;cases r;split at h
  ·rename_i ys e0;split at h
   ·rename_i k e1;obtain ⟨us,hs,r2⟩:=jo hr e0;obtain ⟨ks,rfl,hk⟩:=qcf r2 e1;exact ⟨p,ks,rfl,hs,by rw [hk];exact af _ G h _ H (.bl _) hr Kp.refl⟩
   ·exact h.elim
  ·exact h.elim
 ·exact h.elim
end
def qpU:Value->Bool
 |.type t=>t == "list"
 |_=>false
def WQ:List (Addr×Obj)->Bool
 |[]=>true
 |p::r=>if qpU p.2.cls then false else WQ r
def SL:∀ {K:List (Addr×Obj)} {a:Addr} {o:Obj},WQ K=true->K.lookup a=some o->o.cls≠.type "list"
 |[],_,_,_,e=>by simp at e
 | (b,x)::r,a,o,h,e=>by
  unfold WQ at h;split at h
  ·cases h
  ·rename_i hx;rw [List.lookup_cons] at e;split at e
   ·cases e;intro z;rw [z] at hx;exact hx rfl
   ·exact SL h e
def qbg {K:Frg} {H:Hp} {a:Addr} {ns:List Int} (hK:WQ K=true) (hO:qog H) (hS:SqL K H a (ns.map V.int)):∃ o,H a=some (.frz o (.lst (ns.map V.int))):=by
 rcases hS with (h|h)|⟨o,its,n,h1,h2,_⟩
 ·rcases hO a with z|⟨o,xs,z⟩<;>(rw [h] at z;cases z)
 ·exact h
 ·exact absurd h2 (SL hK h1)
def only (a:Addr) (ns:List Int):Gp:=λb=>if b=a then some (.frz (ns.map T.int)) else none
def qiD {K:Frg} {H:Hp} {a:Addr} {ns:List Int} (h:∃ o,H a=some (.frz o (.lst (ns.map V.int)))):HR K (only a ns) H:=λb o e=>by
 unfold only at e;split at e
 ·rename_i hb;subst hb;cases e;exact ⟨_,h,Rps.ints ns⟩
 ·cases e
def S7:Sp3:=λts G q=>∃ (a:Addr) (ns:List Int),ts=[.ref a]/\G a=some (.frz (ns.map T.int))/\ns.length<=63/\∀ G',q (.bl true) G'
def qo0 {l:PySem.W.OpenLaw} {k:Nat} {q:Program} {loose:List Str} {XP:(Str->Option Value)->Heap->Prop} {YP:World->Heap->Prop} {d:DefRec} {K:Params->PySem.W.Frag} {x:Str} (hn:l.most=some 63) (hdf:d.params.defaults=[]) (hr:Room k callerA)
  (hY:∀ (w:World) (h:Heap),YP w h->(K w.params).In h) (hK:∀ w:World,WQ (K w.params)=true)
  (F:∀ (w:World) (mg:Str->Option Value) (fa:Addr) (h:Heap),(K w.params).In h->h.Ns mainGlobals mg->mg d.name=some (.ref fa) ->
   ∃ fd:FuncData,(∀ (s:Shared) (u:Value),BindsTo s fd ⟨[u],[]⟩ [(x,u)])/\∀ base:Heap,(K w.params).In base->base.Ns mainGlobals mg->FnOk l.prog w (K w.params) mg base CX0 k fa fd [x] (lSp (K w.params) S7)) :
  PySem.W.WalkO q loose XP YP l.row.toRowW d [] (λf vs=>PySem.call f vs):=
 L2.qix (n:=63) (k:=k) (x:=x) (CX:=λ_=>CX0) (sp:=λw=>lSp (K w.params) S7) hn (by decide) hdf hr hY F
  (λw H a ns hl hO hS=>⟨[.ref a],only a ns,λt _=>t=.bl true,qiD (qbg (hK w) hO hS),.cons (.ref a) .nil,⟨a,ns,rfl,by simp [only],hl,λ_=>rfl⟩,λt G' e v H' r _ _=>by subst e;cases r;rfl⟩) λ_ _ _ _ _ z=>z
def qhV {P:Program} {w:World} {K:Frg} {mg:Str->Option Value} {base:Heap} {x qual:Str} {st:Stmt} {f:Addr} {fd:FuncData} {N ps:List Str} {k:Nat} {sp:Sp3} {t3:TS3} (F:Fun K x qual st f fd) (S:FnScope N ps (qk st))
  (body:∀ (cdv:Value) (A:Around) (outer:List Env) (s:Shared) (H:Hp) (E:XK),Room k (A.deeper (envOfC qual (qk st) s.heap.objs.size f cdv)) ->
   B3 (qdE CX0 P w K mg base N qual (qk st) f cdv A outer s H E).nox (jM st) t3)
  (read:∀ ts G q,sp ts G q->ts.length=ps.length/\t3 { nx:=λ_ G'=>q .non G',rt:=q } (qm N ts) G):FnOk P w K mg base CX0 (k+1) f fd ps (lSp K sp):=by
 refine F.ok S (λvs H Q E ⟨ts,G,q,h1,h2,h3,h4⟩=>by rw [← h2.length];exact (read ts G q h3).1) λcdv A outer s H vs Q E hr ⟨ts,G,q,h1,h2,h3,h4⟩=>?_;refine ⟨_,body cdv A outer s H E hr,qm N ts,G,_,K2 h1 h2,(read ts G q h3).2,⟨λτ' G' h' σ' H' rl' k'=>h4 _ G' h' _ H' .non rl'.hp k',h4,λ_ _ z=>z.elim,λ_ _ z=>z.elim⟩⟩
abbrev eh1 (h:Heap) (o1:Obj):Heap:=h.push o1
abbrev eh2 (h:Heap) (o1:Obj):Heap:=(eh1 h o1).push { cls:=.type "enumerate",data:=.fields #[.none,.bool false,.ref h.objs.size,rawInt 0,.none,.none] }
def qbi (c:Addr) (o1:Obj) (ob:Obj) :
  Meets (Builtin.«enumerate.__new__» ⟨[.type "enumerate",.ref c],[]⟩) (λ_ R s=>s.heap.get? c=some ob /\
   (∀ (P:Program) (w:World) (A:Around) (Q:Value->Shared->Prop) (E:Value->Shared->Prop),Q (.ref s.heap.objs.size) { s with heap:=eh1 s.heap o1 }->wpAny (model P w) A (pyIter (.ref c)) Q E s) /\
   R (.ok (.ret (.ref (eh1 s.heap o1).objs.size))) { s with heap:=eh2 s.heap o1 }):=
 .of_wp λprog w A R s h=>by
  obtain ⟨hp,g,d,tk,os⟩:=s;obtain ⟨hl,h1,h⟩:=h;have hsub:=sub_enumerate;have k1:=λA Q E=>h1 prog w A Q E
  wp_walk using wpAny_loadPart' hl
  refine wpAny_stack_any λst=>wpAny_pure ?_;split
  ·rename_i c _ _ _ _ _;cases (c==Value.type "enumerate")
   ·wp_walk using wpAny_loadPart' hl,k1 _ _ _
    exact ⟨_,rfl,h⟩
   ·wp_walk using wpAny_loadPart' hl,k1 _ _ _
    exact ⟨_,rfl,h⟩
  ·wp_walk using wpAny_loadPart' hl,k1 _ _ _
   exact ⟨_,rfl,h⟩
def qdS {b:Bool} {c:Addr} {xs:Array Value} {h:Heap} (q:M0 b c xs h):∃ o,h.get? c=some o:=by
 cases b
 ·obtain ⟨o,e,_⟩:=(show h.IsTuple c xs from q);exact ⟨o,e⟩
 ·obtain ⟨o,e,_⟩:=(show h.IsList c xs from q);exact ⟨o,e⟩
section
variable {P:Program} {w:World} {A:Around} {s:Shared} {E:Value->Shared->Prop}
def qbU {b:Bool} {c:Addr} {xs:Array Value} {Q:Value->Shared->Prop} (h1:M0 b c xs s.heap)
  (q:∀ h',IsEnum h' (s.heap.objs.size+1) s.heap.objs.size 0 .none->qdX b s.heap.objs.size c 0 h'->(∀ c o,s.heap.get? c=some o->h'.get? c=some o)->Q (.ref (s.heap.objs.size+1)) { s with heap:=h' }) :
  wpAny (model P w) A (call (.type "enumerate") [.ref c]) Q E s:=by
 obtain ⟨ob,hob⟩:=qdS h1;refine callType_new F.called_enumerate (by decide) (F.typeCall_enumerate_1 _) (F.newCall_enumerate_1 _) (λobj=>F.args_object_init_2 obj _) F.entry_enumerate_new
  (qbi c (je b c) ob) ⟨hob,λP w A Q E q=>NQ h1 q,?_⟩
 have e1:(eh1 s.heap (je b c)).objs.size=s.heap.objs.size+1:=Heap.size_push ..;have g2:(eh2 s.heap (je b c)).get? (eh1 s.heap (je b c)).objs.size=some _:=Heap.get?_push_size _ rfl;have g1:(eh2 s.heap (je b c)).get? s.heap.objs.size=some (je b c):=Heap.get?_push_of_some _ (Heap.get?_push_size _ rfl);show _/\_;rw [e1] at g2 ⊢;refine ⟨⟨_,g2,rfl⟩,q _ g2 ?_ λc o e=>Heap.get?_push_of_some _ (Heap.get?_push_of_some _ e)⟩;cases b<;>exact ⟨_,g1,rfl,rfl⟩
end
def qd9 {P:Program} {w:World} {A:Around} (hh:A.handled=none) (b:Bool) (it c:Addr) (hne:c≠it) (xs:Array Value) :
  Draws P w A it [it,c] xs.size (λi v=>xs[i]?=some v) (λi h=>qdX b it c i h/\M0 b c xs h) where
 live:=λi h st=>let ⟨o,e,_⟩:=(jf (P:=P) (w:=w) b it c).obj st.1;⟨o,e⟩
 frame:=λi h h' st hk=>⟨(jf (P:=P) (w:=w) b it c).keep st.1 λo e=>hk it (by simp) o e,(jf (P:=P) (w:=w) b it c).hkeep st.2 λo e=>hk c (by simp) o e⟩
 item:=λi s Q E hi st hQ=>by
  refine (jf (P:=P) (w:=w) b it c).item st.1 st.2 (x:=xs[i]) (by simp [hi]) λh' st' sb=>?_;exact hQ _ h' s.toks (by simp [hi]) ⟨st',(jf (P:=P) (w:=w) b it c).hkeep st.2 λo e=>(sb.2 c hne).trans e⟩ sb
 done:=λs Q E st hE=>(jf (P:=P) (w:=w) b it c).done hh st.1 st.2 (by simp) hE
def S9 {P:Program} {w:World} {A:Around} {s:Shared} {E:Value->Shared->Prop} {b:Bool} {e it c:Addr} {i:Nat} {xs:Array Value} {old:Value} {Q:Option Value->Shared->Prop} (hh:A.handled=none) (he:IsEnum s.heap e it i old) (p1:qdX b it c i s.heap) (l1:M0 b c xs s.heap) (hx:xs[i]?=none)
  (hQ:∀ h',Heap.ExtBut it s.heap h'->Q none { s with heap:=h' }):wpAny (model P w) A (pyNext (.ref e)) Q E s:=by
 have hT:s.TypeIs (.ref e) "enumerate" := ⟨_,he,rfl⟩
 unfold pyNext;refine wpAny_bind (wpAny_attempt (wpAny_callSpecial?_slot (name:=Str.ofString "__next__") hT F.slot_enumerate_next
  (wpAny_call_entry F.slot_enumerate_next hT F.entry_enumerate_next ?_ (F.args_enumerate_next_1 _))))
 show wpAny _ _ (field (.ref e) 2 >>= _) _ _ _;refine wpAny_bind (wpAny_field he rfl (x:=.ref it) rfl ?_);refine wpAny_bind ((jf (P:=P) (w:=w) b it c).done (show A.in1.handled=none from hh) p1 l1 hx λh' x he' hx'=>?_);obtain ⟨o,ho,hc⟩:=hx';refine wpAny_bind (wpAny_isInstance (T:="StopIteration") (b:=true) ⟨o,ho,hc⟩ isSubtype_stop ?_);exact wpAny_pure (hQ _ he')
def Ite (K:Frg) (b:Bool) (c:Addr):It:=
  ⟨λi H=>∃ xs x,SqB K b H c xs/\xs[i]?=some x,
   λi H v H'=>∃ p x,H p=none/\v=.ref p/\H'=upd H p (.tup [.int i,x])/\(∀ xs,SqB K b H c xs->xs[i]?=some x),
   λi H=>∃ xs,SqB K b H c xs/\xs.length<=i⟩
def qnI (b:Bool) (e it c:Addr) (k:Nat) (h:Heap):Prop:=(∃ old,IsEnum h e it k old)/\qdX b it c k h
def qcF {P:Program} {w:World} {K:Frg} {es:List Expr} {k1:Nat} {pt:Pos} {b:Bool} {e it c:Addr} (n1:e≠it) (n2:c≠e) (n3:c≠it):Turn P w K (.Tuple es k1 pt) (Ite K b c) [e,it] e (qnI b e it c) where
 mem:=by simp
 obj:=λi h ⟨⟨old,he⟩,p1⟩ d hd=>by
  simp only [mem_cons,not_mem_nil,or_false] at hd;rcases hd with rfl|rfl
  ·exact ⟨_,he,λv q=>by cases q⟩
  ·exact (jf (P:=P) (w:=w) b d c).obj p1
 keep:=λi h h' ⟨⟨old,he⟩,p1⟩ k=>⟨⟨old,k e (by simp) _ he⟩,(jf (P:=P) (w:=w) b it c).keep p1 λo e=>k it (by simp) o e⟩
 item:=by
  intro X hP hw hK hc i pins s σ H E I hf st hg;subst hP hw hK;obtain ⟨xs,x,sq,hx⟩:=hg;obtain ⟨its,rv,l1,z1⟩:=sq.get I;obtain ⟨u,hu,ru⟩:=rv.get hx;obtain ⟨⟨old,he⟩,p1⟩:=st;have hil:i<its.toArray.size:=by have:=(List.getElem?_eq_some_iff.mp hu).1;simpa using this
  refine wpAny_pyNext_enum_itemD (qd9 (show X.A.in1.handled=none from I.ok.hd hc) b it c n3 its.toArray) he ⟨p1,l1⟩ hil n1 (by simp only [mem_cons,not_mem_nil,or_false,not_or];exact ⟨n1,Ne.symm n2⟩) λy h' tk hy ho st' ht hsz hk=>?_;have hy':y=u:=by
   have:its.toArray[i]?=some u:=by simpa using hu
   rw [this] at hy;exact (Option.some.inj hy).symm
  subst hy';have hfr:H s.heap.objs.size=none:=I.fresh;have free:∀ b∈[e,it],H b=none:=λb hb=>(hf b hb).1;refine ⟨_,rfl,wpAny_letOwnedTupleGo_enum ho λh2 hz2 s2=>?_⟩;have elt:e<s.heap.objs.size:=Heap.lt_size he;have hp2:h2.get? s.heap.objs.size=some { cls:=.type "tuple",data:=.seq #[.int i tk,y] }:=(s2.2 _ (Nat.ne_of_gt elt)).trans ht;have up:∀ c o,c≠e->h'.get? c=some o->h2.get? c=some o:=λc o hc e=>(s2.2 c hc).trans e;have kk:∀ c o,c∉[e,it]->s.heap.get? c=some o->h2.get? c=some o:=λc o hc q=>by
   simp only [mem_cons,not_mem_nil,or_false,not_or] at hc;exact up c o hc.1 (hk c o hc.1 hc.2 q)
  have I3:Inv X pins σ (upd H s.heap.objs.size (.tup [.int i,x])) { s with heap:=h2,toks:=tk+1 }:=by
   refine I.step (g':=s.gens) (d':=s.drawn) (t':=tk+1) (ch:=[e,it]) (λb hb=>?_) (λb o _ _ hcb e _=>kk b o hcb e) (λb o _ _ hcb e _=>⟨o.slots,kk b o hcb e⟩) (λb o _ e n=>by rw [qT (Nat.ne_of_lt (Heap.lt_size e))];exact n) (λb o hcb e=>⟨o,kk b o hcb e⟩)
    (λb _ e=>by rw [qT (qE e hfr)];exact e) (λb _ _ e=>by rw [qT (qE e hfr)];exact e) (λb ps e=>⟨#[],by rw [qT (qE e hfr),e];simp⟩) (λm hm=>?_) (λb u e=>?_) I.bare
   ·obtain ⟨f0,f1,f2,f3,f4,f5⟩:=hf b hb;exact ⟨f3,f1,f4,f5⟩
   ·obtain ⟨o,es',ep,ho',r⟩:=hm;refine ⟨o,es',ep,kk _ o (λq=>?_) ho',r⟩;obtain ⟨f0,f1,_⟩:=hf X.env.locals q;exact f1 rfl
   ·by_cases hb:b=s.heap.objs.size
    ·subst hb;rw [zG] at e;cases e;exact ⟨by show 2<=sizeLine;decide,[.int i tk,y],.cons ⟨tk,rfl⟩ (.cons ru .nil),⟨_,hp2,rfl,_,rfl⟩⟩
    ·rw [qT hb] at e;refine (I.hok b u e).stay (λc v hcb q=>kk c v (λm=>?_) q) (λ_ q=>by rw [qT (qE q hfr)];exact q) λ_ _ q=>by rw [qT (qE q hfr)];exact q
     have hn:=free c m;rcases hcb with q|q
     ·rw [q] at hn;rw [hn] at e;cases e
     ·rw [hn] at q;cases q
  refine ⟨.ref s.heap.objs.size,_,I3,rfl,⟨_,x,hfr,rfl,rfl,λzs q=>by rw [q.inj I sq];exact hx⟩,⟨⟨_,by push_cast;exact hz2⟩,(jf (P:=X.prog) (w:=X.w) b it c).keep st'.1 λo e=>up _ o (Ne.symm n1) e⟩,λb hb=>?_⟩;rw [qT (λq=>?_)]
  ·exact free b hb
  ·subst q;simp only [mem_cons,not_mem_nil,or_false] at hb;rcases hb with q|q
   ·exact absurd q (Nat.ne_of_gt elt)
   ·obtain ⟨o,e,_⟩:=(jf (P:=X.prog) (w:=X.w) b it c).obj p1;exact absurd q (Nat.ne_of_gt (Heap.lt_size e))
 done:=by
  intro X hP hw hK hc i pins s σ H E I hf st hg;subst hP hw hK;obtain ⟨xs,sq,hend⟩:=hg;obtain ⟨its,rv,l1,z1⟩:=sq.get I;obtain ⟨⟨old,he⟩,p1⟩:=st;have e1:=rv.length;have free:∀ b∈[e,it],H b=none:=λb hb=>(hf b hb).1;refine S9 (I.ok.hd hc) he p1 l1 (by simp;omega) λh' hk0=>⟨rfl,?_⟩
  have hk:∀ c o,c∉[e,it]->s.heap.get? c=some o->h'.get? c=some o:=λc o hcb q=>hk0 c o (by simp only [mem_cons,not_mem_nil,or_false,not_or] at hcb;exact hcb.2) q;refine I.step (g':=s.gens) (d':=s.drawn) (t':=s.toks) (ch:=[e,it]) (λb hb=>?_) (λb o _ _ hcb e _=>hk b o hcb e) (λb o _ _ hcb e _=>⟨o.slots,hk b o hcb e⟩) (λ_ _ _ _ n=>n) (λb o hcb e=>⟨o,hk b o hcb e⟩) (λ_ _ e=>e) (λ_ _ _ e=>e) (λb ps e=>⟨#[],by rw [e];simp⟩) (λm hm=>?_) (λb u e=>?_) I.bare
  ·obtain ⟨f0,f1,f2,f3,f4,f5⟩:=hf b hb;exact ⟨f3,f1,f4,f5⟩
  ·obtain ⟨o,es',ep,ho',r⟩:=hm;refine ⟨o,es',ep,hk _ o (λq=>?_) ho',r⟩;obtain ⟨f0,f1,_⟩:=hf X.env.locals q;exact f1 rfl
  ·refine (I.hok b u e).stay (λc v hcb q=>hk c v (λm=>?_) q) (λ_ q=>q) λ_ _ q=>q;have hn:=free c m;rcases hcb with q|q
   ·rw [q] at hn;rw [hn] at e;cases e
   ·rw [hn] at q;cases q
 self:=λA i s Q E st h=>let ⟨⟨old,he⟩,_⟩:=st;wpAny_pyIter_enum he h
section
variable {X:Cx} {a b e l:Expr} {es:List Expr} {pos:Pos}
def qht {p pt:Pos} {k1:Nat} {ta:TA} (hg:Gl X "enumerate") (hm:X.mg "enumerate" = none) (ha:PA X [a] ta) (hs:starEach [a] X.env=[(false,eval a X.env)]:=by rfl) :
  PI X (.Tuple es k1 pt) (.Call (.Name "enumerate" p) [a] [] pos) (λσ H R=>ta σ H λvs H1=>∃ b1 c1 xs,vs=[.ref c1]/\SqB X.K b1 H1 c1 xs/\R (Ite X.K b1 c1) H1):=by
 intro pins s σ H R I h;refine Call_ (C7 I hg hm PyProof.Rows.boot_enumerate (PyProof.Rows.callWith_type1 (thn (ha pos pins s σ H _ I h) λus s1 ⟨vs,H1,I1,r1,q1⟩=>?_) (by rw [hs];rfl) (by rfl)));obtain ⟨b1,c1,xs,rfl,sq1,q⟩:=q1;obtain ⟨u1,rfl,e1⟩:=C2 r1;cases (show u1=Value.ref c1 from e1);obtain ⟨its1,rv1,l1,z1⟩:=sq1.get I1;refine qbU l1 λh' he hit hk=>wpAny_pyIter_enum he ?_;have lt:=qg6 l1;have ne3:∀ n c:Nat,c<n->n+1≠n/\c≠n+1/\c≠n:=λn c h=>by omega
 obtain ⟨m1,m2,m3⟩:=ne3 _ _ lt;refine ⟨s1.heap.objs.size+1,[s1.heap.objs.size+1,s1.heap.objs.size],_,_,H1,rfl,I1.kept (t':=s1.toks) hk,qcF m1 m2 m3,⟨⟨_,he⟩,hit⟩,λc hc=>?_,q⟩;have hle:s1.heap.objs.size<=c:=by
  simp only [mem_cons,not_mem_nil,or_false] at hc;rcases hc with rfl|rfl<;>first|exact Nat.le_refl _|exact Nat.le_add_right _ _
 exact I1.fpOk hle (I1.hok.fresh hle)
end
def Z2 (k:Nat):List T->List T
 |[]=>[]
 |x::r=>.tup [.int (k:Int),x]::Z2 (k+1) r
def qcZ (us:List T):List T:=Z2 0 us
def XJ:∀ {us:List T} {k i:Nat} {x:T},(Z2 k us)[i]?=some x->∃ a,us[i]?=some a/\x=.tup [.int ((k+i:Nat):Int),a]
 |[],_,_,_,h=>by simp [Z2] at h
 |u::us,k,0,x,h=>by simp [Z2] at h;exact ⟨u,rfl,by simp [← h]⟩
 |u::us,k,i+1,x,h=>by
  simp [Z2] at h;obtain ⟨a,ha,hx⟩:=XJ h;exact ⟨a,by simpa using ha,by rw [hx];congr 4;omega⟩
def XN:∀ (us:List T) (k:Nat),(Z2 k us).length=us.length
 |[],_=>rfl
 |u::us,k=>by simp [Z2,XN us]
def CV (us:List T):(qcZ us).length=us.length:=XN us 0
def DL {us:List T} {i:Nat} {x:T} (h:(qcZ us)[i]?=some x):∃ a,us[i]?=some a/\x=.tup [.int (i:Int),a]:=by
 obtain ⟨a,ha,hx⟩:=XJ h;exact ⟨a,ha,by rw [hx];congr 4;omega⟩
def qlN {K:Frg} {b1:Bool} {c1:Addr} {x:T} {us:List T} {G0:Gp} {H0:Hp}
  (f1:∀ G H,HR K G H->Kp G0 H0 G H->ZX G x=some us->∃ vs,SqB K b1 H c1 vs/\Rps K H us vs) :
  qiY K (Ite K b1 c1) (qcZ us) (λG=>ZX G x=some us) G0 H0:=by
 intro G H hr k h1;obtain ⟨p,sp,rp⟩:=f1 G H hr k h1;refine ⟨λi z hz=>?_,λi z v H' hz hy=>?_,⟨p,sp,?_⟩⟩
 ·obtain ⟨a,ha,_⟩:=DL hz;obtain ⟨v,hv,_⟩:=rp.get ha;exact ⟨p,v,sp,hv⟩
 ·obtain ⟨a,ha,rfl⟩:=DL hz;obtain ⟨t,v1,ht,rfl,rfl,g1⟩:=hy;obtain ⟨v,hv,rv⟩:=rp.get ha;have e1:=(g1 p sp).symm.trans hv;obtain rfl:v1=v:=Option.some.inj e1;have kk:Kp G H G (upd H t (.tup [.int i,v1])):=Kp.laid ht;exact ⟨.tup (SqT.of zG) (.cons (.int _) (.cons (rv.keep hr kk) .nil)),hr.laid ht,kk⟩
 ·rw [← rp.length,CV];exact Nat.le_refl _
def SN (ta:TA3):TI3:=λτ G r=>ta τ G λxs G1=>match xs with
 |[x]=>(match ZX G1 x with|some us=>r (qcZ us) (λG=>ZX G x=some us) G1|_=>False)
 |_=>False
section
variable {X:Cx} {a b e l:Expr} {es:List Expr} {pos:Pos} {t:TA3}
def qlK {p pt:Pos} {k1:Nat} (hg:Gl X "enumerate") (hm:X.mg "enumerate" = none) (ha:A3 X [a] t) (hs:starEach [a] X.env=[(false,eval a X.env)]:=by rfl) :
  I3 X (.Tuple es k1 pt) (.Call (.Name "enumerate" p) [a] [] pos) (SN t):=
 qlU (qht hg hm ha hs) λσ H R ⟨τ,G,r,rl,h,af⟩=>VT rl h λxs G1 h1 vs H1 rs hr1 k1 rl1=>by
  split at h1
  ·rename_i x;split at h1
   ·rename_i us e1;obtain ⟨v,rfl,r1⟩:=KZ rs;obtain ⟨b1,c1,rfl,f1⟩:=qdz hr1 r1 e1;obtain ⟨p,sp,_⟩:=f1 G1 H1 hr1 Kp.refl e1;exact ⟨b1,c1,p,rfl,sp,af _ _ G1 h1 _ H1 hr1 k1 (qlN f1)⟩
   ·exact h1.elim
  ·exact h1.elim
end
section
variable {X:Cx} {a b c e:Expr} {es:List Expr} {ta tb tc te:TE3} {t:TA3} {pos:Pos}
def VI (i:Nat) (r:R3) (te:TE3):TS3:=λd τ G=>match τ[i]? with
 |some (some x)=>te τ G λy G1=>r x y G1 λz G2=>d.nx (τ.set i (some z)) G2
 |_=>False
def qdV (i:Nat) {x:Str} {pos':Pos} (hN:X.N.Nodup) (he:E3 X e te) (hi:X.N[i]?=some x:=by rfl) (hx:Loc X.env.scope x:=by first|exact Or.inl rfl|exact Or.inr rfl) (hf:X.fn x=true\/X.env.scope.names.lookup x=some .local:=by first|exact .inl rfl|exact .inr rfl) :
  S3 X (.AugAssign (.Name x pos') .Add e pos) (VI i (iI (·+·)) te):=
 qdC (qmj (i:=i) hN hi hx he qi7 hf) λD σ H ⟨τ,G,d,rl,h,af⟩=>by
  unfold VI at h;split at h
  ·rename_i x e1;obtain ⟨v,e2,rv⟩:=rl.st i x e1;refine ⟨v,e2,jc rl h λy G1 h1 u H1 ry hr1 k1 rl1=>?_⟩;have rv1:=rv.keep rl.hp k1;cases x<;>try exact h1.elim
   cases y<;>try exact h1.elim
   cases rv1;cases ry;exact ⟨_,_,rfl,rfl,af.nx _ G1 h1 _ H1 (rl1.set i (.int _)) k1⟩
  ·exact h.elim
def qh1 (ns:List Int):Prop:=ns.length<=1000000/\∀ x∈ns,-1000000000000<=x/\x<=1000000000000
def M6 (ns:List Int):∀ j,j<=ns.length->preSum (λi=>ns.getD i 0) j=(ns.take j).sum
 |0,_=>by simp [preSum]
 |j+1,h=>by
  have hj:j<ns.length:=h;unfold preSum;rw [M6 ns j (by omega),List.take_succ_eq_append_getElem hj,List.sum_append,getD_eq_getElem?_getD,getElem?_eq_getElem hj];simp
def qfP:∀ (ns:List Int),(∀ x∈ns,-1000000000000<=x/\x<=1000000000000)->-1000000000000*(ns.length:Int)<=ns.sum/\ns.sum<=1000000000000*(ns.length:Int)
 |[],_=>by simp
 |n::r,h=>by
  have h1:=h n List.mem_cons_self;have h2:=qfP r λx hx=>h x (List.mem_cons_of_mem _ hx);rw [List.sum_cons,length_cons];omega
def DN (hc:X.calm=true):VO X (.builtin "sum") (λxs H Q=>∃ (p:Addr) (ns:List Int),xs=[.ref p]/\SqL X.K H p (ns.map V.int)/\qh1 ns/\Q (.int ns.sum) H):=by
 intro pins s σ H xs us Q I r h;obtain ⟨p,ns,rfl,hq,ok,q⟩:=h;obtain ⟨u,rfl,rp⟩:=C2 r;cases (show u=Value.ref p from rp);obtain ⟨its,rv,pl,hz⟩:=I.list hq;have hlen:its.length=ns.length:=by have:=rv.length;simp at this;omega
 have hp:p<s.heap.objs.size:=by obtain ⟨o,n,e,_⟩:=pl;exact Heap.lt_size e
 have bd:∀ j,j<=ns.length->InLong (preSum (λi=>ns.getD i 0) j):=λj hj=>by
  rw [M6 ns j hj];have:=qfP (ns.take j) λx hx=>ok.2 x (List.mem_of_mem_take hx);have hl:(ns.take j).length<=1000000:=Nat.le_trans (by rw [List.length_take];omega) ok.1;unfold InLong;omega
 refine call_sum_walk (wpAny_pyIter_list pl.isList ⟨s.heap.objs.size,_,_,_,_,_,λi=>ns.getD i 0,rfl,Walks.list (A:=X.A.in1) (show X.A.in1.handled=none from I.ok.hd hc) s.heap.objs.size p (Nat.ne_of_lt hp) its.toArray,⟨⟨_,Heap.get?_push_size _ rfl,rfl,rfl⟩,?_⟩,λb hb=>?_,λi v hv=>?_,λj hj=>?_,λh' tk t' hk=>?_⟩)
 ·obtain ⟨o,n,e,c,_,d⟩:=pl;exact ⟨o,Heap.get?_push_of_some _ e,c,n,d⟩
 ·have lt1:∀ n c:Nat,c<n->c<n+1:=λn c h=>by omega
  rw [show (({ s with heap:=s.heap.push _ }:Shared).heap.objs.size)=s.heap.objs.size+1 from Heap.size_push ..];simp only [mem_cons,not_mem_nil,or_false] at hb;rcases hb with rfl|rfl
  ·exact Nat.lt_succ_self _
  ·exact lt1 _ _ hp
 ·have hv':its[i]?=some v:=by simpa using hv
  obtain ⟨hi,_⟩:=List.getElem?_eq_some_iff.mp hv';have hi':i<ns.length:=by omega
  obtain ⟨u,hu,ru⟩:=rv.get (i:=i) (show (ns.map V.int)[i]?=some (V.int (ns[i])) by simp [hi']);rw [hv'] at hu;cases hu;obtain ⟨t,rfl⟩:=ru;exact ⟨t,by show Value.int ns[i] t=Value.int (ns.getD i 0) t;rw [getD_eq_getElem?_getD,getElem?_eq_getElem hi'];rfl⟩
 ·have hj':j<ns.length:=by rw [size_toArray] at hj;omega
  refine ⟨?_,bd _ hj'⟩;have:=ok.2 (ns.getD j 0) (by rw [getD_eq_getElem?_getD,getElem?_eq_getElem hj'];exact List.getElem_mem hj');show InLong (ns.getD j 0);unfold InLong;omega
 ·refine ⟨.int _,H,?_,⟨_,rfl⟩,by rw [size_toArray,hlen,M6 ns _ (Nat.le_refl _),List.take_length];exact q⟩;exact I.kept (h':=h') (t':=tk) λb o e=>hk b o (by simp;exact Nat.ne_of_lt (Heap.lt_size e)) (Heap.get?_push_of_some _ e)
def T9:List T->Option (List Int)
 |[]=>some []
 |.int i::r=>(match T9 r with|some ns=>some (i::ns)|none=>none)
 |_=>none
def DJ (ns:List Int):T9 (ns.map T.int)=some ns:=by
 induction ns with
 |nil=>rfl
 |cons n r ih=>simp [T9,ih]
def CB:∀ {xs:List T} {ns:List Int},T9 xs=some ns->xs=ns.map T.int
 |[],_,h=>by simp [T9] at h;subst h;rfl
 |x::r,ns,h=>by
  unfold T9 at h;split at h
  ·rename_i e;cases e
  ·rename_i i r' e;cases e;split at h
   ·rename_i ms e2;cases h;rw [CB e2];rfl
   ·cases h
  ·cases h
def qi3:List T->Gp->Q3->Prop:=λxs G q=>match xs with
 |[.ref p]=>(match zo G p with|some ys=>(match T9 ys with|some ns=>qh1 ns/\q (.int ns.sum) G|none=>False)|none=>False)
 |_=>False
def CK {K:Frg} {H:Hp}:∀ {ns:List Int} {vs:List V},Rps K H (ns.map T.int) vs->vs=ns.map V.int
 |[],_,r=>by cases r;rfl
 |n::ns,_,r=>by
  cases r with
  |cons a b=>cases a;rw [CK b];rfl
def qdb {K:Frg}:NH K qi3 (λxs H Q=>∃ (p:Addr) (ns:List Int),xs=[.ref p]/\SqL K H p (ns.map V.int)/\qh1 ns/\Q (.int ns.sum) H):=λxs vs G H q Q hr rs h af=>by
 unfold qi3 at h;split at h
 ·rename_i p;obtain ⟨v,rfl,r⟩:=KZ rs;cases r;split at h
  ·rename_i ys e0;split at h
   ·rename_i ns e1;obtain ⟨us,hs,r2⟩:=jo hr e0;have:=CB e1;subst this;have:=CK r2;subst this;exact ⟨p,ns,rfl,hs,h.1,af _ G h.2 _ H (.int _) hr Kp.refl⟩
   ·exact h.elim
  ·exact h.elim
 ·exact h.elim
def UY:List T->Gp->Q3->Prop:=λxs G q=>match xs with
 |[.ref p]=>(match zo G p with|some ys=>(match qoj ys with|some k=>q (.bl k) G|none=>False)|none=>False)
 |_=>False
end
section
variable {X:Cx}
def qhx {elt tg iter:Expr} {ifs:List Expr} {scope:Scope} {pos cpos:Pos} {N':List Str} {m:List (Option Nat)} {wi:TI} {g:TG} {tif:TT} {te:TE} {use:Option (Value->Sem Unit)} {Qc:Value->Shared->Prop} {QD:Addr->Hp->Prop} (hc:X.calm=true) (hi:PI X tg iter wi)
  (hg:∀ s H fp,PG (qt X N' scope s H fp) tg g) (hf:∀ s H fp,PF (qt X N' scope s H fp) ifs tif) (he:∀ s H fp,PE (qt X N' scope s H fp) elt te)
  (hsc:qbC X.env.scope scope=true) (hcap:ET X.N N' scope m=true) (hs:∀ x,foldedSetIterable iter X.env x=pure x) {pins:List (Addr×Obj)} {s:Shared} {σ:L2.St} {H:Hp} (I:Inv X pins σ H s)
  (h:wi σ H λJ H1=>∀ D,H1 D=none ->
   ∃ W:Nat->Nat->L2.St->Hp->Prop,(∃ n,W 0 n (cap m σ) (upd H1 D (.lst [])))/\∀ i n σ H,W i n σ H ->
    (J.stop i H/\QD D H)\/(J.go i H/\∀ x H',J.yld i H x H'->g x σ H' λσ2 H2=>tif σ2 H2 λk H3=>
     if k=true then te σ2 H3 λy H4=>∃ zs,H4 D=some (.lst zs)/\zs.length<sizeLine/\∃ n',n'<n/\W (i+1) n' σ2 (upd H4 D (.lst (zs++[y])))
     else ∃ n',n'<n/\W (i+1) n' σ2 H3))
  (fin:∀ (D:Addr) (s3:Shared) (H3:Hp) (fp:List Addr) (s6:Shared) (H6:Hp) (σ6:L2.St) (r:Flow),Inv X pins σ H3 s3->(∀ b∈fp,LR X pins H3 b)->Inv (qt X N' scope s3 H3 fp) [] σ6 H6 s6->QD D H6->compPost (model X.prog X.w) X.A X.xe use Qc (.ref D) s3.heap.objs.size (.ok r) s6) :
  wpAny (model X.prog X.w) X.A (comprehension (.ListComp elt [⟨tg,iter,ifs,0⟩] scope pos) scope X.env cpos (newList []) false (eval iter X.env) use) Qc X.xe s:=by
 have sc:=WG hsc;have hcl:∀ y∈scope.names,y.2=.free->∃ c,X.env.cells.lookup y.1=some c:=λy hy e=>by
  rcases (sc.free y hy e).2 with z|z
  ·exact I.ok.has y.1 (.inl z)
  ·exact I.ok.has y.1 (.inr z)
 refine wpAny_comprehension_free (g:=⟨tg,iter,ifs,0⟩) (gs:=[]) rfl hs (YM hcl) sc.kind sc.loc ?_;show wpAny _ _ (eval iter X.env) _ _ s;refine thn (hi pins s σ H _ I h) λv s1 h1=>thn h1 λitv s2 h2=>?_;obtain ⟨it,fp,tn,J,H2,rfl,I2,T,st2,f2,hW⟩:=h2;refine wpAny_newObj_type ?_;have hD:H2 s2.heap.objs.size=none:=I2.fresh;obtain ⟨W,⟨n0,w0⟩,turn⟩:=hW _ hD;generalize hDe:s2.heap.objs.size=D at *;have I3:Inv X pins σ (upd H2 D (.lst [])) { s2 with heap:=s2.heap.push { cls:=.type "list",dict:=none,data:=.seq ([]:List Value).toArray } }:=by
  subst hDe;exact I2.laid (t':=s2.toks) (λb u e=>Heap.get?_push_of_some _ e) (Nat.le_refl _) ⟨Nat.zero_le _,[],0,.nil,Heap.get?_push_size _ rfl⟩
 have ob2:=T.obj 0 _ st2;have ob3:∀ b∈fp,∃ o,(s2.heap.push { cls:=.type "list",dict:=none,data:=.seq ([]:List Value).toArray }).get? b=some o:=λb hb=>let ⟨o,e,_⟩:=ob2 b hb;⟨o,Heap.get?_push_of_some _ e⟩
 have f3:∀ b∈fp,LR X pins (upd H2 D (.lst [])) b:=λb hb=>by
  obtain ⟨o,e,_⟩:=ob2 b hb;have:b≠D:=by rw [← hDe];exact Nat.ne_of_lt (Heap.lt_size e)
  exact ⟨by rw [qT this];exact (f2 b hb).1,(f2 b hb).2⟩
 have k23:∀ b o,s2.heap.get? b=some o->(s2.heap.push { cls:=.type "list",dict:=none,data:=.seq ([]:List Value).toArray }).get? b=some o:=λb o e=>Heap.get?_push_of_some _ e;generalize hH3:upd H2 D (.lst [])=H3 at *;generalize hs3:({ s2 with heap:=s2.heap.push { cls:=.type "list",dict:=none,data:=.seq ([]:List Value).toArray } }:Shared)=s3 at *;have ob3:∀ b∈fp,∃ o,s3.heap.get? b=some o:=by rw [← hs3];exact ob3
 have k23:∀ b o,s2.heap.get? b=some o->s3.heap.get? b=some o:=by rw [← hs3];exact k23
 refine QX λh₁ hns hk hown=>?_;have I4:Inv (qt X N' scope s3 H3 fp) [] (cap m σ) H3 { s3 with heap:=h₁ }:=KD hc I3 sc hcap f3 ob3 hns hk hown;have tn4:tn 0 h₁:=T.keep _ _ _ st2 λb hb o e=>hk b o (k23 b o e);have fr4:∀ b∈fp,H3 b=none:=λb hb=>(f3 b hb).1;have stat:∀ {H':Hp},(∀ b∈fp,H' b=none)->∀ b∈fp,LR (qt X N' scope s3 H3 fp) [] H' b:=λhn b hb=>by
  refine ⟨hn b hb,I4.ok.exf b hb |>.1,I4.ok.exfs b hb,.inl hb,λx c e=>(I4.ok.exf b hb).2 x c e,λp hp=>absurd (show p∈([]:List (Addr×Obj)) from hp) (by simp)⟩
 show codeAny (model X.prog X.w) X.A (.compStart (.ListComp elt [⟨tg,iter,ifs,0⟩] scope pos) 0 (.ref it) (.ref D) (qt X N' scope s3 H3 fp).env) (compPost (model X.prog X.w) X.A X.xe use Qc (.ref D) s3.heap.objs.size) { s3 with heap:=h₁ };have loop:codeAny (model X.prog X.w) X.A (.compLoop (.ListComp elt [⟨tg,iter,ifs,0⟩] scope pos) 0 (.ref it) (.ref D) (qt X N' scope s3 H3 fp).env) (compPost (model X.prog X.w) X.A X.xe use Qc (.ref D) s3.heap.objs.size) { s3 with heap:=h₁ }:=by
  refine codeAny_loop rfl (λn s'=>∃ i σ' H',Inv (qt X N' scope s3 H3 fp) [] σ' H' s'/\tn i s'.heap/\(∀ b∈fp,H' b=none)/\W i n σ' H') (λn s' hI=>?_) n0 ⟨0,cap m σ,H3,I4,tn4,fr4,w0⟩;show wpAny _ X.A ((compTurn (.ListComp elt [⟨tg,iter,ifs,0⟩] scope pos) 0 (.ref it) (.ref D) (qt X N' scope s3 H3 fp).env).onRaise (λx=>do noteFrame x (qt X N' scope s3 H3 fp).env;theTreesLotGoes x)) _ _ s';refine wpAny_noted ?_;rw [compTurn_list];refine wpAny_bind (wpAny_standAt (wpAny_bind ?_));obtain ⟨i,σ5,H5,I5,st5,fr5,w5⟩:=hI;rcases turn i n σ5 H5 w5 with ⟨stop,q⟩|⟨go,step⟩
  ·refine thn (T.done (qt X N' scope s3 H3 fp) rfl rfl rfl rfl i [] s' σ5 H5 _ I5 (stat fr5) st5 stop) λr s6 ⟨hr,I6⟩=>?_;subst hr;refine wpAny_pure ?_;exact fin D s3 H3 fp s6 H5 σ5 _ I3 f3 I6 q
  ·refine thn (T.item (qt X N' scope s3 H3 fp) rfl rfl rfl rfl i [] s' σ5 H5 _ I5 (stat fr5) st5 go) λr s6 ⟨u,hr,h6⟩=>?_;subst hr;refine wpAny_bind (thn h6 λ_ s7 ⟨x,H7,I7,r7,y7,st7,fr7⟩=>?_);have I7':=I7.pinned (stat fr7) (T.obj _ _ st7);have again:∀ {σ8:L2.St} {H8:Hp} {s8:Shared},Inv (qt X N' scope s3 H3 fp) ([]++XH fp s7.heap) σ8 H8 s8->(∃ n',n'<n/\W (i+1) n' σ8 H8) ->
     ∃ m',m'<n/\∃ i σ' H',Inv (qt X N' scope s3 H3 fp) [] σ' H' s8/\tn i s8.heap/\(∀ b∈fp,H' b=none)/\W i m' σ' H':=λ{σ8 H8 s8} I8 ⟨n',hn,w8⟩=>by
    refine ⟨n',hn,i+1,σ8,H8,I8.unpinned,T.keep _ _ _ st7 λb hb o e=>(I8.pin (b,o) (mem_append_right _ (mem_append_right _ (z9 hb e)))).1,λb hb=>?_,w8⟩;obtain ⟨o,e,d⟩:=T.obj _ _ st7 b hb;exact (I8.pin (b,o) (mem_append_right _ (mem_append_right _ (z9 hb e)))).2.1
   refine wpAny_bind (wpAny_mono (hg s3 H3 fp _ s7 σ5 H7 x u _ I7' r7 (step x H7 y7)) (λ_ s8 ⟨σ8,H8,I8,q8⟩=>?_) λ_ _ z=>z.elim);refine wpAny_bind (wpAny_mono (hf s3 H3 fp _ s8 σ8 H8 _ I8 q8) (λk s9 ⟨H9,I9,q9⟩=>?_) λ_ _ z=>z.elim);cases k with
   |false=>
    rw [if_neg Bool.false_ne_true] at q9;exact wpAny_pure ⟨rfl,again I9 q9⟩
   |true=>
    rw [if_pos rfl] at q9;refine wpAny_bind (wpAny_bind (wpAny_mono (he s3 H3 fp _ s9 σ8 H9 _ I9 q9) (λw s10 ⟨y,H10,I10,r10,q10⟩=>?_) λ_ _ z=>z.elim));obtain ⟨zs,hz,hl,q10⟩:=q10;refine wpAny_bind (wpAny_mono (DH (X:=qt X N' scope s3 H3 fp) _ s10 σ8 H10 (.ref D) [y] (.ref D) [w] (λ_ H11=>H11=upd H10 D (.lst (zs++[y]))) I10 rfl (.cons r10 .nil) ⟨D,zs,y,rfl,rfl,hz,hl,rfl⟩) (λ_ s11 ⟨_,H11,I11,_,e11⟩=>?_) λ_ _ z=>z.elim);subst e11;exact wpAny_pure (wpAny_pure ⟨rfl,again I11 q10⟩)
 exact codeAny_compStart_list loop (T.self X.A 0 _ _ _ tn4 loop)
def qer {i:Nat} {y:Str} {py spos:Pos} {elt tg iter:Expr} {ifs:List Expr} {scope:Scope} {pos:Pos} {N':List Str} {m:List (Option Nat)} {wi:TI} {g:TG} {tif:TT} {te:TE} (hc:X.calm=true) (hN:X.N.Nodup) (hi:PI X tg iter wi)
  (hg:∀ s H fp,PG (qt X N' scope s H fp) tg g) (hf:∀ s H fp,PF (qt X N' scope s H fp) ifs tif) (he:∀ s H fp,PE (qt X N' scope s H fp) elt te)
  (hsc:qbC X.env.scope scope=true) (hcap:ET X.N N' scope m=true) (hs:∀ x,foldedSetIterable iter X.env x=pure x) (hiy:X.N[i]?=some y) (hl:X.env.scope.names.lookup y=some .local)
  (hsw:swapsWith (.ListComp elt [⟨tg,iter,ifs,0⟩] scope pos) (some (.Name y py)) spos.line X.env=pure true) :
  PS X (.Assign [.Name y py] (.ListComp elt [⟨tg,iter,ifs,0⟩] scope pos) spos) (qoz (tLC wi g tif te m) (qg5 i)):=by
 intro pins s σ H D I h;rw [exec_Assign_Name_used _ _ _ _ hsw];refine wpAny_bind (wpAny_standAt (wpAny_bind ?_));show wpAny _ X.A (do let _←comprehension (.ListComp elt [⟨tg,iter,ifs,0⟩] scope pos) scope X.env _ (newList []) false (eval iter X.env) (some (assign (.Name y py) X.env))) _ _ s;refine wpAny_bind (wpAny_mono (qhx (use:=some (assign (.Name y py) X.env)) (QD:=λD' H'=>D.nx (σ.set i (some (.ref D'))) H') (Qc:=λ_ s'=>∃ σ' H',Inv X pins σ' H' s'/\D.nx σ' H') hc hi hg hf he hsc hcap hs I h λD' s3 H3 fp s6 H6 σ6 r I3 f3 I6 q=>?_) (λ_ s' hq=>wpAny_pure (wpAny_pure hq)) λ_ _ e=>e);have I7:Inv X pins σ H6 s6:=W4 (h2:=s6.heap) I3 f3 I6 ⟨rfl,λ_ _=>rfl⟩;obtain ⟨mm,hn6,_⟩:=I6.loc;have hfC:LR X pins H6 s3.heap.objs.size:=I3.fpOk (Nat.le_refl _) I6.free;obtain ⟨f0,f1,f2,f3',f4,f5⟩:=hfC;show wpAny _ X.A (assign (.Name y py) X.env (.ref D')) _ _ _;refine wpAny_assign_Name (MX I7 hN hiy (.inl hl) (v:=.ref D') rfl (λs8 I8 hch=>?_) (.inr hl));obtain ⟨a,sb,ha⟩:=hch;have hne:s3.heap.objs.size≠a:=by
  rcases ha with rfl|ha
  ·exact f1
  ·exact Ne.symm (f4 _ _ ha)
 refine ⟨mm,hn6.sameBut sb hne,λh' sb'=>⟨_,_,I8.turned (t':=s8.toks) (λb o hb e=>(sb'.2 b hb).trans e) f0 f1 f3' f4 f5,q⟩⟩
end
def qoY {K:Frg} {m:List (Option Nat)} {wi:TI3} {g:TG3} {tif:TT3} {te:TE3} {σ:L2.St} {H:Hp} {Q:VK} (hh:lE K (lc3 wi g tif te m) σ H Q):tLC (lI K wi) (lG K g) (lT K tif) (lE K te) m σ H Q:=by
  obtain ⟨τ,G,q,rl,h,af⟩:=hh;refine ⟨τ,G,_,rl,h,λitems stay G1 h1 J H1 hr1 k1 ok D hD=>?_⟩;have gD:G1 D=none:=hr1.free hD;refine ⟨λi n σ' H'=>n=items.length-i/\i<=items.length/\∃ τ' G' ys vs,Rel K τ' G' σ' H'/\Kp G1 H1 G' H'/\H' D=some (.lst vs)/\Rps K H' ys vs/\G' D=none/\SB stay g tif te q (items.drop i) ys τ' G',
   ⟨_,rfl,Nat.zero_le _,cap m τ,G1,[],[],((rl.next hr1 k1).cap m).next (hr1.laid hD) (Kp.laid hD),Kp.laid hD,zG,.nil,gD,by simpa using h1⟩,?_⟩
  rintro i n σ' H' ⟨rfl,hi,τ',G',ys,vs,rl',k',hDl,rys,gD',h'⟩;by_cases hlt:i<items.length
  ·rw [List.drop_eq_getElem_cons hlt] at h';obtain ⟨hst,h'⟩:=h';obtain ⟨go,yld,_⟩:=ok G' H' rl'.hp k' hst;have hx:items[i]?=some items[i]:=getElem?_eq_getElem hlt;refine .inr ⟨go i _ hx,λv H2 y=>?_⟩;obtain ⟨rv,hr2,k2⟩:=yld i _ v H2 hx y;have nxt:∀ {τ4:St3} {G4:Gp} {σ4:L2.St} {H4:Hp} {ys4:List T} {vs4:List V},Rel K τ4 G4 σ4 H4->Kp G1 H1 G4 H4->H4 D=some (.lst vs4)->Rps K H4 ys4 vs4->G4 D=none->SB stay g tif te q (items.drop (i+1)) ys4 τ4 G4 ->
     ∃ n',n'<items.length-i/\(n'=items.length-(i+1)/\i+1<=items.length/\∃ τ' G' ys vs,Rel K τ' G' σ4 H4/\Kp G1 H1 G' H4/\H4 D=some (.lst vs)/\Rps K H4 ys vs/\G' D=none/\SB stay g tif te q (items.drop (i+1)) ys τ' G'):=
    λ{τ4 G4 σ4 H4 ys4 vs4} a b c d e f=>⟨_,by omega,rfl,hlt,τ4,G4,ys4,vs4,a,b,c,d,e,f⟩
   refine ⟨_,τ',G',_,rv,rl'.next hr2 k2,h',λτ3 G3 h3 σ3 H3 rl3 k3=>⟨τ3,G3,_,rl3,h3,λk G4 h4 H4 hr4 k4=>?_⟩⟩;have kk:=(k2.trans k3).trans k4;obtain ⟨hD4,gD4⟩:=kk D _ hDl gD';have rys4:=rys.keep rl'.hp kk;cases k with
   |false=>
    rw [if_neg Bool.false_ne_true] at h4;refine qoo ?_;exact nxt (rl3.next hr4 k4) (k'.trans kk) hD4 rys4 gD4 h4
   |true=>
    rw [if_pos rfl] at h4;refine qob ?_;refine ⟨τ3,G4,_,rl3.next hr4 k4,h4,λz G5 h5 w H5 rw5 hr5 k5=>?_⟩;obtain ⟨hD5,gD5⟩:=k5 D _ hD4 gD4;have rys5:=rys4.keep hr4 k5;exact ⟨vs,hD5,by rw [← rys.length];exact h5.1,nxt (((rl3.next hr4 k4).next hr5 k5).wrD hD5 gD5) (((k'.trans kk).trans k5).wrD hD) zG ((rys5.append (.cons rw5 .nil)).wrD hD5) gD5 h5.2⟩
  ·have e:i=items.length:=by omega
   subst e;rw [List.drop_length] at h';obtain ⟨_,_,stop⟩:=ok G' H' rl'.hp k' h'.1;refine .inl ⟨stop,af _ _ (h'.2 D gD') _ H' (.ref D) (λa o e=>?_) λa o e ga=>?_⟩
   ·by_cases ha:a=D
    ·subst ha;rw [qy] at e;cases e;exact ⟨vs,hDl,rys⟩
    ·rw [jL ha] at e;exact rl'.hp a o e
   ·obtain ⟨e1,g1⟩:=k1 a o e ga;obtain ⟨e2,g2⟩:=k' a o e1 g1;exact ⟨e2,by rw [jL (qE e1 hD)];exact g2⟩
def qg8 {X:Cx} {py spos:Pos} {elt tg iter:Expr} {ifs:List Expr} {scope:Scope} {pos:Pos} {y:Str} (i:Nat) (N':List Str) (m:List (Option Nat)) {wi:TI3} {g:TG3} {tif:TT3} {te:TE3} (hc:X.calm=true) (hN:X.N.Nodup) (hi:I3 X tg iter wi)
  (hg:∀ s H fp,G3 (qt X N' scope s H fp) tg g) (hf:∀ s H fp,F3 (qt X N' scope s H fp) ifs tif) (he:∀ s H fp,E3 (qt X N' scope s H fp) elt te)
  (hsc:qbC X.env.scope scope=true) (hcap:ET X.N N' scope m=true) (hl:X.env.scope.names.lookup y=some .local) (hsw:swapsWith (.ListComp elt [⟨tg,iter,ifs,0⟩] scope pos) (some (.Name y py)) spos.line X.env=pure true) (hiy:X.N[i]?=some y:=by rfl) (hs:∀ x,foldedSetIterable iter X.env x=pure x:=by intro _;rfl) :
  S3 X (.Assign [.Name y py] (.ListComp elt [⟨tg,iter,ifs,0⟩] scope pos) spos) (qG (lc3 wi g tif te m) (gn3 i)):=
 qdC (qer (g:=lG X.K g) (tif:=lT X.K tif) (te:=lE X.K te) hc hN hi hg hf he hsc hcap hs hiy hl hsw) λ_ σ H ⟨τ,G,d,rl,h,af⟩=>
  qoY ⟨τ,G,_,rl,h,λx G1 h1 v H1 rx hr1 k1=>af.nx _ G1 h1 _ H1 ((rl.next hr1 k1).set i rx) k1⟩
end L3
set_option autoImplicit true
namespace L3
open PySem PySem.Spec PyProof.Rows L2
structure jE3 (X:Cx) (e:Expr) (t:TE3):Prop where h:E3 X e t
structure jC3 (X:Cx) (e:Expr) (t:TT3):Prop where h:C3 X e t
structure jW3 (X:Cx) (e:Expr) (t:TT3):Prop where h:W3 X e t
structure jA3 (X:Cx) (e:List Expr) (t:TA3):Prop where h:A3 X e t
structure jP3 (X:Cx) (e:Option Expr) (t:TO3):Prop where h:P3 X e t
structure jS3 (X:Cx) (e:Stmt) (t:TS3):Prop where h:S3 X e t
structure jB3 (X:Cx) (e:List Stmt) (t:TS3):Prop where h:B3 X e t
structure jG3 (X:Cx) (e:Expr) (t:TG3):Prop where h:G3 X e t
structure jGs3 (X:Cx) (e:List Expr) (t:M2):Prop where h:Gs3 X e t
structure jI3 (X:Cx) (tg e:Expr) (t:TI3):Prop where h:I3 X tg e t
structure jF3 (X:Cx) (e:List Expr) (t:TT3):Prop where h:F3 X e t
def qc {X:Cx} (i:Nat) {x:Str} {pos:Pos} (hN:X.N[i]?=some x:=by rfl) (hv:Vis X.env.scope x:=by first|exact Or.inl rfl|exact Or.inr (Or.inl rfl)|exact Or.inr (Or.inr rfl)) (hd:(x==("__debug__" : Str))=false:=by decide)
  (hcd:(x==("__classdict__" : Str))=false:=by decide):jE3 X (.Name x pos) (v3 i):=
 ⟨qpH (i:=i) (hN:=hN) (hv:=hv) (hd:=hd) (hcd:=hcd)⟩
def qe {X:Cx} {i:Int} {j pos}:jE3 X (.Constant (.int i) j pos) (c3 (.int i)):=
 ⟨qoH ⟩
def XU {X:Cx} {b:Bool} {j pos}:jE3 X (.Constant (.bool b) j pos) (c3 (.bl b)):=
 ⟨qq5 ⟩
def MP {X:Cx} {j pos}:jE3 X (.Constant .none j pos) (c3 .non):=
 ⟨qoP ⟩
def qK {X:Cx} {x:Str} {j pos}:jE3 X (.Constant (.str x) j pos) (c3 (.str x)):=
 ⟨qpN ⟩
def JL {ta:TE3} {tb:TE3} {pos:Pos} {a:Expr} {b:Expr} {X:Cx} {op:CmpOp} {r3:R3} {r:R2} (ho:OpR X (compareOp op) r) (hr:RA X.K r3 r) (ha:jE3 X a ta) (hb:jE3 X b tb) (hm:behindInMarks op b=false):jE3 X (.Compare a [op] [b] pos) (o3 r3 ta tb):=
 ⟨qpT (ho:=ho) (hr:=hr) (ha:=ha.h) (hb:=hb.h) (hm:=hm)⟩
def qL {ta:TE3} {tb:TE3} {pos:Pos} {a:Expr} {b:Expr} {X:Cx} {op:CmpOp} {r3:R3} {r:R2} (ho:OpR X (compareOp op) r) (hr:RA X.K r3 r) (ha:jE3 X a ta) (hb:jE3 X b tb) (hm:behindInMarks op b=false):jC3 X (.Compare a [op] [b] pos) (tb3 (o3 r3 ta tb)):=
 ⟨qpl (ho:=ho) (hr:=hr) (ha:=ha.h) (hb:=hb.h) (hm:=hm)⟩
def T4 {ta:TE3} {tb:TE3} {tc:TE3} {pos:Pos} {a:Expr} {b:Expr} {c:Expr} {X:Cx} {op op':CmpOp} {r3 r3':R3} {r r':R2} (ho:OpR X (compareOp op) r) (hr:RA X.K r3 r) (ho':OpR X (compareOp op') r') (hr':RA X.K r3' r') (ha:jE3 X a ta) (hb:jE3 X b tb) (hc:jE3 X c tc)
  (hm:lastMarks [op,op'] [b,c]=false:=by with_unfolding_all rfl):jE3 X (.Compare a [op,op'] [b,c] pos) (ch3 r3 r3' ta tb tc):=
 ⟨qhe (ho:=ho) (hr:=hr) (ho':=ho') (hr':=hr') (ha:=ha.h) (hb:=hb.h) (hc:=hc.h) (hm:=hm)⟩
def U2 {ta:TE3} {tb:TE3} {pos:Pos} {a:Expr} {b:Expr} {X:Cx} (ha:jE3 X a ta) (hb:jE3 X b tb):jE3 X (.BinOp a .Sub b pos) (o3 (iI (·-·)) ta tb):=
 ⟨qo7 (ha:=ha.h) (hb:=hb.h)⟩
def zp {ta:TE3} {tb:TE3} {pos:Pos} {a:Expr} {b:Expr} {X:Cx} (ha:jE3 X a ta) (hb:jE3 X b tb):jE3 X (.BinOp a .Mult b pos) (o3 (iC Q7 (·*·)) ta tb):=
 ⟨qoS (ha:=ha.h) (hb:=hb.h)⟩
def QR {ta:TE3} {tb:TE3} {pos:Pos} {a:Expr} {b:Expr} {X:Cx} (ha:jE3 X a ta) (hb:jE3 X b tb):jE3 X (.BinOp a .Mod b pos) (o3 (iC (λ_ j=>0<j) (·%·)) ta tb):=
 ⟨qpr (ha:=ha.h) (hb:=hb.h)⟩
def U3 {ta:TE3} {tb:TE3} {pos:Pos} {a:Expr} {b:Expr} {X:Cx} (ha:jE3 X a ta) (hb:jE3 X b tb):jE3 X (.BinOp a .FloorDiv b pos) (o3 (iC qa2 (·/·)) ta tb):=
 ⟨qpq (ha:=ha.h) (hb:=hb.h)⟩
def qlt {ta:TE3} {tb:TE3} {pos:Pos} {a:Expr} {b:Expr} {X:Cx} (ha:jE3 X a ta) (hb:jE3 X b tb):jE3 X (.BinOp a .Pow b pos) (o3 (iC qa9 (λi j=>i ^ j.toNat)) ta tb):=
 ⟨qpK (ha:=ha.h) (hb:=hb.h)⟩
def KC {ta:TE3} {tb:TE3} {pos:Pos} {a:Expr} {b:Expr} {X:Cx} (ha:jE3 X a ta) (hb:jE3 X b tb):jE3 X (.BinOp a .BitAnd b pos) (o3 (iI Builtin.bitAnd) ta tb):=
 ⟨qjP (ha:=ha.h) (hb:=hb.h)⟩
def qaY {ta:TE3} {tb:TE3} {pos:Pos} {a:Expr} {b:Expr} {X:Cx} (ha:jE3 X a ta) (hb:jE3 X b tb):jE3 X (.BinOp a .LShift b pos) (o3 (iC qa9 (λi j=>i*2 ^ j.toNat)) ta tb):=
 ⟨qpn (ha:=ha.h) (hb:=hb.h)⟩
def qkL {ta:TE3} {tb:TE3} {pos:Pos} {a:Expr} {b:Expr} {X:Cx} (ha:jE3 X a ta) (hb:jE3 X b tb):jE3 X (.BinOp a .RShift b pos) (o3 (iC (λ_ j=>0<=j) (λi j=>i/2 ^ j.toNat)) ta tb):=
 ⟨qoE (ha:=ha.h) (hb:=hb.h)⟩
def JS {ta:TE3} {pos:Pos} {a:Expr} {X:Cx} (ha:jE3 X a ta):jE3 X (.UnaryOp .USub a pos) (u3 QV ta):=
 ⟨qou (ha:=ha.h)⟩
def qiB {tA:TT3} {pos:Pos} {a:Expr} {X:Cx} (ha:jC3 X a tA):jW3 X (.BoolOp .And [a] pos) tA:=
 ⟨ql1 (ha:=ha.h)⟩
def qcR {tA:TT3} {pos:Pos} {a:Expr} {X:Cx} (ha:jC3 X a tA):jW3 X (.BoolOp .Or [a] pos) tA:=
 ⟨qpp (ha:=ha.h)⟩
def qjm {ZY:List Expr} {tA:TT3} {tB:TT3} {pos:Pos} {a:Expr} {X:Cx} (ha:jC3 X a tA) (hb:jW3 X (.BoolOp .And (b::ZY) pos) tB):jW3 X (.BoolOp .And (a::b::ZY) pos) (VB tA tB):=
 ⟨qpD (ha:=ha.h) (hb:=hb.h)⟩
def qig {ZY:List Expr} {tA:TT3} {tB:TT3} {pos:Pos} {a:Expr} {X:Cx} (ha:jC3 X a tA) (hb:jW3 X (.BoolOp .Or (b::ZY) pos) tB):jW3 X (.BoolOp .Or (a::b::ZY) pos) (or3 tA tB):=
 ⟨qq4 (ha:=ha.h) (hb:=hb.h)⟩
def SJ {tA:TT3} {pos:Pos} {a:Expr} {X:Cx} (ha:jC3 X a tA):jC3 X (.UnaryOp .Not a pos) (JB tA):=
 ⟨qpb (ha:=ha.h)⟩
def XE {X:Cx} {e:Expr} {t:TE3} (h:jE3 X e t) (he:∀ whole,isTrue e X.env whole=(do let v←whole;standAt e.pos;holding [v] (truthy v)):=by intro _;rfl):jC3 X e (tb3 t):=
 ⟨qoB (h:=h.h) (he:=he)⟩
def WC {ta:TE3} {pos:Pos} {a:Expr} {X:Cx} {op} (h:jE3 X a ta):jE3 X (.BoolOp op [a] pos) ta:=
 ⟨qoX (h:=h.h)⟩
def V1 {ZY:List Expr} {ta:TE3} {tb:TE3} {pos:Pos} {a:Expr} {X:Cx} (ha:jE3 X a ta) (hb:jE3 X (.BoolOp .And (b::ZY) pos) tb):jE3 X (.BoolOp .And (a::b::ZY) pos) (zk ta tb):=
 ⟨qoO (ha:=ha.h) (hb:=hb.h)⟩
def qm4 {ta:TE3} {pos:Pos} {a:Expr} {X:Cx} (ha:jE3 X a ta):jE3 X (.UnaryOp .Not a pos) (ja ta):=
 ⟨qpe (ha:=ha.h)⟩
def qkj {tA:TT3} {ta:TE3} {tb:TE3} {pos:Pos} {a:Expr} {b:Expr} {X:Cx} {c:Expr} (hc:jC3 X c tA) (ha:jE3 X a ta) (hb:jE3 X b tb):jE3 X (.IfExp c a b pos) (if3 tA ta tb):=
 ⟨qq0 (hc:=hc.h) (ha:=ha.h) (hb:=hb.h)⟩
def qd {X:Cx} :jA3 X [] qh:=
 ⟨qo5 ⟩
def qa {te:TE3} {t:TA3} {es:List Expr} {X:Cx} (ha:jE3 X e te) (hr:jA3 X es t) (hs:starEach (e::es) X.env=(false,eval e X.env)::starEach es X.env:=by rfl):jA3 X (e::es) (qb te t):=
 ⟨qm5 (ha:=ha.h) (hr:=hr.h) (hs:=hs)⟩
def qv {t:TA3} {pos:Pos} {es:List Expr} {X:Cx} {x1} (h:jA3 X es t):jE3 X (.Tuple es x1 pos) (qP t):=
 ⟨qp0 (h:=h.h)⟩
def zW {t:TA3} {pos:Pos} {es:List Expr} {X:Cx} (h:jA3 X es t):jE3 X (.List es pos) (zM t):=
 ⟨qo6 (h:=h.h)⟩
def qz {t:TA3} {pos:Pos} {es:List Expr} {X:Cx} {x:Str} {p:Pos} {id:String} {r3:List T->Gp->Q3->Prop} {r:List V->Hp->VK->Prop} (hc:VO X (.builtin id) r) (hr:NH X.K r3 r) (hg:Gl X x) (hm:X.mg x=none) (hv:bootBuiltins x=some (.builtin id)) (ha:jA3 X (e::es) t) (hn:x≠"__name__" := by decide) (hdb:(x==("__debug__" : Str))=false:=by decide)
  (he:starEach (e::es) X.env=(false,eval e X.env)::starEach es X.env:=by rfl) (hpl:(backTo pos (starEach es X.env)).any (·.1)=false:=by rfl):jE3 X (.Call (.Name x p) (e::es) [] pos) (cb3 r3 t):=
 ⟨qiv (hc:=hc) (hr:=hr) (hg:=hg) (hm:=hm) (hv:=hv) (ha:=ha.h) (hn:=hn) (hdb:=hdb) (he:=he) (hpl:=hpl)⟩
def zA {t:TA3} {pos:Pos} {es:List Expr} {X:Cx} {x:Str} {p:Pos} {ty:String} {r3:List T->Gp->Q3->Prop} {r:List V->Hp->VK->Prop} (hc:VO X (.type ty) r) (hr:NH X.K r3 r) (hg:Gl X x) (hm:X.mg x=none) (hv:bootBuiltins x=some (.type ty)) (ha:jA3 X (e::es) t) (hn:x≠"__name__" := by decide) (hdb:(x==("__debug__" : Str))=false:=by decide)
  (he:starEach (e::es) X.env=(false,eval e X.env)::starEach es X.env:=by rfl) (hpl:(backTo pos (starEach es X.env)).any (·.1)=false:=by rfl):jE3 X (.Call (.Name x p) (e::es) [] pos) (cb3 r3 t):=
 ⟨qdN (hc:=hc) (hr:=hr) (hg:=hg) (hm:=hm) (hv:=hv) (ha:=ha.h) (hn:=hn) (hdb:=hdb) (he:=he) (hpl:=hpl)⟩
def qu {ta:TE3} {tb:TE3} {pos:Pos} {a:Expr} {b:Expr} {X:Cx} (ha:jE3 X a ta) (hb:jE3 X b tb) (hs:XC b:=by intro _ _;rfl):jE3 X (.Subscript a b pos) (o3 ix3 ta tb):=
 ⟨qri (ha:=ha.h) (hb:=hb.h) (hs:=hs)⟩
def TC {te:TE3} {e:Expr} {X:Cx} (h:jE3 X e te):jP3 X (some e) (sp3 te):=
 ⟨qlf (h:=h.h)⟩
def qaC {te:TE3} {pos:Pos} {e:Expr} {X:Cx} {lo hi:Option Expr} {tl th:TO3} {p2:Pos} (he:jE3 X e te) (hl:jP3 X lo tl) (hu:jP3 X hi th):jE3 X (.Subscript e (.Slice lo hi none p2) pos) (JX te tl th):=
 ⟨qhH (he:=he.h) (hl:=hl.h) (hu:=hu.h)⟩
def qA {ta:TE3} {tb:TE3} {pos:Pos} {a:Expr} {b:Expr} {X:Cx} (ha:jE3 X a ta) (hb:jE3 X b tb):jE3 X (.BinOp a .Add b pos) (o3 q0 ta tb):=
 ⟨qkk (ha:=ha.h) (hb:=hb.h)⟩
def CN {t:TA3} {e:Expr} {X:Cx} {o:Expr} {to:TE3} {apos cpos:Pos} (ho:jE3 X o to) (ha:jA3 X [e] t)
  (hbase:attributeBase o "append" X.env (eval o X.env)=eval o X.env:=by rfl)
  (hfew:((backTo cpos (starEach [e] X.env)).all (λx=>!x.1)&&(backToKw cpos (keywordEach [] X.env)).all (λx=>x.1.isSome)
   && decide (([e]:List Expr).length+([]:List Keyword).length+(if ([]:List Keyword).isEmpty then 0 else 1)<30))=true:=by rfl)
  (hline:(apos.endLine==cpos.line)=true:=by rfl) (hs:starEach [e] X.env=(false,eval e X.env)::starEach [] X.env:=by rfl) (hplain:(backTo cpos (starEach [] X.env)).any (·.1)=false:=by rfl):jE3 X (.Call (.Attribute o "append" apos) [e] [] cpos) (bm3 JG to t):=
 ⟨qeb (ho:=ho.h) (ha:=ha.h) (hbase:=hbase) (hfew:=hfew) (hline:=hline) (hs:=hs) (hplain:=hplain)⟩
def RB {t:TA3} {e:Expr} {X:Cx} {o:Expr} {to:TE3} {apos cpos:Pos} (ho:jE3 X o to) (ha:jA3 X [e] t)
  (hbase:attributeBase o "extend" X.env (eval o X.env)=eval o X.env:=by rfl)
  (hfew:((backTo cpos (starEach [e] X.env)).all (λx=>!x.1)&&(backToKw cpos (keywordEach [] X.env)).all (λx=>x.1.isSome)
   && decide (([e]:List Expr).length+([]:List Keyword).length+(if ([]:List Keyword).isEmpty then 0 else 1)<30))=true:=by rfl)
  (hline:(apos.endLine==cpos.line)=true:=by rfl) (hs:starEach [e] X.env=(false,eval e X.env)::starEach [] X.env:=by rfl) (hplain:(backTo cpos (starEach [] X.env)).any (·.1)=false:=by rfl):jE3 X (.Call (.Attribute o "extend" apos) [e] [] cpos) (bm3 JF to t):=
 ⟨qee (ho:=ho.h) (ha:=ha.h) (hbase:=hbase) (hfew:=hfew) (hline:=hline) (hs:=hs) (hplain:=hplain)⟩
def LX {te:TE3} {pos:Pos} {e:Expr} {X:Cx} {tn:Str} {ty:String} {p p2:Pos} (he:jE3 X e te) (hg:Gl X "isinstance") (hm:X.mg "isinstance" = none) (hg2:Gl X tn) (hm2:X.mg tn=none) (hv:bootBuiltins tn=some (.type ty)) (hmem:ty∈NJ:=by decide) (hn:tn≠"__name__" := by decide) (hdb:(tn==("__debug__" : Str))=false:=by decide)
  (hs:starEach [e,.Name tn p2] X.env=(false,eval e X.env)::starEach [.Name tn p2] X.env:=by rfl) (hs2:starEach [.Name tn p2] X.env=(false,eval (.Name tn p2) X.env)::starEach [] X.env:=by rfl) (hpl:(backTo pos (starEach [.Name tn p2] X.env)).any (·.1)=false:=by rfl):jE3 X (.Call (.Name "isinstance" p) [e,.Name tn p2] [] pos) (JH (λt=>QQ t ty) te):=
 ⟨qpL (he:=he.h) (hg:=hg) (hm:=hm) (hg2:=hg2) (hm2:=hm2) (hv:=hv) (hmem:=hmem) (hn:=hn) (hdb:=hdb) (hs:=hs) (hs2:=hs2) (hpl:=hpl)⟩
def qR {X:Cx} :jB3 X [] qw:=
 ⟨qoA ⟩
def qf {ZY:List Stmt} {st:Stmt} {t1:TS3} {t2:TS3} {X:Cx} (h1:jS3 X st t1) (h2:jB3 X ZY t2):jB3 X (st::ZY) (qx t1 t2):=
 ⟨qmL (h1:=h1.h) (h2:=h2.h)⟩
def qo {st:Stmt} {t1:TS3} {X:Cx} (h1:jS3 X st t1):jB3 X [st] t1:=
 ⟨qos (h1:=h1.h)⟩
def W2 {te:TE3} {pos:Pos} {e:Expr} {X:Cx} (he:jE3 X e te) (hs:swapsWith e none pos.line X.env=pure false:=by rfl):jS3 X (.Expr e pos) (zw te):=
 ⟨qnG (he:=he.h) (hs:=hs)⟩
def qr {te:TE3} {pos:Pos} {e:Expr} {X:Cx} (he:jE3 X e te):jS3 X (.Return (some e) pos) (qD te):=
 ⟨qpS (he:=he.h)⟩
def zr {tA:TT3} {t1:TS3} {t2:TS3} {pos:Pos} {X:Cx} {c:Expr} {ba bb:List Stmt} (hc:jC3 X c tA) (ha:jB3 X ba t1) (hb:jB3 X bb t2):jS3 X (.If c ba bb pos) (za tA t1 t2):=
 ⟨qq2 (hc:=hc.h) (ha:=ha.h) (hb:=hb.h)⟩
def qet {X:Cx} {sts:List Stmt}:jB3 X sts VH:=
 ⟨qia ⟩
def qq {pos:Pos} {X:Cx} {i:Nat} {x:Str} (hN:X.N.Nodup) (hi:X.N[i]?=some x:=by rfl) (hx:Loc X.env.scope x:=by first|exact Or.inl rfl|exact Or.inr rfl) (hf:X.fn x=true\/X.env.scope.names.lookup x=some .local:=by first|exact .inl rfl|exact .inr rfl):jG3 X (.Name x pos) (gn3 i):=
 ⟨qkG (hN:=hN) (hi:=hi) (hx:=hx) (hf:=hf)⟩
def zC {X:Cx} :jGs3 X [] qO:=
 ⟨qpa ⟩
def qp {es:List Expr} {X:Cx} {tg:TG3} {tgs:M2} (h1:jG3 X e tg) (h2:jGs3 X es tgs) (hs:(assignEach (e::es) X.env).map (·.2)=assign e X.env::(assignEach es X.env).map (·.2):=by rfl):jGs3 X (e::es) (qj tg tgs):=
 ⟨ql6 (h1:=h1.h) (h2:=h2.h) (hs:=hs)⟩
def zB {pos:Pos} {es:List Expr} {X:Cx} {k:Nat} {tgs:M2} {n:Nat} (hc:X.calm=true) (h:jGs3 X es tgs) (hn:(assignEach es X.env).length=n:=by rfl) (hst:(assignEach es X.env).findIdx? (·.1)=none:=by rfl):jG3 X (.Tuple es k pos) (qN n tgs):=
 ⟨qpV (hc:=hc) (h:=h.h) (hn:=hn) (hst:=hst)⟩
def qgE {pos : Pos} {X : Cx} {o i : Expr} {to ti : TE3} (ho : jE3 X o to) (hi : jE3 X i ti) (ha : ∀ v,assign (.Subscript o i pos) X.env v = (do
      let ov←holding [v] (eval o X.env)
      let iv←holding [v,ov] (eval i X.env)
      standAt pos
      holding [v,ov,iv] (setItem ov iv v)
      release [v,ov,iv] []):=by intro _;rfl):jG3 X (.Subscript o i pos) (zF to ti):=
  ⟨qp3 (ho:=ho.h) (hi:=hi.h) (ha:=ha)⟩
def jA {te:TE3} {pos:Pos} {X:Cx} {tg e:Expr} {g:TG3} (he:jE3 X e te) (hg:jG3 X tg g) (hs:swapsWithSole [tg] e pos.line X.env=pure false:=by rfl) (hw:swappedStores [tg] e X.env=pure none:=by rfl)
  (h1:(assignEach [tg] X.env).map (·.2)=[assign tg X.env]:=by rfl):jS3 X (.Assign [tg] e pos) (qG te g):=
 ⟨qpo (he:=he.h) (hg:=hg.h) (hs:=hs) (hw:=hw) (h1:=h1)⟩
def qM {te:TE3} {pos:Pos} {X:Cx} (i:Nat) {x:Str} {e:Expr} {pos':Pos} (hN:X.N.Nodup) (he:jE3 X e te) (hi:X.N[i]?=some x:=by rfl) (hx:Loc X.env.scope x:=by first|exact Or.inl rfl|exact Or.inr rfl) (hs:swapsWith e (some (.Name x pos')) pos.line X.env=pure false:=by rfl) (hf:X.fn x=true\/X.env.scope.names.lookup x=some .local:=by first|exact .inl rfl|exact .inr rfl):jS3 X (.Assign [.Name x pos'] e pos) (qG te (gn3 i)):=
 ⟨qoQ (i:=i) (hN:=hN) (he:=he.h) (hi:=hi) (hx:=hx) (hs:=hs) (hf:=hf)⟩
def VS {pos:Pos} {X:Cx} {i j:Nat} {x y:Str} {a b:Expr} {tt:TA3} {px py pt:Pos} {kt k2 pt2} (hc:X.calm=true) (hN:X.N.Nodup) (hi:X.N[i]?=some x) (hj:X.N[j]?=some y) (hij:i≠j)
  (hx:X.env.scope.names.lookup x=some .local) (hy:X.env.scope.names.lookup y=some .local) (ha:jA3 X [a,b] tt)
  (hw:swappedStores [.Tuple [.Name x px,.Name y py] kt pt] (.Tuple [a,b] k2 pt2) X.env=pure (some [x,y]):=by rfl)
  (hs:swapsWithSole [.Tuple [.Name x px,.Name y py] kt pt] (.Tuple [a,b] k2 pt2) pos.line X.env=pure false:=by rfl):jS3 X (.Assign [.Tuple [.Name x px,.Name y py] kt pt] (.Tuple [a,b] k2 pt2) pos) (jU i j tt):=
 ⟨qoU (hc:=hc) (hN:=hN) (hi:=hi) (hj:=hj) (hij:=hij) (hx:=hx) (hy:=hy) (ha:=ha.h) (hw:=hw) (hs:=hs)⟩
def JP {te:TE3} {X:Cx} {tg:Expr} {l:Expr} (hl:jE3 X l te):jI3 X tg l (YQ te):=
 ⟨qoF (hl:=hl.h)⟩
def qU {t:TA3} {pos:Pos} {a:Expr} {X:Cx} {tg:Expr} {p:Pos} (hg:Gl X "range") (hm:X.mg "range" = none) (ha:jA3 X [a] t) (hs:starEach [a] X.env=[(false,eval a X.env)]:=by rfl) (h1:∀ τ G q,t τ G q->t τ G λxs G=>q xs G/\xs.length=1):jI3 X tg (.Call (.Name "range" p) [a] [] pos) (zE t):=
 ⟨qdO (hg:=hg) (hm:=hm) (ha:=ha.h) (hs:=hs) (h1:=h1)⟩
def VL {t:TA3} {pos:Pos} {a:Expr} {b:Expr} {X:Cx} {tg:Expr} {p:Pos} (hg:Gl X "range") (hm:X.mg "range" = none) (ha:jA3 X [a,b] t) (hs:starEach [a,b] X.env=[(false,eval a X.env),(false,eval b X.env)]:=by rfl) (hs2:starEach [b] X.env=[(false,eval b X.env)]:=by rfl) (h1:∀ τ G q,t τ G q->t τ G λxs G=>q xs G/\xs.length=2):jI3 X tg (.Call (.Name "range" p) [a,b] [] pos) (zE t):=
 ⟨qeq (hg:=hg) (hm:=hm) (ha:=ha.h) (hs:=hs) (hs2:=hs2) (h1:=h1)⟩
def JK {pos:Pos} {X:Cx} {tg:Expr} {iter:Expr} {body:List Stmt} {wi:TI3} {g:TG3} {tb:TS3} (hp:PassesOwn (model X.prog X.w) X.A X.env X.xe) (hc:X.calm=true) (hi:jI3 X tg iter wi) (hg:jG3 X tg g) (hb:jB3 X body tb)
  (hs:∀ x,foldedSetIterable iter X.env x=pure x:=by intro _;rfl):jS3 X (.For tg iter body [] pos) (XY wi g tb):=
 ⟨qpJ (hp:=hp) (hc:=hc) (hi:=hi.h) (hg:=hg.h) (hb:=hb.h) (hs:=hs)⟩
def qaP {pos:Pos} {X:Cx} {c:Expr} {body:List Stmt} {tc:TT3} {tb:TS3} (hp:PassesOwn (model X.prog X.w) X.A X.env X.xe) (hc:jC3 X c tc) (hb:jB3 X body tb):jS3 X (.While c body [] pos) (S0 tc tb):=
 ⟨qh4 (hp:=hp) (hc:=hc.h) (hb:=hb.h)⟩
def qg {t:TA3} {pos:Pos} {es:List Expr} {X:Cx} {k:Nat} {x:Str} {p:Pos} {sp:Sp3} (F:Fn3 X.prog X.w X.K X.mg X.base k x sp) (hr:Room k X.A) (hg:Gl X x) (ha:jA3 X (e::es) t) (hdb:(x==("__debug__" : Str))=false:=by decide)
  (he:starEach (e::es) X.env=(false,eval e X.env)::starEach es X.env:=by rfl) (hpl:(backTo pos (starEach es X.env)).any (·.1)=false:=by rfl):jE3 X (.Call (.Name x p) (e::es) [] pos) (cb3 sp t):=
 ⟨qlV (F:=F) (hr:=hr) (hg:=hg) (ha:=ha.h) (hdb:=hdb) (he:=he) (hpl:=hpl)⟩
def YE {X:Cx} {elt tg iter:Expr} {ifs:List Expr} {scope:Scope} {pos:Pos} (N':List Str) (m:List (Option Nat)) {wi:TI3} {g:TG3} {tif:TT3} {te:TE3} (hc:X.calm=true) (hi:jI3 X tg iter wi)
  (hg:∀ s H fp,jG3 (qt X N' scope s H fp) tg g) (hf:∀ s H fp,jF3 (qt X N' scope s H fp) ifs tif) (he:∀ s H fp,jE3 (qt X N' scope s H fp) elt te)
  (hsc:qbC X.env.scope scope=true) (hcap:ET X.N N' scope m=true) (hs:∀ x,foldedSetIterable iter X.env x=pure x:=by intro _;rfl):jE3 X (.ListComp elt [⟨tg,iter,ifs,0⟩] scope pos) (lc3 wi g tif te m):=
 ⟨qrd (N':=N') (m:=m) (hc:=hc) (hi:=hi.h) (hg:=(λs H fp=>(hg s H fp).h)) (hf:=(λs H fp=>(hf s H fp).h)) (he:=(λs H fp=>(he s H fp).h)) (hsc:=hsc) (hcap:=hcap) (hs:=hs)⟩
def zQ {X:Cx}:jF3 X [] tt3:=
 ⟨qpX ⟩
def qcd {X:Cx} {c:Expr} {t:TT3} (h:jC3 X c t):jF3 X [c] t:=
 ⟨qov (h:=h.h)⟩
def qj5 {t:TA3} {pos:Pos} {es:List Expr} {a:Expr} {b:Expr} {X:Cx} {p pt:Pos} {k1:Nat} (hg:Gl X "zip") (hm:X.mg "zip" = none) (ha:jA3 X [a,b] t) (hs:starEach [a,b] X.env=[(false,eval a X.env),(false,eval b X.env)]:=by rfl) (hs2:starEach [b] X.env=[(false,eval b X.env)]:=by rfl):jI3 X (.Tuple es k1 pt) (.Call (.Name "zip" p) [a,b] [] pos) (qed t):=
 ⟨qoV (hg:=hg) (hm:=hm) (ha:=ha.h) (hs:=hs) (hs2:=hs2)⟩
def qda {t:TA3} {pos:Pos} {es:List Expr} {a:Expr} {X:Cx} {p pt:Pos} {k1:Nat} (hg:Gl X "enumerate") (hm:X.mg "enumerate" = none) (ha:jA3 X [a] t) (hs:starEach [a] X.env=[(false,eval a X.env)]:=by rfl):jI3 X (.Tuple es k1 pt) (.Call (.Name "enumerate" p) [a] [] pos) (SN t):=
 ⟨qlK (hg:=hg) (hm:=hm) (ha:=ha.h) (hs:=hs)⟩
def qbL {te:TE3} {pos:Pos} {e:Expr} {X:Cx} (i:Nat) {x:Str} {pos':Pos} (hN:X.N.Nodup) (he:jE3 X e te) (hi:X.N[i]?=some x:=by rfl) (hx:Loc X.env.scope x:=by first|exact Or.inl rfl|exact Or.inr rfl) (hf:X.fn x=true\/X.env.scope.names.lookup x=some .local:=by first|exact .inl rfl|exact .inr rfl):jS3 X (.AugAssign (.Name x pos') .Add e pos) (VI i (iI (·+·)) te):=
 ⟨qdV (i:=i) (hN:=hN) (he:=he.h) (hi:=hi) (hx:=hx) (hf:=hf)⟩
def UF {X:Cx} {py spos:Pos} {elt tg iter:Expr} {ifs:List Expr} {scope:Scope} {pos:Pos} {y:Str} (i:Nat) (N':List Str) (m:List (Option Nat)) {wi:TI3} {g:TG3} {tif:TT3} {te:TE3} (hc:X.calm=true) (hN:X.N.Nodup) (hi:jI3 X tg iter wi)
  (hg:∀ s H fp,jG3 (qt X N' scope s H fp) tg g) (hf:∀ s H fp,jF3 (qt X N' scope s H fp) ifs tif) (he:∀ s H fp,jE3 (qt X N' scope s H fp) elt te)
  (hsc:qbC X.env.scope scope=true) (hcap:ET X.N N' scope m=true) (hl:X.env.scope.names.lookup y=some .local) (hsw:swapsWith (.ListComp elt [⟨tg,iter,ifs,0⟩] scope pos) (some (.Name y py)) spos.line X.env=pure true) (hiy:X.N[i]?=some y:=by rfl) (hs:∀ x,foldedSetIterable iter X.env x=pure x:=by intro _;rfl):jS3 X (.Assign [.Name y py] (.ListComp elt [⟨tg,iter,ifs,0⟩] scope pos) spos) (qG (lc3 wi g tif te m) (gn3 i)):=
 ⟨qg8 (i:=i) (N':=N') (m:=m) (hc:=hc) (hN:=hN) (hi:=hi.h) (hg:=(λs H fp=>(hg s H fp).h)) (hf:=(λs H fp=>(hf s H fp).h)) (he:=(λs H fp=>(he s H fp).h)) (hsc:=hsc) (hcap:=hcap) (hl:=hl) (hsw:=hsw) (hiy:=hiy) (hs:=hs)⟩
def jpt {X:Cx} {e:Expr} {t:TT3} (h:jW3 X e t):jC3 X e t:=⟨PW.pt h.h⟩
def qC {P:Program} {w:World} {K:Frg} {mg:Str->Option Value} {base:Heap} {x qual:Str} {st:Stmt} {f:Addr} {fd:FuncData} {N ps:List Str} {k:Nat} {sp:Sp3} {t3:TS3} (F:Fun K x qual st f fd) (S:FnScope N ps (qk st)) (bd:zi K fd ps []) (hm:mg x=some (.ref f))
  (body:∀ (cdv:Value) (A:Around) (outer:List Env) (s:Shared) (H:Hp) (E:XK),Room k (A.deeper (envOfC qual (qk st) s.heap.objs.size f cdv)) ->
   jB3 (qdE CX0 P w K mg base N qual (qk st) f cdv A outer s H E).nox (jM st) t3)
  (read:∀ ts G q,sp ts G q->ts.length=ps.length/\t3 { nx:=λ_ G'=>q .non G',rt:=q } (qm N ts) G):Fn3 P w K mg base (k+1) x sp:=
 qkN F S bd hm (λcdv A outer s H E hr=>(body cdv A outer s H E hr).h) read
def qeg {P:Program} {w:World} {K:Frg} {mg:Str->Option Value} {base:Heap} {x qual:Str} {st:Stmt} {f:Addr} {fd:FuncData} {N ps:List Str} {k:Nat} {sp:Sp3} {t3:TS3} (F:Fun K x qual st f fd) (S:FnScope N ps (qk st))
  (body:∀ (cdv:Value) (A:Around) (outer:List Env) (s:Shared) (H:Hp) (E:XK),Room k (A.deeper (envOfC qual (qk st) s.heap.objs.size f cdv)) ->
   jB3 (qdE CX0 P w K mg base N qual (qk st) f cdv A outer s H E).nox (jM st) t3)
  (read:∀ ts G q,sp ts G q->ts.length=ps.length/\t3 { nx:=λ_ G'=>q .non G',rt:=q } (qm N ts) G):FnOk P w K mg base CX0 (k+1) f fd ps (lSp K sp):=
 qhV F S (λcdv A outer s H E hr=>(body cdv A outer s H E hr).h) read
open PySem.SeqAt
def Ex (G G':Gp):Prop:=∀ b o,G b=some o->G' b=some o
def Ex.refl {G:Gp}:Ex G G:=λ_ _ e=>e
def Ex.trans {G G1 G2:Gp} (a:Ex G G1) (b:Ex G1 G2):Ex G G2:=λx o e=>b x o (a x o e)
def ZP {G:Gp} {p:Addr} {o:O} (hp:G p=none):Ex G (gu G p o):=λb ob e=>by
 rw [jL (by rintro rfl;rw [hp] at e;cases e)];exact e
mutual
inductive Dp (G:Gp):T->PyData->Prop
 |non:Dp G .non .none
 |bl (b:Bool):Dp G (.bl b) (.bool b)
 |int (i:Int):Dp G (.int i) (.int i)
 |str (x:Str):Dp G (.str x) (.str x)
 |tup {xs:List T} {ds:List PyData}:Dps G xs ds->Dp G (.tup xs) (.tuple ds)
 |lst {p:Addr} {xs:List T} {ds:List PyData}:zo G p=some xs->Dps G xs ds->Dp G (.ref p) (.list ds)
inductive Dps (G:Gp):List T->List PyData->Prop
 |nil:Dps G [] []
 |cons {x:T} {d:PyData} {xs:List T} {ds:List PyData}:Dp G x d->Dps G xs ds->Dps G (x::xs) (d::ds)
end
mutual
inductive DV (K:Frg) (H:Hp):V->PyData->Prop
 |non:DV K H .non .none
 |bl (b:Bool):DV K H (.bl b) (.bool b)
 |int (i:Int):DV K H (.int i) (.int i)
 |str (x:Str):DV K H (.str x) (.str x)
 |tup {a:Addr} {vs:List V} {ds:List PyData}:SqT K H a vs->DVs K H vs ds->DV K H (.ref a) (.tuple ds)
 |lst {a:Addr} {vs:List V} {ds:List PyData}:SqL K H a vs->DVs K H vs ds->DV K H (.ref a) (.list ds)
inductive DVs (K:Frg) (H:Hp):List V->List PyData->Prop
 |nil:DVs K H [] []
 |cons {x:V} {d:PyData} {xs:List V} {ds:List PyData}:DV K H x d->DVs K H xs ds->DVs K H (x::xs) (d::ds)
end
mutual
def Dp.dv {K:Frg} {G:Gp} {H:Hp} (hr:HR K G H):∀ {x:T} {d:PyData} {v:V},Dp G x d->Rp K H x v->DV K H v d
 |_,_,_,.non,.non=>.non
 |_,_,_,.bl b,.bl _=>.bl b
 |_,_,_,.int i,.int _=>.int i
 |_,_,_,.str x,.str _=>.str x
 |_,_,_,.tup h,.tup hs rs=>.tup hs (Dps.dv hr h rs)
 |_,_,_,.lst g h,r=>by
  cases r;obtain ⟨_,hs,rs⟩:=jo hr g;exact .lst hs (Dps.dv hr h rs)
def Dps.dv {K:Frg} {G:Gp} {H:Hp} (hr:HR K G H):∀ {x:List T} {d:List PyData} {v:List V},Dps G x d->Rps K H x v->DVs K H v d
 |_,_,_,.nil,.nil=>.nil
 |_,_,_,.cons a b,.cons c d=>.cons (Dp.dv hr a c) (Dps.dv hr b d)
end
mutual
def JC:PyData->PyData->Option Bool
 |.none,.none=>some true
 |.bool a,.bool b=>some (a==b)
 |.int a,.int b=>some (a==b)
 |.str a,.str b=>some (a==b)
 |.list xs,.list ys=>U0 xs ys
 |.tuple xs,.tuple ys=>U0 xs ys
 |_,_=>none
def U0:List PyData->List PyData->Option Bool
 |[],[]=>some true
 |x::xs,y::ys=>match JC x y,U0 xs ys with|some a,some b=>some (a&&b)|_,_=>none
 |_,_=>some false
end
mutual
def dpt:PyData->Nat
 |.list xs=>qdF xs+1
 |.tuple xs=>qdF xs+1
 |_=>0
def qdF:List PyData->Nat
 |[]=>0
 |x::xs=>max (dpt x) (qdF xs)
end
section
variable {X:Cx} {pins:List (Addr×Obj)} {σ:L2.St} {H:Hp} {s:Shared}
mutual
def DV.inj (I:Inv X pins σ H s):∀ {v:V} {d e:PyData},DV X.K H v d->DV X.K H v e->d=e
 |_,_,_,.non,.non=>rfl
 |_,_,_,.bl _,.bl _=>rfl
 |_,_,_,.int _,.int _=>rfl
 |_,_,_,.str _,.str _=>rfl
 |_,_,_,.tup h hs,.tup k ks=>by
  have:=I.tuple_inj h k;subst this;rw [DVs.inj I hs ks]
 |_,_,_,.lst h hs,.lst k ks=>by
  have:=I.list_inj h k;subst this;rw [DVs.inj I hs ks]
 |_,_,_,.tup h hs,.lst k ks=>by
  obtain ⟨i1,_,p1,_⟩:=I.tuple h;obtain ⟨i2,_,p2,_⟩:=I.list k;exact absurd rfl (ne_of_list_tuple p2.isList (show s.heap.IsTuple _ i1.toArray from p1))
 |_,_,_,.lst k ks,.tup h hs=>by
  obtain ⟨i1,_,p1,_⟩:=I.tuple h;obtain ⟨i2,_,p2,_⟩:=I.list k;exact absurd rfl (ne_of_list_tuple p2.isList (show s.heap.IsTuple _ i1.toArray from p1))
def DVs.inj (I:Inv X pins σ H s):∀ {v:List V} {d e:List PyData},DVs X.K H v d->DVs X.K H v e->d=e
 |_,_,_,.nil,.nil=>rfl
 |_,_,_,.cons a b,.cons c d=>by rw [DV.inj I a c,DVs.inj I b d]
end
mutual
def LI:∀ {d:PyData} {b:Bool},JC d d=some b->b=true
 |.none,_,h=>by simp [JC] at h;exact h
 |.bool _,_,h=>by simp [JC] at h;exact h
 |.int _,_,h=>by simp [JC] at h;exact h
 |.str _,_,h=>by simp [JC] at h;exact h
 |.list xs,_,h=>by simp only [JC] at h;exact WR h
 |.tuple xs,_,h=>by simp only [JC] at h;exact WR h
 |.dict _,_,h=>by simp [JC] at h
def WR:∀ {d:List PyData} {b:Bool},U0 d d=some b->b=true
 |[],_,h=>by simp [U0] at h;exact h
 |x::xs,b,h=>by
  simp only [U0] at h;split at h
  ·rename_i a c e1 e2;rw [LI e1,WR e2] at h;simpa using h.symm
  ·cases h
end
def VR:∀ {xs ys:List PyData} {b:Bool},U0 xs ys=some b->xs.length=ys.length->∃ e:Nat->Bool,(∀ (j:Nat) x y,xs[j]?=some x->ys[j]?=some y->JC x y=some (e j))/\b=(List.range xs.length).all e
 |[],[],b,h,_=>by simp [U0] at h;exact ⟨λ_=>true,by simp,by simp [h]⟩
 |x::xs,y::ys,b,h,hl=>by
  simp only [U0] at h;split at h
  ·rename_i a c e1 e2;obtain ⟨e,h1,h2⟩:=VR e2 (by simpa using hl);refine ⟨λj=>match j with|0=>a|j+1=>e j,λj u v hu hv=>?_,?_⟩
   ·cases j with
    |zero=>simp at hu hv;subst hu;subst hv;exact e1
    |succ j=>exact h1 j u v (by simpa using hu) (by simpa using hv)
   ·rw [length_cons,List.range_succ_eq_map,List.all_cons,List.all_map];cases h;rw [h2];rfl
  ·cases h
 |[],_::_,_,_,hl=>by simp at hl
 |_::_,[],_,_,hl=>by simp at hl
def V4:∀ {xs ys:List PyData} {b:Bool},U0 xs ys=some b->xs.length≠ys.length->b=false/\∃ e:Nat->Bool,∀ (j:Nat) x y,xs[j]?=some x->ys[j]?=some y->JC x y=some (e j)
 |[],[],_,_,hl=>by simp at hl
 |[],_::_,b,h,_=>by simp [U0] at h;exact ⟨h,λ_=>true,by simp⟩
 |_::_,[],b,h,_=>by simp [U0] at h;exact ⟨h,λ_=>true,by simp⟩
 |x::xs,y::ys,b,h,hl=>by
  simp only [U0] at h;split at h
  ·rename_i a c e1 e2;obtain ⟨h0,e,h1⟩:=V4 e2 (by simpa using hl);subst h0;refine ⟨by simpa using h.symm,λj=>match j with|0=>a|j+1=>e j,λj u v hu hv=>?_⟩;cases j with
   |zero=>simp at hu hv;subst hu;subst hv;exact e1
   |succ j=>exact h1 j u v (by simpa using hu) (by simpa using hv)
  ·cases h
def DR:∀ {xs:List PyData} {x:PyData},x∈xs->dpt x<=qdF xs
 |[],_,h=>by simp at h
 |y::ys,x,h=>by
  simp only [qdF];rcases mem_cons.mp h with e|e
  ·subst e;omega
  ·have:=DR e;omega
def DVs.get {K:Frg} {H:Hp}:∀ {xs:List V} {ds:List PyData} {i:Nat} {x:V},DVs K H xs ds->xs[i]?=some x->∃ d,ds[i]?=some d/\DV K H x d
 |_,_,_,_,.nil,e=>by simp at e
 |_,_,0,_,.cons r _,e=>by simp at e;subst e;exact ⟨_,rfl,r⟩
 |_,_,i+1,x,.cons _ t,e=>by
  obtain ⟨u,h1,h2⟩:=DVs.get (i:=i) (x:=x) t (by simpa using e);exact ⟨u,by simpa using h1,h2⟩
def DVs.length {K:Frg} {H:Hp}:∀ {xs:List V} {ds:List PyData},DVs K H xs ds->xs.length=ds.length
 |_,_,.nil=>rfl
 |_,_,.cons _ b=>by simp [DVs.length b]
def VV {vs:List V} {us:List Value} (r:jx vs us) {j:Nat} (h:j<us.toArray.size):∃ v,vs[j]?=some v/\jT v us.toArray[j]:=by
 have hj:j<vs.length:=by rw [r.length];simpa using h
 obtain ⟨u,hu,ru⟩:=r.get (getElem?_eq_getElem hj);refine ⟨vs[j],getElem?_eq_getElem hj,?_⟩;have hj2:j<us.length:=by simpa using h
 rw [getElem?_eq_getElem hj2] at hu;have:us[j]=u:=Option.some.inj hu;simpa [this] using ru
def T1 (I:Inv X pins σ H s):∀ (n:Nat) {v u:V} {d e:PyData} {b:Bool} {x y:Value} {A:Around},DV X.K H v d->DV X.K H u e->JC d e=some b->dpt d<=n->A.units+n<cLine->jT v x->jT u y ->
  RcAt A s x y b/\EqAt A s x y b:=by
 intro n;induction n with
 |zero=>
  intro v u d e b x y A hv hu h hd hn rx ry;cases hv with
  |non=>cases hu<;>simp [JC] at h;subst h;cases (show x=Value.none from rx);cases (show y=Value.none from ry);exact ⟨RcAt.none_none,EqAt.same _⟩
  |bl a=>cases hu<;>simp [JC] at h;subst h;cases (show x=Value.bool _ from rx);cases (show y=Value.bool _ from ry);exact ⟨RcAt.bool_bool _ _,EqAt.bool_bool _ _⟩
  |int a=>cases hu<;>simp [JC] at h;subst h;obtain ⟨t,rfl⟩:=(show ∃ t,x=Value.int _ t from rx);obtain ⟨t',rfl⟩:=(show ∃ t,y=Value.int _ t from ry);exact ⟨RcAt.int_int _ _ _ _,EqAt.int_int _ _ _ _⟩
  |str a=>cases hu<;>simp [JC] at h;subst h;obtain ⟨t,rfl⟩:=(show ∃ t,x=Value.str _ t from rx);obtain ⟨t',rfl⟩:=(show ∃ t,y=Value.str _ t from ry);exact ⟨RcAt.str_str _ _ _ _,EqAt.str_str _ _ _ _⟩
  |tup=>simp [dpt] at hd
  |lst=>simp [dpt] at hd
 |succ n ih=>
  intro v u d e b x y A hv hu h hd hn rx ry;have fin:∀ {l l':Addr} {k:Bool},x=.ref l->y=.ref l'->v=.ref l->u=.ref l'->b=k->RcAt A s x y k->RcAt A s x y b/\EqAt A s x y b:=by
   rintro l l' k rfl rfl rfl rfl rfl rc;refine ⟨rc,?_⟩;by_cases hll:l=l'
   ·subst hll;have:=DV.inj I hv hu;subst this;rw [LI h];exact EqAt.same _
   ·exact EqAt.of_refs hll rc
  cases hv with
  |non=>cases hu<;>simp [JC] at h;subst h;cases (show x=Value.none from rx);cases (show y=Value.none from ry);exact ⟨RcAt.none_none,EqAt.same _⟩
  |bl a=>cases hu<;>simp [JC] at h;subst h;cases (show x=Value.bool _ from rx);cases (show y=Value.bool _ from ry);exact ⟨RcAt.bool_bool _ _,EqAt.bool_bool _ _⟩
  |int a=>cases hu<;>simp [JC] at h;subst h;obtain ⟨t,rfl⟩:=(show ∃ t,x=Value.int _ t from rx);obtain ⟨t',rfl⟩:=(show ∃ t,y=Value.int _ t from ry);exact ⟨RcAt.int_int _ _ _ _,EqAt.int_int _ _ _ _⟩
  |str a=>cases hu<;>simp [JC] at h;subst h;obtain ⟨t,rfl⟩:=(show ∃ t,x=Value.str _ t from rx);obtain ⟨t',rfl⟩:=(show ∃ t,y=Value.str _ t from ry);exact ⟨RcAt.str_str _ _ _ _,EqAt.str_str _ _ _ _⟩
  |tup hq hs=>
   cases hu with
   |tup kq ks=>
    rename_i a1 vs1 ds1 a2 vs2 ds2;simp only [JC] at h;obtain ⟨i1,r1,p1,z1⟩:=I.tuple hq;obtain ⟨i2,r2,p2,z2⟩:=I.tuple kq;have l1:=hs.length;have l2:=ks.length;have m1:=r1.length;have m2:=r2.length;have el:∀ (e:Nat->Bool),(∀ (j:Nat) x y,ds1[j]?=some x->ds2[j]?=some y->JC x y=some (e j))->∀ j (h1:j<i1.toArray.size) (h2:j<i2.toArray.size),EqAt A.in1 s i1.toArray[j] i2.toArray[j] (e j):=λe he j h1 h2=>by
     obtain ⟨w1,g1,q1⟩:=VV r1 h1;obtain ⟨w2,g2,q2⟩:=VV r2 h2;obtain ⟨d1,f1,dv1⟩:=hs.get g1;obtain ⟨d2,f2,dv2⟩:=ks.get g2;have:=DR (mem_of_getElem? f1);exact (ih dv1 dv2 (he j d1 d2 f1 f2) (by simp only [dpt] at hd;omega) (show A.units+1+n<cLine by omega) q1 q2).2
    cases (show x=Value.ref a1 from rx);cases (show y=Value.ref a2 from ry);by_cases hl:ds1.length=ds2.length
    ·obtain ⟨e,he,hb⟩:=VR h hl;refine fin rfl rfl rfl rfl (k:=(List.range (min i1.toArray.size i2.toArray.size)).all e&&i1.toArray.size==i2.toArray.size) ?_ (RcAt.tuples (show s.heap.IsTuple a1 i1.toArray from p1) (show s.heap.IsTuple a2 i2.toArray from p2) (by omega) (el e he));have e1:i1.toArray.size=ds1.length:=by rw [size_toArray];omega
     have e2:i2.toArray.size=ds1.length:=by rw [size_toArray];omega
     rw [e1,e2,hb];simp
    ·obtain ⟨hb,e,he⟩:=V4 h hl;refine fin rfl rfl rfl rfl (k:=(List.range (min i1.toArray.size i2.toArray.size)).all e&&i1.toArray.size==i2.toArray.size) ?_ (RcAt.tuples (show s.heap.IsTuple a1 i1.toArray from p1) (show s.heap.IsTuple a2 i2.toArray from p2) (by omega) (el e he));have e1:i1.toArray.size≠i2.toArray.size:=by rw [size_toArray,size_toArray];omega
     rw [hb];simp [e1];intro;omega
   |_=>simp [JC] at h
  |lst hq hs=>
   cases hu with
   |lst kq ks=>
    rename_i a1 vs1 ds1 a2 vs2 ds2;simp only [JC] at h;obtain ⟨i1,r1,p1,z1⟩:=I.list hq;obtain ⟨i2,r2,p2,z2⟩:=I.list kq;have l1:=hs.length;have l2:=ks.length;have m1:=r1.length;have m2:=r2.length;have el:∀ (e:Nat->Bool),(∀ (j:Nat) x y,ds1[j]?=some x->ds2[j]?=some y->JC x y=some (e j))->∀ j (h1:j<i1.toArray.size) (h2:j<i2.toArray.size),EqAt A.in1 s i1.toArray[j] i2.toArray[j] (e j):=λe he j h1 h2=>by
     obtain ⟨w1,g1,q1⟩:=VV r1 h1;obtain ⟨w2,g2,q2⟩:=VV r2 h2;obtain ⟨d1,f1,dv1⟩:=hs.get g1;obtain ⟨d2,f2,dv2⟩:=ks.get g2;have:=DR (mem_of_getElem? f1);exact (ih dv1 dv2 (he j d1 d2 f1 f2) (by simp only [dpt] at hd;omega) (show A.units+1+n<cLine by omega) q1 q2).2
    cases (show x=Value.ref a1 from rx);cases (show y=Value.ref a2 from ry);by_cases hl:ds1.length=ds2.length
    ·obtain ⟨e,he,hb⟩:=VR h hl;refine fin rfl rfl rfl rfl (k:=(List.range i1.toArray.size).all e) ?_ (RcAt.lists p1.isList p2.isList (by rw [size_toArray,size_toArray];omega) (by omega) (el e he));have e1:i1.toArray.size=ds1.length:=by rw [size_toArray];omega
     rw [e1,hb]
    ·obtain ⟨hb,e,he⟩:=V4 h hl;refine fin rfl rfl rfl rfl (k:=false) hb (RcAt.lists_lengths p1.isList p2.isList (by rw [size_toArray,size_toArray];simp;omega) (by omega))
   |_=>simp [JC] at h
def qhr (I:Inv X pins σ H s) {n:Nat} {v u:V} {d e:PyData} {b:Bool} {x y:Value} {A:Around} (hv:DV X.K H v d) (hu:DV X.K H u e) (h:JC d e=some b) (hd:dpt d<=n+1) (hn:A.units+(n+1)<cLine) (rx:jT v x) (ry:jT u y) (hs:dpt d≠0):RcNeAt A s x y (!b):=by
 cases hv with
 |tup hq hs'=>
  cases hu with
  |tup kq ks=>
   rename_i a1 vs1 ds1 a2 vs2 ds2;simp only [JC] at h;obtain ⟨i1,r1,p1,z1⟩:=I.tuple hq;obtain ⟨i2,r2,p2,z2⟩:=I.tuple kq;have l1:=hs'.length;have l2:=ks.length;have m1:=r1.length;have m2:=r2.length;have el:∀ (e:Nat->Bool),(∀ (j:Nat) x y,ds1[j]?=some x->ds2[j]?=some y->JC x y=some (e j))->∀ j (h1:j<i1.toArray.size) (h2:j<i2.toArray.size),EqAt A.in1 s i1.toArray[j] i2.toArray[j] (e j):=λe he j h1 h2=>by
    obtain ⟨w1,g1,q1⟩:=VV r1 h1;obtain ⟨w2,g2,q2⟩:=VV r2 h2;obtain ⟨d1,f1,dv1⟩:=hs'.get g1;obtain ⟨d2,f2,dv2⟩:=ks.get g2;have:=DR (mem_of_getElem? f1);exact (T1 I n dv1 dv2 (he j d1 d2 f1 f2) (by simp only [dpt] at hd;omega) (show A.units+1+n<cLine by omega) q1 q2).2
   cases (show x=Value.ref a1 from rx);cases (show y=Value.ref a2 from ry);by_cases hl:ds1.length=ds2.length
   ·obtain ⟨e,he,hb⟩:=VR h hl;have:=RcNeAt.tuples (show s.heap.IsTuple a1 i1.toArray from p1) (show s.heap.IsTuple a2 i2.toArray from p2) (A:=A) (by omega) (el e he);have e1:i1.toArray.size=ds1.length:=by rw [size_toArray];omega
    have e2:i2.toArray.size=ds1.length:=by rw [size_toArray];omega
    rw [e1,e2] at this;rw [hb];simpa using this
   ·obtain ⟨hb,e,he⟩:=V4 h hl;have:=RcNeAt.tuples (show s.heap.IsTuple a1 i1.toArray from p1) (show s.heap.IsTuple a2 i2.toArray from p2) (A:=A) (by omega) (el e he);have e1:(i1.toArray.size==i2.toArray.size)=false:=by rw [size_toArray,size_toArray];simp;omega
    rw [e1] at this;rw [hb];simpa using this
  |_=>simp [JC] at h
 |lst hq hs'=>
  cases hu with
  |lst kq ks=>
   rename_i a1 vs1 ds1 a2 vs2 ds2;simp only [JC] at h;obtain ⟨i1,r1,p1,z1⟩:=I.list hq;obtain ⟨i2,r2,p2,z2⟩:=I.list kq;have l1:=hs'.length;have l2:=ks.length;have m1:=r1.length;have m2:=r2.length;have el:∀ (e:Nat->Bool),(∀ (j:Nat) x y,ds1[j]?=some x->ds2[j]?=some y->JC x y=some (e j))->∀ j (h1:j<i1.toArray.size) (h2:j<i2.toArray.size),EqAt A.in1 s i1.toArray[j] i2.toArray[j] (e j):=λe he j h1 h2=>by
    obtain ⟨w1,g1,q1⟩:=VV r1 h1;obtain ⟨w2,g2,q2⟩:=VV r2 h2;obtain ⟨d1,f1,dv1⟩:=hs'.get g1;obtain ⟨d2,f2,dv2⟩:=ks.get g2;have:=DR (mem_of_getElem? f1);exact (T1 I n dv1 dv2 (he j d1 d2 f1 f2) (by simp only [dpt] at hd;omega) (show A.units+1+n<cLine by omega) q1 q2).2
   cases (show x=Value.ref a1 from rx);cases (show y=Value.ref a2 from ry);by_cases hl:ds1.length=ds2.length
   ·obtain ⟨e,he,hb⟩:=VR h hl;have:=RcNeAt.lists p1.isList p2.isList (A:=A) (by rw [size_toArray,size_toArray];omega) (by omega) (el e he);have e1:i1.toArray.size=ds1.length:=by rw [size_toArray];omega
    rw [e1] at this;rw [hb];exact this
   ·obtain ⟨hb,e,he⟩:=V4 h hl;rw [hb];exact RcNeAt.lists_lengths p1.isList p2.isList (by rw [size_toArray,size_toArray];simp;omega) (by omega)
  |_=>simp [JC] at h
 |_=>simp [dpt] at hs
def qiZ (K:Frg) (neg:Bool):R2:=λx y H Q=>∃ d e b,DV K H x d/\DV K H y e/\JC d e=some b/\dpt d<=40/\dpt d≠0/\Q (.bl (if neg then !b else b)) H
def qmM (hu:X.A.units+64<cLine):OpR X (compareOp .Eq) (qiZ X.K false):=by
 intro pins s σ H x y v u Q I rx ry h;obtain ⟨d,e,b,hx,hy,hb,hd,_,q⟩:=h;exact (T1 I 40 hx hy hb hd (by omega) rx ry).1 X.prog X.w X.xe _ ⟨.bl b,H,I,rfl,q⟩
def qjV (hu:X.A.units+64<cLine):OpR X (compareOp .NotEq) (qiZ X.K true):=by
 intro pins s σ H x y v u Q I rx ry h;obtain ⟨d,e,b,hx,hy,hb,hd,hs,q⟩:=h;exact qhr I (n:=40) hx hy hb (by omega) (by omega) rx ry hs X.prog X.w X.xe _ ⟨.bl (!b),H,I,rfl,q⟩
end
def zh (neg:Bool):R3:=λx y G q=>match qZ x y with
 |some k=>q (.bl (if neg then !k else k)) G
 |none=>∃ d e b,Dp G x d/\Dp G y e/\JC d e=some b/\dpt d<=40/\dpt d≠0/\q (.bl (if neg then !b else b)) G
def qJ {K:Frg}:RA K (zh false) (λx y H Q=>rEq x y H Q\/qiZ K false x y H Q):=λx y v u G H q Q hr rx ry h af=>by
 unfold zh at h;split at h
 ·rename_i k e;obtain ⟨h1,h2⟩:=qaO rx ry e;refine .inl ⟨h1,?_⟩;rw [h2];exact af _ G h _ H (.bl _) hr Kp.refl
 ·obtain ⟨d,e,b,h1,h2,h3,h4,h5,h6⟩:=h;exact .inr ⟨d,e,b,h1.dv hr rx,h2.dv hr ry,h3,h4,h5,af _ G h6 _ H (.bl _) hr Kp.refl⟩
def RD {K:Frg}:RA K (zh true) (λx y H Q=>rNe x y H Q\/qiZ K true x y H Q):=λx y v u G H q Q hr rx ry h af=>by
 unfold zh at h;split at h
 ·rename_i k e;obtain ⟨h1,h2⟩:=qaO rx ry e;refine .inl ⟨h1,?_⟩;rw [h2];exact af _ G h _ H (.bl _) hr Kp.refl
 ·obtain ⟨d,e,b,h1,h2,h3,h4,h5,h6⟩:=h;exact .inr ⟨d,e,b,h1.dv hr rx,h2.dv hr ry,h3,h4,h5,af _ G h6 _ H (.bl _) hr Kp.refl⟩
def ze {X:Cx} (hu:X.A.units+64<cLine):OpR X (compareOp .Eq) (λx y H Q=>rEq x y H Q\/qiZ X.K false x y H Q):=qoJ.or (qmM hu)
def LY {X:Cx} (hu:X.A.units+64<cLine):OpR X (compareOp .NotEq) (λx y H Q=>rNe x y H Q\/qiZ X.K true x y H Q):=qpW.or (qjV hu)
end L3
namespace L3
open PySem PySem.Spec PyProof.Rows L2
section
variable {X:Cx} {pins:List (Addr×Obj)} {σ:L2.St} {H:Hp} {s:Shared}
end
section
variable {X:Cx}
end
section
variable {prog:Program} {w:World} {A:Around} {R:Result->Shared->Prop} {s:Shared}
def KK (elt t1 i1 t2 i2:Expr) (f1 f2:List Expr) (scope:Scope) (pos:Pos) (it acc:Value) (env:Env) :
  compTurn (.ListComp elt [⟨t1,i1,f1,0⟩,⟨t2,i2,f2,0⟩] scope pos) 0 it acc env=(do
   standAt i1.pos
   match←pyNext it with
   |none=>pure (.done .next)
   |some v=>
    letOwnedTupleGo t1 it v
    assign t1 env v
    let mut ok:=true
    for c in f1 do
     if ok then ok←isTrue c env (eval c env)
    if ok then
     let x←eval i2 env
     standAt i2.pos
     let x←foldedSetIterable i2 env x
     let _←runOwn (.compStart (.ListComp elt [⟨t1,i1,f1,0⟩,⟨t2,i2,f2,0⟩] scope pos) 1 (← holding [x] (pyIter x)) acc env) env
    again (.compLoop (.ListComp elt [⟨t1,i1,f1,0⟩,⟨t2,i2,f2,0⟩] scope pos) 0 it acc env)):=by rfl
def KF (elt t1 i1 t2 i2:Expr) (f1 f2:List Expr) (scope:Scope) (pos:Pos) (it acc:Value) (env:Env) :
  compTurn (.ListComp elt [⟨t1,i1,f1,0⟩,⟨t2,i2,f2,0⟩] scope pos) 1 it acc env=(do
   standAt i2.pos
   match←pyNext it with
   |none=>pure (.done .next)
   |some v=>
    letOwnedTupleGo t2 it v
    assign t2 env v
    let mut ok:=true
    for c in f2 do
     if ok then ok←isTrue c env (eval c env)
    if ok then
     (do let _←call (.builtin "list.append") [acc,← eval elt env])
    again (.compLoop (.ListComp elt [⟨t1,i1,f1,0⟩,⟨t2,i2,f2,0⟩] scope pos) 1 it acc env)):=by rfl
def VG {elt t1 i1 t2 i2:Expr} {f1 f2:List Expr} {scope:Scope} {pos:Pos} {it acc:Value} {env:Env}
  (h0:codeAny (model prog w) A (.compLoop (.ListComp elt [⟨t1,i1,f1,0⟩,⟨t2,i2,f2,0⟩] scope pos) 1 it acc env) R s)
  (h:wpAny (model prog w) A (pyIter it) (λit' s'=>codeAny (model prog w) A (.compLoop (.ListComp elt [⟨t1,i1,f1,0⟩,⟨t2,i2,f2,0⟩] scope pos) 1 it' acc env) R s')
   (notedBy (model prog w) A env λx s'=>R (.error x) s') s) :
  codeAny (model prog w) A (.compStart (.ListComp elt [⟨t1,i1,f1,0⟩,⟨t2,i2,f2,0⟩] scope pos) 1 it acc env) R s:=by
 refine codeAny_of_tree ?_;show wpAny _ _ ((compStart (.ListComp elt [⟨t1,i1,f1,0⟩,⟨t2,i2,f2,0⟩] scope pos) 1 it acc env).onRaise (λx=>do noteFrame x env;standAt theWindowsPlace)) _ _ s;refine wpAny_notedAt ?_;unfold compStart;show wpAny _ _ (ask >>= _) _ _ s;refine wpAny_bind (wpAny_askSetting (wpAny_ite ?_));split
 ·first
   |exact wpAny_bind (wpAny_pure (wpAny_pure (And.intro rfl h0)))
   |exact wpAny_pure (And.intro rfl h0)
 ·first
   |exact wpAny_bind (wpAny_rule (wpAny_bind (wpAny_standAt (wpAny_bind (wpAny_mono h (λit' s' h'=>wpAny_pure (And.intro rfl h')) λ_ _ x=>x)))))
   | (refine wpAny_bind (wpAny_rule ?_);show wpAny _ _ (standAt i2.pos >>= _) _ _ s;exact wpAny_bind (wpAny_standAt (wpAny_bind (wpAny_mono h (λit' s' h'=>wpAny_pure (And.intro rfl h')) λ_ _ x=>x))))
end
def tIn (wi:TI) (g:TG) (tif:TT) (te:TE) (D:Addr) (N:L2.St->Hp->Prop) (σ:L2.St) (H:Hp):Prop:=wi σ H λJ H1=>
 ∃ W:Nat->Nat->L2.St->Hp->Prop,(∃ n,W 0 n σ H1)/\∀ i n σ H,W i n σ H ->
  (J.stop i H/\N σ H)\/(J.go i H/\∀ x H',J.yld i H x H'->g x σ H' λσ2 H2=>tif σ2 H2 λk H3=>
   if k=true then te σ2 H3 λy H4=>∃ zs,H4 D=some (.lst zs)/\zs.length<sizeLine/\∃ n',n'<n/\W (i+1) n' σ2 (upd H4 D (.lst (zs++[y])))
   else ∃ n',n'<n/\W (i+1) n' σ2 H3)
section
variable {X:Cx}
def qk0 {elt t1 i1 t2 i2:Expr} {f1 f2:List Expr} {scope:Scope} {pos:Pos} {wi:TI} {g:TG} {tif:TT} {te:TE} {D:Addr} {N:L2.St->Hp->Prop} (hc:X.calm=true) (hx:∀ v s,¬ X.xe v s) (hi:PI X t2 i2 wi) (hg:PG X t2 g) (hf:PF X f2 tif) (he:PE X elt te)
    (hs:∀ x,foldedSetIterable i2 X.env x=pure x) {pins:List (Addr×Obj)} {s:Shared} {σ:L2.St} {H:Hp} {E:Value->Shared->Prop} {α:Type} {kk:Sem α} {Q:α->Shared->Prop} (I:Inv X pins σ H s) (h:tIn wi g tif te D N σ H) (hk:∀ s' σ' H',Inv X pins σ' H' s'->N σ' H'->wpAny (model X.prog X.w) X.A kk Q E s') :
    wpAny (model X.prog X.w) X.A (do
            let x←eval i2 X.env
            standAt i2.pos
            let x←foldedSetIterable i2 X.env x
            let _←runOwn (.compStart (.ListComp elt [⟨t1,i1,f1,0⟩,⟨t2,i2,f2,0⟩] scope pos) 1 (← holding [x] (pyIter x)) (.ref D) X.env) X.env
            kk) Q E s:=by
  refine wpAny_bind (wpAny_mono (hi pins s σ H _ I h) (λv s1 h1=>?_) λ_ _ z=>(hx _ _ z).elim);refine wpAny_bind (wpAny_standAt (wpAny_bind (wpAny_of_eq (hs v) ?_)));refine wpAny_bind (wpAny_holding (wpAny_mono h1 (λitv s2 h2=>?_) λ_ _ z=>(hx _ _ z).elim));obtain ⟨it,fp,tn,J,H2,rfl,I2,T,st2,f2',W,⟨n0,w0⟩,turn⟩:=h2;have stat:∀ {H':Hp},(∀ b∈fp,H' b=none)->∀ b∈fp,LR X pins H' b:=λhn b hb=>⟨hn b hb,(f2' b hb).2⟩
  refine wpAny_bind (wpAny_runOwn ?_);show codeAny (model X.prog X.w) X.A (.compStart (.ListComp elt [⟨t1,i1,f1,0⟩,⟨t2,i2,f2,0⟩] scope pos) 1 (.ref it) (.ref D) X.env) _ s2;have loop:codeAny (model X.prog X.w) X.A (.compLoop (.ListComp elt [⟨t1,i1,f1,0⟩,⟨t2,i2,f2,0⟩] scope pos) 1 (.ref it) (.ref D) X.env) (λr s'=>match r with
      |.ok f=>wpAny (model X.prog X.w) X.A kk Q E s'
      |.error e=>cameBackBy (model X.prog X.w) X.A X.env E e s') s2:=by
    refine codeAny_loop rfl (λn s'=>∃ i σ' H',Inv X pins σ' H' s'/\tn i s'.heap/\(∀ b∈fp,H' b=none)/\W i n σ' H') (λn s' hI=>?_) n0 ⟨0,σ,H2,I2,st2,λb hb=>(f2' b hb).1,w0⟩;show wpAny _ X.A ((compTurn (.ListComp elt [⟨t1,i1,f1,0⟩,⟨t2,i2,f2,0⟩] scope pos) 1 (.ref it) (.ref D) X.env).onRaise (λx=>do noteFrame x X.env;theTreesLotGoes x)) _ _ s';refine wpAny_noted ?_;rw [KF];refine wpAny_bind (wpAny_standAt (wpAny_bind ?_));obtain ⟨i,σ5,H5,I5,st5,fr5,w5⟩:=hI;rcases turn i n σ5 H5 w5 with ⟨stop,q⟩|⟨go,step⟩
    · refine thn (T.done X rfl rfl rfl hc i pins s' σ5 H5 _ I5 (stat fr5) st5 stop) λr s6 ⟨hr,I6⟩=>?_;subst hr;exact wpAny_pure (hk _ σ5 H5 I6 q)
    · refine thn (T.item X rfl rfl rfl hc i pins s' σ5 H5 _ I5 (stat fr5) st5 go) λr s6 ⟨u,hr,h6⟩=>?_;subst hr;refine wpAny_bind (thn h6 λ_ s7 ⟨x,H7,I7,r7,y7,st7,fr7⟩=>?_);have I7':=I7.pinned (stat fr7) (T.obj _ _ st7);have again:∀ {σ8:L2.St} {H8:Hp} {s8:Shared},Inv X (pins++XH fp s7.heap) σ8 H8 s8->(∃ n',n'<n/\W (i+1) n' σ8 H8) ->
          ∃ m',m'<n/\∃ i σ' H',Inv X pins σ' H' s8/\tn i s8.heap/\(∀ b∈fp,H' b=none)/\W i m' σ' H':=λ{σ8 H8 s8} I8 ⟨n',hn,w8⟩=>by
        refine ⟨n',hn,i+1,σ8,H8,I8.unpinned,T.keep _ _ _ st7 λb hb o e=>(I8.pin (b,o) (mem_append_right _ (mem_append_right _ (z9 hb e)))).1,λb hb=>?_,w8⟩;obtain ⟨o,e,d⟩:=T.obj _ _ st7 b hb;exact (I8.pin (b,o) (mem_append_right _ (mem_append_right _ (z9 hb e)))).2.1
      refine wpAny_bind (wpAny_mono (hg _ s7 σ5 H7 x u _ I7' r7 (step x H7 y7)) (λ_ s8 ⟨σ8,H8,I8,q8⟩=>?_) λ_ _ z=>(hx _ _ z).elim);refine wpAny_bind (wpAny_mono (hf _ s8 σ8 H8 _ I8 q8) (λk s9 ⟨H9,I9,q9⟩=>?_) λ_ _ z=>(hx _ _ z).elim);cases k with
      |false=>
        rw [if_neg Bool.false_ne_true] at q9;exact wpAny_pure ⟨rfl,again I9 q9⟩
      |true=>
        rw [if_pos rfl] at q9;refine wpAny_bind (wpAny_bind (wpAny_mono (he _ s9 σ8 H9 _ I9 q9) (λw s10 ⟨y,H10,I10,r10,q10⟩=>?_) λ_ _ z=>(hx _ _ z).elim));obtain ⟨zs,hz,hl,q10⟩:=q10;refine wpAny_bind (wpAny_mono (DH (X:=X) _ s10 σ8 H10 (.ref D) [y] (.ref D) [w] (λ_ H11=>H11=upd H10 D (.lst (zs++[y]))) I10 rfl (.cons r10 .nil) ⟨D,zs,y,rfl,rfl,hz,hl,rfl⟩) (λ_ s11 ⟨_,H11,I11,_,e11⟩=>?_) λ_ _ z=>(hx _ _ z).elim);subst e11;exact wpAny_pure (wpAny_pure ⟨rfl,again I11 q10⟩)
  exact VG loop (T.self X.A 0 _ _ _ st2 loop)
def qqW (wi:TI) (g:TG) (tif:TT) (wi2:TI) (g2:TG) (tif2:TT) (te:TE) (m:List (Option Nat)):TE:=λσ H Q=>wi σ H λJ H1=>∀ D,H1 D=none ->
 ∃ W:Nat->Nat->L2.St->Hp->Prop,(∃ n,W 0 n (cap m σ) (upd H1 D (.lst [])))/\∀ i n σ H,W i n σ H ->
  (J.stop i H/\Q (.ref D) H)\/(J.go i H/\∀ x H',J.yld i H x H'->g x σ H' λσ2 H2=>tif σ2 H2 λk H3=>
   if k=true then tIn wi2 g2 tif2 te D (λσ4 H4=>∃ n',n'<n/\W (i+1) n' σ4 H4) σ2 H3
   else ∃ n',n'<n/\W (i+1) n' σ2 H3)
def qkn {elt tg iter t2 i2:Expr} {ifs f2:List Expr} {scope:Scope} {pos:Pos} {N':List Str} {m:List (Option Nat)} {wi:TI} {g:TG} {tif:TT} {wi2:TI} {g2:TG} {tif2:TT} {te:TE} (hc:X.calm=true) (hi:PI X tg iter wi)
  (hg:∀ s H fp,PG (qt X N' scope s H fp) tg g) (hf:∀ s H fp,PF (qt X N' scope s H fp) ifs tif) (hi2:∀ s H fp,PI (qt X N' scope s H fp) t2 i2 wi2) (hg2:∀ s H fp,PG (qt X N' scope s H fp) t2 g2) (hf2:∀ s H fp,PF (qt X N' scope s H fp) f2 tif2) (he:∀ s H fp,PE (qt X N' scope s H fp) elt te)
  (hsc:qbC X.env.scope scope=true) (hcap:ET X.N N' scope m=true) (hs:∀ x,foldedSetIterable iter X.env x=pure x:=by intro _;rfl) (hs2:∀ s H fp x,foldedSetIterable i2 (qt X N' scope s H fp).env x=pure x:=by intro _ _ _ _;rfl) :
  PE X (.ListComp elt [⟨tg,iter,ifs,0⟩,⟨t2,i2,f2,0⟩] scope pos) (qqW wi g tif wi2 g2 tif2 te m):=by
 intro pins s σ H Q I h;have sc:=WG hsc;have hcl:∀ y∈scope.names,y.2=.free->∃ c,X.env.cells.lookup y.1=some c:=λy hy e=>by
  rcases (sc.free y hy e).2 with z|z
  ·exact I.ok.has y.1 (.inl z)
  ·exact I.ok.has y.1 (.inr z)
 rw [eval_ListComp];refine wpAny_comprehension_free (use:=none) (g:=⟨tg,iter,ifs,0⟩) (gs:=[⟨t2,i2,f2,0⟩]) rfl hs (YM hcl) sc.kind sc.loc ?_;show wpAny _ _ (eval iter X.env) _ _ s;refine thn (hi pins s σ H _ I h) λv s1 h1=>thn h1 λitv s2 h2=>?_;obtain ⟨it,fp,tn,J,H2,rfl,I2,T,st2,fF2,hW⟩:=h2;refine wpAny_newObj_type ?_;have hD:H2 s2.heap.objs.size=none:=I2.fresh;obtain ⟨W,⟨n0,w0⟩,turn⟩:=hW _ hD;generalize hDe:s2.heap.objs.size=D at *;have I3:Inv X pins σ (upd H2 D (.lst [])) { s2 with heap:=s2.heap.push { cls:=.type "list",dict:=none,data:=.seq ([]:List Value).toArray } }:=by
  subst hDe;exact I2.laid (t':=s2.toks) (λb u e=>Heap.get?_push_of_some _ e) (Nat.le_refl _) ⟨Nat.zero_le _,[],0,.nil,Heap.get?_push_size _ rfl⟩
 have ob2:=T.obj 0 _ st2;have ob3:∀ b∈fp,∃ o,(s2.heap.push { cls:=.type "list",dict:=none,data:=.seq ([]:List Value).toArray }).get? b=some o:=λb hb=>let ⟨o,e,_⟩:=ob2 b hb;⟨o,Heap.get?_push_of_some _ e⟩
 have f3:∀ b∈fp,LR X pins (upd H2 D (.lst [])) b:=λb hb=>by
  obtain ⟨o,e,_⟩:=ob2 b hb;have:b≠D:=by rw [← hDe];exact Nat.ne_of_lt (Heap.lt_size e)
  exact ⟨by rw [qT this];exact (fF2 b hb).1,(fF2 b hb).2⟩
 have k23:∀ b o,s2.heap.get? b=some o->(s2.heap.push { cls:=.type "list",dict:=none,data:=.seq ([]:List Value).toArray }).get? b=some o:=λb o e=>Heap.get?_push_of_some _ e;generalize hH3:upd H2 D (.lst [])=H3 at *;generalize hs3:({ s2 with heap:=s2.heap.push { cls:=.type "list",dict:=none,data:=.seq ([]:List Value).toArray } }:Shared)=s3 at *;have ob3:∀ b∈fp,∃ o,s3.heap.get? b=some o:=by rw [← hs3];exact ob3
 have k23:∀ b o,s2.heap.get? b=some o->s3.heap.get? b=some o:=by rw [← hs3];exact k23
 refine QX λh₁ hns hk hown=>?_;have I4:Inv (qt X N' scope s3 H3 fp) [] (cap m σ) H3 { s3 with heap:=h₁ }:=KD hc I3 sc hcap f3 ob3 hns hk hown;have tn4:tn 0 h₁:=T.keep _ _ _ st2 λb hb o e=>hk b o (k23 b o e);have fr4:∀ b∈fp,H3 b=none:=λb hb=>(f3 b hb).1;have stat:∀ {H':Hp},(∀ b∈fp,H' b=none)->∀ b∈fp,LR (qt X N' scope s3 H3 fp) [] H' b:=λhn b hb=>by
  refine ⟨hn b hb,I4.ok.exf b hb |>.1,I4.ok.exfs b hb,.inl hb,λx c e=>(I4.ok.exf b hb).2 x c e,λp hp=>absurd (show p∈([]:List (Addr×Obj)) from hp) (by simp)⟩
 show codeAny (model X.prog X.w) X.A (.compStart (.ListComp elt [⟨tg,iter,ifs,0⟩,⟨t2,i2,f2,0⟩] scope pos) 0 (.ref it) (.ref D) (qt X N' scope s3 H3 fp).env) (compPost (model X.prog X.w) X.A X.xe none (EP X pins σ Q) (.ref D) s3.heap.objs.size) { s3 with heap:=h₁ };have loop:codeAny (model X.prog X.w) X.A (.compLoop (.ListComp elt [⟨tg,iter,ifs,0⟩,⟨t2,i2,f2,0⟩] scope pos) 0 (.ref it) (.ref D) (qt X N' scope s3 H3 fp).env) (compPost (model X.prog X.w) X.A X.xe none (EP X pins σ Q) (.ref D) s3.heap.objs.size) { s3 with heap:=h₁ }:=by
  refine codeAny_loop rfl (λn s'=>∃ i σ' H',Inv (qt X N' scope s3 H3 fp) [] σ' H' s'/\tn i s'.heap/\(∀ b∈fp,H' b=none)/\W i n σ' H') (λn s' hI=>?_) n0 ⟨0,cap m σ,H3,I4,tn4,fr4,w0⟩;show wpAny _ X.A ((compTurn (.ListComp elt [⟨tg,iter,ifs,0⟩,⟨t2,i2,f2,0⟩] scope pos) 0 (.ref it) (.ref D) (qt X N' scope s3 H3 fp).env).onRaise (λx=>do noteFrame x (qt X N' scope s3 H3 fp).env;theTreesLotGoes x)) _ _ s';refine wpAny_noted ?_;rw [KK];refine wpAny_bind (wpAny_standAt (wpAny_bind ?_));obtain ⟨i,σ5,H5,I5,st5,fr5,w5⟩:=hI;rcases turn i n σ5 H5 w5 with ⟨stop,q⟩|⟨go,step⟩
  ·refine thn (T.done (qt X N' scope s3 H3 fp) rfl rfl rfl rfl i [] s' σ5 H5 _ I5 (stat fr5) st5 stop) λr s6 ⟨hr,I6⟩=>?_;subst hr;refine wpAny_pure ?_;obtain ⟨mm,hn6,_⟩:=I6.loc;exact ⟨mm,hn6,λh' sb=>⟨.ref D,H5,W4 I3 f3 I6 sb,rfl,q⟩⟩
  ·refine thn (T.item (qt X N' scope s3 H3 fp) rfl rfl rfl rfl i [] s' σ5 H5 _ I5 (stat fr5) st5 go) λr s6 ⟨u,hr,h6⟩=>?_;subst hr;refine wpAny_bind (thn h6 λ_ s7 ⟨x,H7,I7,r7,y7,st7,fr7⟩=>?_);have I7':=I7.pinned (stat fr7) (T.obj _ _ st7);have again:∀ {σ8:L2.St} {H8:Hp} {s8:Shared},Inv (qt X N' scope s3 H3 fp) ([]++XH fp s7.heap) σ8 H8 s8->(∃ n',n'<n/\W (i+1) n' σ8 H8) ->
     ∃ m',m'<n/\∃ i σ' H',Inv (qt X N' scope s3 H3 fp) [] σ' H' s8/\tn i s8.heap/\(∀ b∈fp,H' b=none)/\W i m' σ' H':=λ{σ8 H8 s8} I8 ⟨n',hn,w8⟩=>by
    refine ⟨n',hn,i+1,σ8,H8,I8.unpinned,T.keep _ _ _ st7 λb hb o e=>(I8.pin (b,o) (mem_append_right _ (mem_append_right _ (z9 hb e)))).1,λb hb=>?_,w8⟩;obtain ⟨o,e,d⟩:=T.obj _ _ st7 b hb;exact (I8.pin (b,o) (mem_append_right _ (mem_append_right _ (z9 hb e)))).2.1
   refine wpAny_bind (wpAny_mono (hg s3 H3 fp _ s7 σ5 H7 x u _ I7' r7 (step x H7 y7)) (λ_ s8 ⟨σ8,H8,I8,q8⟩=>?_) λ_ _ z=>z.elim);refine wpAny_bind (wpAny_mono (hf s3 H3 fp _ s8 σ8 H8 _ I8 q8) (λk s9 ⟨H9,I9,q9⟩=>?_) λ_ _ z=>z.elim);cases k with
   |false=>
    rw [if_neg Bool.false_ne_true] at q9;exact wpAny_pure ⟨rfl,again I9 q9⟩
   |true=>
    rw [if_pos rfl] at q9;refine qk0 (X:=qt X N' scope s3 H3 fp) rfl (λ_ _ z=>z) (hi2 s3 H3 fp) (hg2 s3 H3 fp) (hf2 s3 H3 fp) (he s3 H3 fp) (hs2 s3 H3 fp) I9 q9 λs10 σ10 H10 I10 q10=>?_;exact wpAny_pure ⟨rfl,again I10 q10⟩
 exact codeAny_compStart_list loop (T.self X.A 0 _ _ _ tn4 loop)
end
def qi1 (D:Addr) (stay:Gp->Prop) (g:TG3) (tif:TT3) (te:TE3) (N:St3->Gp->Prop):List T->St3->Gp->Prop
 |[],τ,G=>stay G/\N τ G
 |x::r,τ,G=>stay G/\g x τ G λτ2 G2=>tif τ2 G2 λk G3=>
  if k=true then te τ2 G3 λy G4=>(match G4 D with|some (.lst ys)=>ys.length<sizeLine/\qi1 D stay g tif te N r τ2 (gu G4 D (.lst (ys++[y])))|_=>False) else qi1 D stay g tif te N r τ2 G3
def qcz (D:Addr) (stay:Gp->Prop) (g:TG3) (tif:TT3) (wi2:TI3) (g2:TG3) (tif2:TT3) (te:TE3) (q:Q3):List T->St3->Gp->Prop
 |[],_,G=>stay G/\q (.ref D) G
 |x::r,τ,G=>stay G/\g x τ G λτ2 G2=>tif τ2 G2 λk G3=>
  if k=true then wi2 τ2 G3 λitems2 stay2 G4=>qi1 D stay2 g2 tif2 te (λτ' G'=>qcz D stay g tif wi2 g2 tif2 te q r τ' G') items2 τ2 G4 else qcz D stay g tif wi2 g2 tif2 te q r τ2 G3
def qmc (wi:TI3) (g:TG3) (tif:TT3) (wi2:TI3) (g2:TG3) (tif2:TT3) (te:TE3) (m:List (Option Nat)):TE3:=λτ G q=>wi τ G λitems stay G1=>∀ D,G1 D=none->qcz D stay g tif wi2 g2 tif2 te q items (cap m τ) (gu G1 D (.lst []))
section
variable {K:Frg}
def qiJ {wi2:TI3} {g2:TG3} {tif2:TT3} {te:TE3} {D:Addr} {N3:St3->Gp->Prop} {N:L2.St->Hp->Prop} {τ:St3} {G:Gp} {σ:L2.St} {H:Hp} {Gb:Gp} {Hb:Hp} (rl:Rel K τ G σ H) (kb:Kp Gb Hb G H) (h:wi2 τ G λitems stay G1=>qi1 D stay g2 tif2 te N3 items τ G1)
  (hN:∀ τ' G' σ' H',Rel K τ' G' σ' H'->Kp Gb Hb G' H'->N3 τ' G'->N σ' H'):tIn (lI K wi2) (lG K g2) (lT K tif2) (lE K te) D N σ H:=by
 refine ⟨τ,G,_,rl,h,λitems stay G1 h1 J H1 hr1 k1 ok=>?_⟩;refine ⟨λi n σ' H'=>n=items.length-i/\i<=items.length/\∃ τ' G',Rel K τ' G' σ' H'/\Kp G1 H1 G' H'/\qi1 D stay g2 tif2 te N3 (items.drop i) τ' G',⟨_,rfl,Nat.zero_le _,τ,G1,rl.next hr1 k1,Kp.refl,by simpa using h1⟩,?_⟩;rintro i n σ' H' ⟨rfl,hi,τ',G',rl',k',h'⟩;by_cases hlt:i<items.length
 ·rw [List.drop_eq_getElem_cons hlt] at h';obtain ⟨hst,h'⟩:=h';obtain ⟨go,yld,_⟩:=ok G' H' rl'.hp k' hst;have hx:items[i]?=some items[i]:=getElem?_eq_getElem hlt;refine .inr ⟨go i _ hx,λv H2 y=>?_⟩;obtain ⟨rv,hr2,k2⟩:=yld i _ v H2 hx y;refine ⟨_,τ',G',_,rv,rl'.next hr2 k2,h',λτ3 G3 h3 σ3 H3 rl3 k3=>⟨τ3,G3,_,rl3,h3,λk G4 h4 H4 hr4 k4=>?_⟩⟩;have kk:=(k2.trans k3).trans k4;cases k with
  |false=>
   rw [if_neg Bool.false_ne_true] at h4;refine qoo ?_;exact ⟨_,by omega,rfl,hlt,τ3,G4,rl3.next hr4 k4,k'.trans kk,h4⟩
  |true=>
   rw [if_pos rfl] at h4;refine qob ?_;refine ⟨τ3,G4,_,rl3.next hr4 k4,h4,λz G5 h5 w H5 rw5 hr5 k5=>?_⟩;split at h5
   ·rename_i ys e1;obtain ⟨vs,g1,r1⟩:=hr5.lst e1;exact ⟨vs,g1,by rw [← r1.length];exact h5.1,_,by omega,rfl,hlt,τ3,_,((rl3.next hr4 k4).next hr5 k5).next (hr5.wr e1 (r1.append (.cons rw5 .nil))) (Kp.wr e1),((k'.trans kk).trans k5).trans (Kp.wr e1),h5.2⟩
   ·exact h5.elim
 ·have e:i=items.length:=by omega
  subst e;rw [List.drop_length] at h';obtain ⟨_,_,stop⟩:=ok G' H' rl'.hp k' h'.1;exact .inl ⟨stop,hN _ _ _ _ rl' ((kb.trans k1).trans k') h'.2⟩
end
section
variable {X:Cx}
def qps {elt tg iter t2 i2:Expr} {ifs f2:List Expr} {scope:Scope} {pos:Pos} (N':List Str) (m:List (Option Nat)) {wi:TI3} {g:TG3} {tif:TT3} {wi2:TI3} {g2:TG3} {tif2:TT3} {te:TE3} (hc:X.calm=true) (hi:I3 X tg iter wi)
  (hg:∀ s H fp,G3 (qt X N' scope s H fp) tg g) (hf:∀ s H fp,F3 (qt X N' scope s H fp) ifs tif) (hi2:∀ s H fp,I3 (qt X N' scope s H fp) t2 i2 wi2) (hg2:∀ s H fp,G3 (qt X N' scope s H fp) t2 g2) (hf2:∀ s H fp,F3 (qt X N' scope s H fp) f2 tif2) (he:∀ s H fp,E3 (qt X N' scope s H fp) elt te)
  (hsc:qbC X.env.scope scope=true) (hcap:ET X.N N' scope m=true) (hs:∀ x,foldedSetIterable iter X.env x=pure x:=by intro _;rfl) (hs2:∀ s H fp x,foldedSetIterable i2 (qt X N' scope s H fp).env x=pure x:=by intro _ _ _ _;rfl) :
  E3 X (.ListComp elt [⟨tg,iter,ifs,0⟩,⟨t2,i2,f2,0⟩] scope pos) (qmc wi g tif wi2 g2 tif2 te m):=
 R0 (qkn (g:=lG X.K g) (tif:=lT X.K tif) (wi2:=lI X.K wi2) (g2:=lG X.K g2) (tif2:=lT X.K tif2) (te:=lE X.K te) hc hi hg hf hi2 hg2 hf2 he hsc hcap hs hs2) λσ H Q ⟨τ,G,q,rl,h,af⟩=>by
  refine ⟨τ,G,_,rl,h,λitems stay G1 h1 J H1 hr1 k1 ok D hD=>?_⟩;have gD:G1 D=none:=hr1.free hD;have h1:=h1 D gD;have hr1':HR X.K (gu G1 D (.lst [])) (upd H1 D (.lst [])):=HR.newL hr1 hD .nil;have k1':Kp G1 H1 (gu G1 D (.lst [])) (upd H1 D (.lst [])):=Kp.newL hD;refine ⟨λi n σ' H'=>n=items.length-i/\i<=items.length/\∃ τ' G',Rel X.K τ' G' σ' H'/\Kp G1 H1 G' H'/\qcz D stay g tif wi2 g2 tif2 te q (items.drop i) τ' G',
   ⟨_,rfl,Nat.zero_le _,cap m τ,_,((rl.next hr1 k1).cap m).next hr1' k1',k1',by simpa using h1⟩,?_⟩
  rintro i n σ' H' ⟨rfl,hi,τ',G',rl',k',h'⟩;by_cases hlt:i<items.length
  ·rw [List.drop_eq_getElem_cons hlt] at h';obtain ⟨hst,h'⟩:=h';obtain ⟨go,yld,_⟩:=ok G' H' rl'.hp k' hst;have hx:items[i]?=some items[i]:=getElem?_eq_getElem hlt;refine .inr ⟨go i _ hx,λv H2 y=>?_⟩;obtain ⟨rv,hr2,k2⟩:=yld i _ v H2 hx y;refine ⟨_,τ',G',_,rv,rl'.next hr2 k2,h',λτ3 G3 h3 σ3 H3 rl3 k3=>⟨τ3,G3,_,rl3,h3,λk G4 h4 H4 hr4 k4=>?_⟩⟩;have kk:=(k2.trans k3).trans k4;cases k with
   |false=>
    rw [if_neg Bool.false_ne_true] at h4;refine qoo ?_;exact ⟨_,by omega,rfl,hlt,τ3,G4,rl3.next hr4 k4,k'.trans kk,h4⟩
   |true=>
    rw [if_pos rfl] at h4;refine qob ?_;exact qiJ (rl3.next hr4 k4) (k'.trans kk) h4 λτ5 G5 σ5 H5 rl5 k5 h5=>⟨_,by omega,rfl,hlt,τ5,G5,rl5,k5,h5⟩
  ·have e:i=items.length:=by omega
   subst e;rw [List.drop_length] at h';obtain ⟨_,_,stop⟩:=ok G' H' rl'.hp k' h'.1;exact .inl ⟨stop,af _ _ h'.2 _ H' (.ref D) rl'.hp (k1.trans k')⟩
def qgS {elt tg iter t2 i2:Expr} {ifs f2:List Expr} {scope:Scope} {pos:Pos} (N':List Str) (m:List (Option Nat)) {wi:TI3} {g:TG3} {tif:TT3} {wi2:TI3} {g2:TG3} {tif2:TT3} {te:TE3} (hc:X.calm=true) (hi:jI3 X tg iter wi)
  (hg:∀ s H fp,jG3 (qt X N' scope s H fp) tg g) (hf:∀ s H fp,jF3 (qt X N' scope s H fp) ifs tif) (hi2:∀ s H fp,jI3 (qt X N' scope s H fp) t2 i2 wi2) (hg2:∀ s H fp,jG3 (qt X N' scope s H fp) t2 g2) (hf2:∀ s H fp,jF3 (qt X N' scope s H fp) f2 tif2) (he:∀ s H fp,jE3 (qt X N' scope s H fp) elt te)
  (hsc:qbC X.env.scope scope=true) (hcap:ET X.N N' scope m=true) (hs:∀ x,foldedSetIterable iter X.env x=pure x:=by intro _;rfl) (hs2:∀ s H fp x,foldedSetIterable i2 (qt X N' scope s H fp).env x=pure x:=by intro _ _ _ _;rfl) :
  jE3 X (.ListComp elt [⟨tg,iter,ifs,0⟩,⟨t2,i2,f2,0⟩] scope pos) (qmc wi g tif wi2 g2 tif2 te m):=
 ⟨qps N' m hc hi.h (λs H fp=>(hg s H fp).h) (λs H fp=>(hf s H fp).h) (λs H fp=>(hi2 s H fp).h) (λs H fp=>(hg2 s H fp).h) (λs H fp=>(hf2 s H fp).h) (λs H fp=>(he s H fp).h) hsc hcap hs hs2⟩
end
section
variable {X:Cx}
end
section
variable {X:Cx} {tg a b c:Expr} {pos:Pos}
end
section
variable {X:Cx}
end
section
variable {X:Cx} {a b:Expr} {ta tb:TE3} {pos:Pos}
def qce:OpR X (compareOp .IsNot) (λx y H Q=>∃ i j,x=.bl i/\y=.bl j/\Q (.bl (i != j)) H):=by
 intro pins s σ H x y v u Q I rx ry h;obtain ⟨i,j,rfl,rfl,q⟩:=h;cases rx;cases ry;exact isnot_bool (zm I q rfl)
def qi4 (neg:Bool):R3:=λx y G q=>match x,y with|.bl i,.bl j=>q (.bl (if neg then i != j else i==j)) G|_,_=>False
def qaS {K:Frg}:RA K (qi4 true) (λx y H Q=>∃ i j,x=.bl i/\y=.bl j/\Q (.bl (i != j)) H):=λx y v u G H q Q hr rx ry h af=>by
 cases x<;>try exact h.elim
 cases y<;>try exact h.elim
 cases rx;cases ry;exact ⟨_,_,rfl,rfl,af _ G h _ H (.bl _) hr Kp.refl⟩
end
end L3
namespace HT
open PySem PySem.Spec PyProof.Rows
section
variable {prog:Program} {w:World} {A:Around} {E:Value->Shared->Prop} {s:Shared}
end
end HT
namespace L3
open PySem PySem.Spec PyProof.Rows L2
section
variable {X:Cx} {e ek:Expr} {p2 pos:Pos}
end
section
variable {X:Cx} {a b:Expr} {ta tb:TE3} {pos:Pos}
end
abbrev Rd (sp:Sp3) (n:Nat) (t:TS3) (N:List Str):Prop:=∀ ts G q,sp ts G q->ts.length=n/\t { nx:=λ_ G'=>q .non G',rt:=q } (qm N ts) G
def jgn {pos:Pos} {X:Cx} {x:Str} (i:Nat) (hN:decide X.N.Nodup=true:=by kernel_rfl) (hi:X.N[i]?=some x:=by rfl) (hx:Loc X.env.scope x:=by first|exact Or.inl rfl|exact Or.inr rfl) (hf:X.fn x=true\/X.env.scope.names.lookup x=some .local:=by first|exact .inl rfl|exact .inr rfl):jG3 X (.Name x pos) (gn3 i):=
 qq (of_decide_eq_true hN) hi hx hf
end L3
namespace L2
open PySem PySem.Spec PyProof.Rows
section
variable {X:Cx} {pos:Pos}
end
end L2
namespace L3
open PySem PySem.Spec PyProof.Rows L2
section
variable {X:Cx} {pos:Pos}
end
section
variable {X:Cx} {K:Frg} {w:World} {mg:Str->Option Value}
inductive Ents (K:Frg) (w:World):List DictEntry->List (Str×T)->Prop
 |nil:Ents K w [] []
 |cons {x:Str} {tk:Tok} {u:Value} {v:V} {t:T} {es:List DictEntry} {tab:List (Str×T)}:jT v u->(∀ H,Rp K H t v)->Ents K w es tab->Ents K w (⟨PyData.keyHash w.params x,.str x tk,u⟩::es) ((x,t)::tab)
def jW:List (Str×T)->Str->Option T
 |[],_=>none
 | (y,t)::r,x=>if y=x then some t else jW r x
structure Tb (K:Frg) (mg:Str->Option Value) (w:World) (x:Str) (tab:List (Str×T)):Prop where
 at_:∃ (d:Addr) (es:Array DictEntry) (ep:Nat),mg x=some (.ref d)/\K.lookup d=some ⟨.type "dict",none,.dict es ep,#[]⟩/\(d==sysModules)=false/\Ents K w es.toList tab
def Ents.keys {P:Program}:∀ {es:List DictEntry} {tab:List (Str×T)},Ents K w es tab->∀ e∈es,∃ k,(PySem.strKind P w).is k e.key=true/\e.hash=(PySem.strKind P w).hash k
 |_,_,.nil,e,h=>by cases h
 |_,_,.cons (x:=x) a b t,e,h=>by
  rcases mem_cons.mp h with rfl|h
  ·exact ⟨x,by show (x==x)=true;simp,rfl⟩
  ·exact Ents.keys t e h
def Ents.find:∀ {es:List DictEntry} {tab:List (Str×T)} (x:Str),Ents K w es tab ->
    (match jW tab x with
     |some t=>∃ (u:Value) (v:V),(es.find? λe=>Value.isStrOf x e.key).map (·.val)=some u/\jT v u/\∀ H,Rp K H t v
     |none=>(es.find? λe=>Value.isStrOf x e.key).map (·.val)=none)
  |_,_,x,.nil=>by simp [jW]
  |_,_,x,.cons (x:=y) (tk:=tk) (u:=u) (v:=v) (t:=t) (es:=es) (tab:=tab) a b r=>by
    by_cases e:y=x
    · have:Value.isStrOf x (Value.str y tk)=true:=by show (y==x)=true;simp [e]
      simp only [jW,e,if_true,List.find?_cons,this];subst e;simp only [this];exact ⟨u,v,rfl,a,b⟩
    · have:Value.isStrOf x (Value.str y tk)=false:=by show (y==x)=false;simp [e]
      have ih:=Ents.find x r;simp only [jW,e,if_false,List.find?_cons,this];exact ih
def Ents.map {P:Program} {h:Heap} {d:Addr} {es:Array DictEntry} {ep:Nat} {tab:List (Str×T)} (hd:h.get? d=some ⟨.type "dict",none,.dict es ep,#[]⟩) (en:Ents K w es.toList tab) :
  Heap.MapOf (PySem.strKind P w) h d (λx=>findBy Value.isStrOf es x):=
 ⟨_,es,ep,hd,⟨rfl,rfl,rfl⟩,rfl,λe he=>en.keys e (by simpa using he),λ_=>rfl⟩
def qqZ (K:Frg) (d:Addr) (tab:List (Str×T)):R2:=λx y H Q=>x=.ref d/\∃ s t,y=.str s/\jW tab s=some t/\∀ v,Rp K H t v->Q v H
def qkO {d:Addr} {es:Array DictEntry} {ep:Nat} {tab:List (Str×T)} (hk:X.K.lookup d=some ⟨.type "dict",none,.dict es ep,#[]⟩) (en:Ents X.K X.w es.toList tab):IxR X (qqZ X.K d tab):=by
 intro value slice pins s σ H x y v u Q I rx ry h hs;obtain ⟨rfl,z,t,rfl,ht,q⟩:=h;cases rx;obtain ⟨tk,rfl⟩:=ry;have hd:=I.kIn _ _ hk;have f:=en.find z;rw [ht] at f;obtain ⟨u,v,hf,rv,rp⟩:=f;have hf':findBy Value.isStrOf es z=some u:=by
  unfold findBy;rw [← Array.find?_toList];exact hf
 refine subscriptTail_builtinR (x:=u) ⟨_,hd,rfl⟩ PySem.F.slot_dict_getitem.lookup (wpAny_getItem_of (knd:=PySem.strKind X.prog X.w) (Q:=λr s'=>r=u/\EP X pins σ Q r s') (k:=z) (by show (z==z)=true;simp) (en.map hd) hf' ⟨rfl,v,H,I.tok _,rv,q v (rp H)⟩) hs
def qew (tab:List (Str×T)) (te:TE3):TE3:=λτ G q=>te τ G λx G1=>match x with|.str s=>(match jW tab s with|some t=>q t G1|none=>False)|_=>False
def qg9 {x:Str} {e:Expr} {te:TE3} {tab:List (Str×T)} {p1 pos:Pos} (tb:Tb X.K X.mg X.w x tab) (hg:Gl X x) (he:jE3 X e te) (hs:XC e) (hd:(x==("__debug__" : Str))=false:=by decide):jE3 X (.Subscript (.Name x p1) e pos) (qew tab te):=by
 obtain ⟨d,es,ep,hm,hk,hn,en⟩:=tb.at_;exact ⟨R0 (ql5 (qkO hk en) (qg3 hg hm (v:=.ref d) rfl hd) he.h hs) λ_ _ _ ⟨τ,G,q,rl,h,af⟩=>jc rl h λy G1 h1 v H1 rx hr1 k1 rl1=>by
  cases y<;>try exact h1.elim
  case str z=>
   cases rx;unfold qew at h;simp only at h1;split at h1
   ·rename_i t ht;exact ⟨rfl,z,t,rfl,ht,λv rv=>af.back k1 _ _ h1 _ _ rv hr1 Kp.refl⟩
   ·exact h1.elim⟩
def WA (hc:X.calm=true):VO X (.builtin "min") (λxs H Q=>∃ (p:Addr) (ns:List Int),xs=[.ref p]/\SqL X.K H p (ns.map V.int)/\ns≠[]/\∀ m∈ns,(∀ a∈ns,m<=a)->Q (.int m) H):=by
 intro pins s σ H xs us Q I r h;obtain ⟨p,ns,rfl,hq,hne,q⟩:=h;obtain ⟨u,rfl,rp⟩:=C2 r;cases (show u=Value.ref p from rp);obtain ⟨its,rv,pl,hz⟩:=I.list hq;have hlen:its.length=ns.length:=by have:=rv.length;simp at this;omega
 have hpos:0<ns.length:=List.length_pos_iff.mpr hne;have hp:p<s.heap.objs.size:=by obtain ⟨o,n,e,_⟩:=pl;exact Heap.lt_size e
 have vals:∀ (i:Nat) (v:Value),its.toArray[i]?=some v->∃ t,v=Value.int (ns.getD i 0) t:=λi v hv=>by
  have hv':its[i]?=some v:=by simpa using hv
  obtain ⟨hi,_⟩:=List.getElem?_eq_some_iff.mp hv';have hi':i<ns.length:=by omega
  obtain ⟨u,hu,ru⟩:=rv.get (i:=i) (show (ns.map V.int)[i]?=some (V.int (ns[i])) by simp [hi']);rw [hv'] at hu;cases hu;obtain ⟨t,rfl⟩:=ru;exact ⟨t,by show Value.int ns[i] t=Value.int (ns.getD i 0) t;rw [getD_eq_getElem?_getD,getElem?_eq_getElem hi'];rfl⟩
 refine call_min_walk (wpAny_pyIter_list pl.isList ⟨s.heap.objs.size,_,_,_,_,_,_,rfl,Walks.list (A:=X.A.in1) (show X.A.in1.handled=none from I.ok.hd hc) s.heap.objs.size p (Nat.ne_of_lt hp) its.toArray,⟨⟨_,Heap.get?_push_size _ rfl,rfl,rfl⟩,?_⟩,λb hb=>?_,by rw [size_toArray];omega,CmpOf.ints_lt (λi=>ns.getD i 0) vals,λv h' tk hP hk=>?_⟩)
 ·obtain ⟨o,n,e,c,_,d⟩:=pl;exact ⟨o,Heap.get?_push_of_some _ e,c,n,d⟩
 ·have lt1:∀ n c:Nat,c<n->c<n+1:=λn c h=>by omega
  rw [show (({ s with heap:=s.heap.push _ }:Shared).heap.objs.size)=s.heap.objs.size+1 from Heap.size_push ..];simp only [mem_cons,not_mem_nil,or_false] at hb;rcases hb with rfl|rfl
  ·exact Nat.lt_succ_self _
  ·exact lt1 _ _ hp
 ·obtain ⟨b1,b2⟩:=argBest_lt (λi=>ns.getD i 0) (its.toArray.size-1);obtain ⟨t,rfl⟩:=vals _ _ hP;rw [size_toArray] at b1 b2 ⊢;have gd:∀ j,j<ns.length->ns.getD j 0∈ns:=λj hj=>by rw [getD_eq_getElem?_getD,getElem?_eq_getElem hj];exact List.getElem_mem hj
  refine ⟨.int _,H,I.kept (h':=h') (t':=tk) λb o e=>hk b o (by simp;exact Nat.ne_of_lt (Heap.lt_size e)) (Heap.get?_push_of_some _ e),⟨_,rfl⟩,q _ (gd _ (by omega)) λa ha=>?_⟩;obtain ⟨j,hj,rfl⟩:=List.mem_iff_getElem.mp ha;have:=b2 j (by omega);have e:ns.getD j 0=ns[j]:=by rw [getD_eq_getElem?_getD,getElem?_eq_getElem hj];rfl
  rw [e] at this;exact this
def LH:List T->Gp->Q3->Prop:=λxs G q=>match xs with
 |[.ref p]=>(match zo G p with|some ys=>(match T9 ys with|some ns=>ns≠[]/\∀ m∈ns,(∀ a∈ns,m<=a)->q (.int m) G|none=>False)|none=>False)
 |_=>False
def CL {K:Frg}:NH K LH (λxs H Q=>∃ (p:Addr) (ns:List Int),xs=[.ref p]/\SqL K H p (ns.map V.int)/\ns≠[]/\∀ m∈ns,(∀ a∈ns,m<=a)->Q (.int m) H):=λxs vs G H q Q hr rs h af=>by
 unfold LH at h;split at h
 ·rename_i p;obtain ⟨v,rfl,r⟩:=KZ rs;cases r;split at h
  ·rename_i ys e0;split at h
   ·rename_i ns e1;obtain ⟨us,hs,r2⟩:=jo hr e0;have:=CB e1;subst this;have:=CK r2;subst this;exact ⟨p,ns,rfl,hs,h.1,λm hm ha=>af _ _ (h.2 m hm ha) _ _ (.int _) hr Kp.refl⟩
   ·exact h.elim
  ·exact h.elim
 ·exact h.elim
def DM (hc:X.calm=true):VO X (.builtin "max") (λxs H Q=>∃ (p:Addr) (ns:List Int),xs=[.ref p]/\SqL X.K H p (ns.map V.int)/\ns≠[]/\∀ m∈ns,(∀ a∈ns,a<=m)->Q (.int m) H):=by
 intro pins s σ H xs us Q I r h;obtain ⟨p,ns,rfl,hq,hne,q⟩:=h;obtain ⟨u,rfl,rp⟩:=C2 r;cases (show u=Value.ref p from rp);obtain ⟨its,rv,pl,hz⟩:=I.list hq;have hlen:its.length=ns.length:=by have:=rv.length;simp at this;omega
 have hpos:0<ns.length:=List.length_pos_iff.mpr hne;have hp:p<s.heap.objs.size:=by obtain ⟨o,n,e,_⟩:=pl;exact Heap.lt_size e
 have vals:∀ (i:Nat) (v:Value),its.toArray[i]?=some v->∃ t,v=Value.int (ns.getD i 0) t:=λi v hv=>by
  have hv':its[i]?=some v:=by simpa using hv
  obtain ⟨hi,_⟩:=List.getElem?_eq_some_iff.mp hv';have hi':i<ns.length:=by omega
  obtain ⟨u,hu,ru⟩:=rv.get (i:=i) (show (ns.map V.int)[i]?=some (V.int (ns[i])) by simp [hi']);rw [hv'] at hu;cases hu;obtain ⟨t,rfl⟩:=ru;exact ⟨t,by show Value.int ns[i] t=Value.int (ns.getD i 0) t;rw [getD_eq_getElem?_getD,getElem?_eq_getElem hi'];rfl⟩
 refine call_max_walk (wpAny_pyIter_list pl.isList ⟨s.heap.objs.size,_,_,_,_,_,_,rfl,Walks.list (A:=X.A.in1) (show X.A.in1.handled=none from I.ok.hd hc) s.heap.objs.size p (Nat.ne_of_lt hp) its.toArray,⟨⟨_,Heap.get?_push_size _ rfl,rfl,rfl⟩,?_⟩,λb hb=>?_,by rw [size_toArray];omega,CmpOf.ints_gt (λi=>ns.getD i 0) vals,λv h' tk hP hk=>?_⟩)
 ·obtain ⟨o,n,e,c,_,d⟩:=pl;exact ⟨o,Heap.get?_push_of_some _ e,c,n,d⟩
 ·have lt1:∀ n c:Nat,c<n->c<n+1:=λn c h=>by omega
  rw [show (({ s with heap:=s.heap.push _ }:Shared).heap.objs.size)=s.heap.objs.size+1 from Heap.size_push ..];simp only [mem_cons,not_mem_nil,or_false] at hb;rcases hb with rfl|rfl
  ·exact Nat.lt_succ_self _
  ·exact lt1 _ _ hp
 ·obtain ⟨b1,b2⟩:=argBest_gt (λi=>ns.getD i 0) (its.toArray.size-1);obtain ⟨t,rfl⟩:=vals _ _ hP;rw [size_toArray] at b1 b2 ⊢;have gd:∀ j,j<ns.length->ns.getD j 0∈ns:=λj hj=>by rw [getD_eq_getElem?_getD,getElem?_eq_getElem hj];exact List.getElem_mem hj
  refine ⟨.int _,H,I.kept (h':=h') (t':=tk) λb o e=>hk b o (by simp;exact Nat.ne_of_lt (Heap.lt_size e)) (Heap.get?_push_of_some _ e),⟨_,rfl⟩,q _ (gd _ (by omega)) λa ha=>?_⟩;obtain ⟨j,hj,rfl⟩:=List.mem_iff_getElem.mp ha;have:=b2 j (by omega);have e:ns.getD j 0=ns[j]:=by rw [getD_eq_getElem?_getD,getElem?_eq_getElem hj];rfl
  rw [e] at this;exact this
def MT:List T->Gp->Q3->Prop:=λxs G q=>match xs with
 |[.ref p]=>(match zo G p with|some ys=>(match T9 ys with|some ns=>ns≠[]/\∀ m∈ns,(∀ a∈ns,a<=m)->q (.int m) G|none=>False)|none=>False)
 |_=>False
def X7 {K:Frg}:NH K MT (λxs H Q=>∃ (p:Addr) (ns:List Int),xs=[.ref p]/\SqL K H p (ns.map V.int)/\ns≠[]/\∀ m∈ns,(∀ a∈ns,a<=m)->Q (.int m) H):=λxs vs G H q Q hr rs h af=>by
 unfold MT at h;split at h
 ·rename_i p;obtain ⟨v,rfl,r⟩:=KZ rs;cases r;split at h
  ·rename_i ys e0;split at h
   ·rename_i ns e1;obtain ⟨us,hs,r2⟩:=jo hr e0;have:=CB e1;subst this;have:=CK r2;subst this;exact ⟨p,ns,rfl,hs,h.1,λm hm ha=>af _ _ (h.2 m hm ha) _ _ (.int _) hr Kp.refl⟩
   ·exact h.elim
  ·exact h.elim
 ·exact h.elim
end
inductive Cv:List Str->List V->List (Value×Value)->Prop
 |nil:Cv [] [] []
 |cons {k:Str} {tk:Tok} {v:V} {u:Value} {ks:List Str} {xs:List V} {vs:List (Value×Value)}:jT v u->Cv ks xs vs->Cv (k::ks) (v::xs) ((.str k tk,u)::vs)
structure jD3 (X:Cx) (keys:List (Option Expr)) (values:List Expr) (ks:List Str) (t:TA3):Prop where
 h:∀ (pos:Pos) (pins:List (Addr×Obj)) (s:Shared) (σ:L2.St) (H:Hp) (Q:List V->Hp->Prop),Inv X pins σ H s->lA X.K t σ H Q ->
  wpAny (model X.prog X.w) X.A (evalPairs (pairTrees keys values X.env pos)) (λvs s'=>∃ xs H',Inv X pins σ H' s'/\Cv ks xs vs/\Q xs H') X.xe s
 len:keys.length=values.length
 all:(keys.all λx=>x.isSome)=true
section
variable {X:Cx}
def ql0:jD3 X [] [] [] qh:=
 ⟨λpos pins s σ H Q I ⟨τ,G,q,rl,h,af⟩=>by
  show wpAny _ _ (evalPairs []) _ _ _;exact wpAny_pure ⟨[],H,I,.nil,af _ _ h _ _ .nil rl.hp Kp.refl⟩,rfl,rfl⟩
def CZ {k:Str} {j:Nat} {kp:Pos} {v:Expr} {tv:TE3} {keys:List (Option Expr)} {values:List Expr} {ks:List Str} {t:TA3} (hv:jE3 X v tv) (r:jD3 X keys values ks t) :
  jD3 X (some (.Constant (.str k) j kp)::keys) (v::values) (k::ks) (qb tv t):=
 ⟨λpos pins s σ H Q I ⟨τ,G,q,rl,h,af⟩=>by
  show wpAny _ _ (evalPairs ((eval (.Constant (.str k) j kp) X.env,do let x←eval v X.env;standAt pos;pure x)::pairTrees keys values X.env pos)) _ _ _;refine evalPairs_cons (thn (qeR (X:=X) (x:=k) (j:=j) (pos:=kp) pins s σ H (λy H'=>y=.str k/\H'=H) I ⟨rfl,rfl⟩) λkv s1 ⟨y,H1,I1,ry,ey,eH⟩=>?_);subst ey;subst eH;obtain ⟨tk,rfl⟩:=ry;refine wpAny_bind (thn (hv.h pins s1 σ H1 (λx H2=>lA X.K t σ H2 λxs H3=>Q (x::xs) H3) I1 (jc rl h λx G1 h1 v H2 rx hr1 k1 rl1=>⟨τ,G1,_,rl1,h1,λxs G2 h2 vs H3 rs hr2 k2=>af _ _ h2 _ _ (.cons (rx.keep hr1 k2) rs) hr2 (k1.trans k2)⟩)) λu s2 ⟨x,H2,I2,rx,q2⟩=>?_);refine wpAny_bind (wpAny_standAt (wpAny_pure ?_));exact thn (r.h pos pins s2 σ H2 _ I2 q2) λvs s3 ⟨xs,H3,I3,cv,q3⟩=>⟨x::xs,H3,I3,.cons rx cv,q3⟩,by simp [r.len],by simpa using r.all⟩
def Cv.carries {P:Program} {w:World}:∀ {ks:List Str} {xs:List V} {vs:List (Value×Value)},Cv ks xs vs->Carries (PySem.strKind P w) vs (ks.zip (vs.map (·.2)))
 |_,_,_,.nil=>True.intro
 |_,_,_,.cons (k:=k) r t=>⟨by show (k==k)=true;simp,rfl,t.carries⟩
def Cv.len:∀ {ks:List Str} {xs:List V} {vs:List (Value×Value)},Cv ks xs vs->ks.length=vs.length
 |_,_,_,.nil=>rfl
 |_,_,_,.cons _ t=>by simp [t.len]
def qdJ:List Str->List V->Str->Option V
 |k::ks,v::vs,x=>if k=x then some v else qdJ ks vs x
 |_,_,_=>none
def Cv.get:∀ {ks:List Str} {xs:List V} {vs:List (Value×Value)} {x:Str} {v:V},Cv ks xs vs->qdJ ks xs x=some v->∃ u,valueAt (ks.zip (vs.map (·.2))) x=some u/\jT v u
 |_,_,_,x,v,.nil,h=>by simp [qdJ] at h
 |_,_,_,x,v,.cons (k:=k) (u:=u) r t,h=>by
  by_cases e:k=x
  ·simp [qdJ,e] at h;subst h;exact ⟨u,by simp [valueAt,e],r⟩
  ·simp [qdJ,e] at h;obtain ⟨u',h1,h2⟩:=Cv.get t h;exact ⟨u',by simpa [valueAt,e] using h1,h2⟩
def qot (ks:List Str) (tv:TA) (te:TE):TE:=λσ H Q=>tv σ H λxs H1=>te σ H1 λy H2=>∃ k v,y=.str k/\qdJ ks xs k=some v/\Q v H2
def qhB {keys:List (Option Expr)} {values:List Expr} {ks:List Str} {t:TA3} {e:Expr} {te:TE} {p1 pos:Pos} (hd:jD3 X keys values ks t) (he:PE X e te) (hs:XC e) (nd:ks.Nodup) (ne:keys≠[]) (h15:keys.length<=15) :
  PE X (.Subscript (.Dict keys values p1) e pos) (qot ks (lA X.K t) te):=by
 intro pins s σ H Q I hl;refine Subscript_ ?_;refine wpAny_Dict_walk (knd:=PySem.strKind X.prog X.w) hd.all hd.len ne h15 ?_;have hsz:=I.sz;have hlt:=I.lt;have I0:Inv X pins σ H { s with heap:=s.heap.push { cls:=.type "dict",data:=.dict #[] } }:=I.kept (t':=s.toks) λb o e=>Heap.get?_push_of_some _ e;have ok0:H s.heap.objs.size=none/\s.heap.objs.size≠X.env.locals/\s.heap.objs.size∉X.fs:=⟨I.fresh,λz=>Nat.lt_irrefl _ (z▸hlt),I.nofs (Nat.le_refl _)⟩
 have hcell:∀ x c,X.env.cells.lookup x=some c->c≠s.heap.objs.size:=λx c e z=>by
  obtain ⟨v,o,ho,_⟩:=I.cell x c e;have:=Heap.lt_size ho;rw [z] at this;exact Nat.lt_irrefl _ this
 have hpin:∀ p∈X.pn++pins,p.1≠s.heap.objs.size:=λp hp z=>by
  have:=Heap.lt_size (I.pin p hp).1;rw [z] at this;exact Nat.lt_irrefl _ this
 have Ip:Inv X (pins++[(s.heap.objs.size,{ cls:=.type "dict",data:=.dict #[] })]) σ H { s with heap:=s.heap.push { cls:=.type "dict",data:=.dict #[] } }:=I0.pins_of λp hp=>by
  rcases List.mem_append.mp hp with z|z
  ·exact I0.pin p (mem_append_right _ z)
  ·simp only [List.mem_singleton] at z;subst z;exact ⟨Heap.get?_push_size _ rfl,ok0.1,ok0.2.1,ok0.2.2,λv=>by simp⟩
 refine thn (hd.h p1 _ _ σ H _ Ip hl) λvs s1 ⟨xs,H1,I1,cv,q1⟩=>?_;have p1':=I1.pin (s.heap.objs.size,{ cls:=.type "dict",data:=.dict #[] }) (by simp);have hkeys:(List.map (λx=>x.fst) (ks.zip (vs.map (·.2))))=ks:=by
  have:=cv.len;rw [List.map_fst_zip (by simp;omega)]
 refine ⟨ks.zip (vs.map (·.2)),cv.carries,⟨_,#[],0,p1'.1,⟨rfl,rfl,rfl⟩,rfl,λe he=>by simp at he,by first|exact True.intro|constructor,by simp⟩,λh' hd' hsame=>?_⟩;rw [merged_nil_of_nodup _ (by rw [hkeys];exact nd)] at hd';have I1u:Inv X pins σ H1 s1:=I1.unpinned;have I2:Inv X pins σ H1 { heap:=h',gens:=s1.gens,drawn:=s1.drawn,toks:=s1.toks+vs.length,os:=s1.os }:=
  I1u.turned (it:=s.heap.objs.size) (λb o hb e=>by rw [hsame.2 b hb];exact e) p1'.2.1 ok0.2.1 (.inr hsz) hcell hpin
 obtain ⟨o,es,ep,ho,hx,hdata,hk,hp,hn⟩:=hd';have I3:Inv X (pins++[(s.heap.objs.size,o)]) σ H1 { heap:=h',gens:=s1.gens,drawn:=s1.drawn,toks:=s1.toks+vs.length,os:=s1.os }:=I2.pins_of λp hp=>by
  rcases List.mem_append.mp hp with z|z
  ·exact I2.pin p (mem_append_right _ z)
  ·simp only [List.mem_singleton] at z;subst z;exact ⟨ho,p1'.2.1,ok0.2.1,ok0.2.2,λv=>by rw [hdata];simp⟩
 refine thn (he _ _ σ H1 _ I3 q1) λu s2 ⟨y,H2,I4,ry,k,v,ey,hg,q2⟩=>?_;subst ey;obtain ⟨tk,rfl⟩:=ry;have po:=I4.pin (s.heap.objs.size,o) (by simp);have dd:s2.heap.DictOf (PySem.strKind X.prog X.w) s.heap.objs.size (ks.zip (vs.map (·.2))):=⟨o,es,ep,po.1,hx,hdata,hk,hp,hn⟩
 obtain ⟨u,hu,ru⟩:=cv.get hg;exact subscriptTail_builtinR (x:=u) ⟨_,po.1,hx.1⟩ PySem.F.slot_dict_getitem.lookup (wpAny_getItem_of (knd:=PySem.strKind X.prog X.w) (Q:=λr s'=>r=u/\EP X pins σ Q r s') (k:=k) (by show (k==k)=true;simp) dd.mapOf hu ⟨rfl,v,H2,I4.unpinned.tok _,ru,q2⟩) (hs _ _)
def qhI (ks:List Str) (t:TA3) (te:TE3):TE3:=λτ G q=>t τ G λxs G1=>te τ G1 λy G2=>match y with|.str k=>(match jW (ks.zip xs) k with|some x=>q x G2|none=>False)|_=>False
def qdu {K:Frg} {H:Hp}:∀ {ks:List Str} {xs:List T} {vs:List V} {k:Str} {x:T},Rps K H xs vs->jW (ks.zip xs) k=some x->∃ v,qdJ ks vs k=some v/\Rp K H x v
 |[],_,_,k,x,_,h=>by simp [jW] at h
 |_::_,_,_,k,x,.nil,h=>by simp [jW] at h
 |y::ks,_,_,k,x,.cons (v:=v) r t,h=>by
  by_cases e:y=k
  ·simp [jW,e] at h;subst h;exact ⟨v,by simp [qdJ,e],r⟩
  ·simp [jW,e] at h;obtain ⟨v,h1,h2⟩:=qdu t h;exact ⟨v,by simpa [qdJ,e] using h1,h2⟩
def qhw {keys:List (Option Expr)} {values:List Expr} {ks:List Str} {t:TA3} {e:Expr} {te:TE3} {p1 pos:Pos} (hd:jD3 X keys values ks t) (he:jE3 X e te) (hs:XC e:=by intro _ _;rfl) (nd:ks.Nodup:=by decide) (ne:keys≠[]:=by simp) (h15:keys.length<=15:=by decide) :
  jE3 X (.Subscript (.Dict keys values p1) e pos) (qhI ks t te):=
 ⟨R0 (qhB hd he.h hs nd ne h15) λσ H Q ⟨τ,G,q,rl,h,af⟩=>
  ⟨τ,G,_,rl,h,λxs G1 h1 vs H1 rs hr1 k1=>jc (rl.next hr1 k1) h1 λy G2 h2 v H2 ry hr2 k2 rl2=>by
   cases y<;>try exact h2.elim
   case str k=>
    cases ry;simp only at h2;split at h2
    ·rename_i x hx;obtain ⟨v,hv,rv⟩:=qdu (rs.keep hr1 k2) hx;exact ⟨k,v,rfl,hv,af _ _ h2 _ _ rv hr2 (k1.trans k2)⟩
    ·exact h2.elim⟩⟩
end
def qaH {K:Frg} {p:Addr} {od:Option Addr} {n:Nat} {sl:Array (Option Value)} {i j:Int} {ti tj:Tok} (h:K.lookup p=some ⟨.type "tuple",od,.seq #[.int i ti,.int j tj] n,sl⟩):∀ H,Rp K H (.tup [.int i,.int j]) (.ref p):=λH=>
 .tup (vs:=[.int i,.int j]) (.inr ⟨_,_,_,h,rfl,rfl,by show 2<=sizeLine;decide,.cons ⟨_,rfl⟩ (.cons ⟨_,rfl⟩ .nil)⟩) (.cons (.int _) (.cons (.int _) .nil))
def DG:List (Str×T):=[("row",.tup [.int 0,.int 1]),("column",.tup [.int 1,.int 0]),("slant",.tup [.int 1,.int 1]),("back",.tup [.int 1,.int (-1)])]
open PySem.SeqAt
def qaQ (dx:PyData):List PyData->Option Bool
 |[]=>some false
 |d::ds=>(match JC d dx,qaQ dx ds with|some b,some c=>some (b||c)|_,_=>none)
def qar {dx:PyData}:∀ {ds:List PyData} {b:Bool},qaQ dx ds=some b->∃ bs:List Bool,bs.length=ds.length/\(∀ (j:Nat) d,ds[j]?=some d->∃ c,bs[j]?=some c/\JC d dx=some c)/\b=bs.any id
 |[],b,h=>by simp [qaQ] at h;subst h;exact ⟨[],rfl,λj d hd=>by simp at hd,rfl⟩
 |d::ds,b,h=>by
  unfold qaQ at h;split at h
  ·rename_i b1 c1 e1 e2;cases h;obtain ⟨bs,hl,ha,hb⟩:=qar e2;refine ⟨b1::bs,by simp [hl],λj d' hd=>?_,by simp [hb]⟩;cases j with
   |zero=>simp at hd;subst hd;exact ⟨b1,rfl,e1⟩
   |succ j=>simpa using ha j d' (by simpa using hd)
  ·cases h
section
variable {X:Cx} {pins:List (Addr×Obj)} {σ:L2.St} {H:Hp} {s:Shared}
def KM (I:Inv X pins σ H s) {x:V} {dx:PyData} {v:Value} {xs:List V} {ds:List PyData} {its:List Value} {b:Bool} (hu:X.A.units+64<cLine) (hx:DV X.K H x dx) (rx:jT x v) (hs:DVs X.K H xs ds) (rs:jx xs its) (hb:qaQ dx ds=some b) (hd:∀ d∈ds,dpt d<=40) :
  ∃ e:Value->Bool,(∀ y∈its,EqAt X.A.in1 s y v (e y))/\its.any e=b:=by
 obtain ⟨bs,hl,ha,rfl⟩:=qar hb;have un:X.A.in1.units+40<cLine:=by
  have:X.A.in1.units<=X.A.units+8:=by first|(show X.A.units+1<=_;omega)|(show X.A.units<=_;omega)|(simp [Around.in1];omega)
  omega
 have at_:∀ (j:Nat) y,its[j]?=some y->∃ c,bs[j]?=some c/\EqAt X.A.in1 s y v c:=λj y hj=>by
  obtain ⟨hj1,_⟩:=List.getElem?_eq_some_iff.mp hj;have hxl:j<xs.length:=by rw [rs.length];exact hj1
  obtain ⟨u,hu',ru⟩:=rs.get (getElem?_eq_getElem hxl);rw [hj] at hu';cases hu';obtain ⟨d,hd1,hd2⟩:=hs.get (getElem?_eq_getElem hxl);obtain ⟨c,hc1,hc2⟩:=ha j d hd1;exact ⟨c,hc1,(T1 I 40 hd2 hx hc2 (hd d (mem_of_getElem? hd1)) un ru rx).2⟩
 classical
 refine ⟨λy=>decide (∃ j:Nat,its[j]?=some y/\bs[j]?=some true),λy hy=>?_,?_⟩
 ·by_cases he:∃ j:Nat,its[j]?=some y/\bs[j]?=some true
  ·obtain ⟨j,h1,h2⟩:=id he;obtain ⟨c,hc,eq⟩:=at_ j y h1;rw [h2] at hc;cases hc;simpa [he] using eq
  ·obtain ⟨j,hj,e⟩:=List.mem_iff_getElem.mp hy;have hj':its[j]?=some y:=by rw [getElem?_eq_getElem hj,e]
   obtain ⟨c,hc,eq⟩:=at_ j y hj';cases c with
   |true=>exact absurd ⟨j,hj',hc⟩ he
   |false=>simpa [he] using eq
 ·rw [Bool.eq_iff_iff,List.any_eq_true,List.any_eq_true];constructor
  ·rintro ⟨y,_,hy⟩;obtain ⟨j,_,h2⟩:=of_decide_eq_true hy;exact ⟨true,mem_of_getElem? h2,rfl⟩
  ·rintro ⟨c,hc,e⟩;have:c=true:=e;subst this;obtain ⟨j,hj,ej⟩:=List.mem_iff_getElem.mp hc;have hl2:its.length=bs.length:=by rw [← rs.length,hs.length,hl]
   have hj2:j<its.length:=by omega
   exact ⟨its[j],List.getElem_mem hj2,decide_eq_true ⟨j,getElem?_eq_getElem hj2,by rw [getElem?_eq_getElem hj,ej]⟩⟩
def qpy (K:Frg) (neg:Bool):R2:=λx y H Q=>∃ p xs dx ds b,y=.ref p/\(SqL K H p xs\/SqT K H p xs)/\DV K H x dx/\DVs K H xs ds/\qaQ dx ds=some b/\(∀ d∈ds,dpt d<=40)/\Q (.bl (if neg then !b else b)) H
def qms (hu:X.A.units+64<cLine):OpR X (compareOp .In) (qpy X.K false):=by
 intro pins s σ H x y v u Q I rx ry h;obtain ⟨p,xs,dx,ds,b,rfl,hq,hx,hs,hb,hd,q⟩:=h;cases ry;rcases hq with hq|hq
 ·obtain ⟨its,r,pl,hz⟩:=I.list hq;obtain ⟨e,he,ha⟩:=KM I hu hx rx hs r hb hd;refine SeqAt.in_listAt e pl.isList (λw hw=>he w (by simpa using hw)) ⟨.bl _,H,I,rfl,?_⟩;rw [show its.toArray.any e=its.any e by simp,ha];exact q
 ·obtain ⟨its,r,pl,hz⟩:=I.tuple hq;obtain ⟨e,he,ha⟩:=KM I hu hx rx hs r hb hd;refine SeqAt.in_tupleAt e pl (λw hw=>he w (by simpa using hw)) ⟨.bl _,H,I,rfl,?_⟩;rw [show its.toArray.any e=its.any e by simp,ha];exact q
def qcr (hu:X.A.units+64<cLine):OpR X (compareOp .NotIn) (qpy X.K true):=by
 intro pins s σ H x y v u Q I rx ry h;obtain ⟨p,xs,dx,ds,b,rfl,hq,hx,hs,hb,hd,q⟩:=h;cases ry;rcases hq with hq|hq
 ·obtain ⟨its,r,pl,hz⟩:=I.list hq;obtain ⟨e,he,ha⟩:=KM I hu hx rx hs r hb hd;refine SeqAt.notIn_listAt e pl.isList (λw hw=>he w (by simpa using hw)) ⟨.bl _,H,I,rfl,?_⟩;rw [show its.toArray.any e=its.any e by simp,ha];exact q
 ·obtain ⟨its,r,pl,hz⟩:=I.tuple hq;obtain ⟨e,he,ha⟩:=KM I hu hx rx hs r hb hd;refine SeqAt.notIn_tupleAt e pl (λw hw=>he w (by simpa using hw)) ⟨.bl _,H,I,rfl,?_⟩;rw [show its.toArray.any e=its.any e by simp,ha];exact q
end
def qoh (neg:Bool):R3:=λx y G q=>∃ ys dx ds b,ZX G y=some ys/\Dp G x dx/\Dps G ys ds/\qaQ dx ds=some b/\(∀ d∈ds,dpt d<=40)/\q (.bl (if neg then !b else b)) G
def qch {K:Frg} {neg:Bool}:RA K (qoh neg) (qpy K neg):=λx y v u G H q Q hr rx ry h af=>by
 obtain ⟨ys,dx,ds,b,h1,h2,h3,h4,h5,h6⟩:=h;cases y with
 |tup zs=>
  simp [ZX] at h1;subst h1;cases ry with
  |tup hs rs=>exact ⟨_,_,dx,ds,b,rfl,.inr hs,h2.dv hr rx,h3.dv hr rs,h4,h5,af _ G h6 _ H (.bl _) hr Kp.refl⟩
 |ref p=>
  simp [ZX] at h1;cases ry;obtain ⟨us,hs,rs⟩:=jo hr h1;exact ⟨_,_,dx,ds,b,rfl,.inl hs,h2.dv hr rx,h3.dv hr rs,h4,h5,af _ G h6 _ H (.bl _) hr Kp.refl⟩
 |_=>simp [ZX] at h1
end L3
namespace HT
open PySem PySem.Spec PyProof.Rows L2
section
open PySem.SeqAt
open PySem.MeetsSeq PySem.MeetsSeq2 PySem.MeetsSeq3
end
section
variable {prog:Program} {w:World} {A:Around} {E:Value->Shared->Prop} {s:Shared}
end
end HT
namespace L3
open PySem PySem.Spec PyProof.Rows L2
section
variable {X:Cx}
end
def C9:Sp3:=λ_ _ _=>False
def CA {P:Program} {w:World} {K:Frg} {mg:Str->Option Value} {base:Heap} {x qual:Str} {st:Stmt} {f:Addr} {fd:FuncData} {ps:List Str} (F:Fun K x qual st f fd) (bd:zi K fd ps []) (hm:mg x=some (.ref f)):Fn3 P w K mg base 0 x C9:=
 ⟨f,fd,ps,⟨λvs H Q E ⟨_,_,_,_,_,h,_⟩=>h.elim,λA outer s H args us vs Q E _ _ _ _ ⟨_,_,_,_,_,h,_⟩=>h.elim⟩,bd,F.kp,hm⟩
def ixT (xs:List T) (i:Int) (G:Gp) (q:Q3):ix3 (.tup xs) (.int i) G q=(match L2.atI xs i with|some z=>q z G|none=>False):=rfl
def ixR (p:Addr) (i:Int) (G:Gp) (q:Q3):ix3 (.ref p) (.int i) G q=(match zo G p with|some xs=>(match L2.atI xs i with|some z=>q z G|none=>False)|none=>False):=rfl
def jF {α:Type} {xs:List α} {i:Int} (h0:0<=i) (h1:i<(xs.length:Int)):L2.atI xs i=xs[i.toNat]?:=by
 unfold L2.atI ixN;have e1:i.toNat<xs.length:=by omega
 simp [h0,e1,h1]
def LB:¬ Str.ofString "row" = Str.ofString "block" := by decide
def qae:¬ Str.ofString "row" = Str.ofString "step" := by decide
def MS:¬ Str.ofString "row" = Str.ofString "cells" := by decide
def C1:¬ Str.ofString "column" = Str.ofString "block" := by decide
def SI:¬ Str.ofString "column" = Str.ofString "step" := by decide
def CQ:¬ Str.ofString "column" = Str.ofString "cells" := by decide
def SD:¬ Str.ofString "slant" = Str.ofString "block" := by decide
def T8:¬ Str.ofString "slant" = Str.ofString "step" := by decide
def R5:¬ Str.ofString "slant" = Str.ofString "cells" := by decide
def T5:¬ Str.ofString "back" = Str.ofString "block" := by decide
def MA:¬ Str.ofString "back" = Str.ofString "step" := by decide
def KH:¬ Str.ofString "back" = Str.ofString "cells" := by decide
def U6:¬ Str.ofString "block" = Str.ofString "cells" := by decide
def DY:¬ Str.ofString "step" = Str.ofString "block" := by decide
def WD:¬ Str.ofString "step" = Str.ofString "cells" := by decide
def cm {i j:Int} (h1:-1000000<j) (h2:j<1000000):Q7 i j:=.inr ⟨by omega,by omega⟩
def cm' {i j:Int} (h1:-1000000<i) (h2:i<1000000):Q7 i j:=.inl ⟨by omega,by omega⟩
def X6 {stay:Gp->Prop} {g:TG3} {tif:TT3} {te:TE3} {q:Q3} (items:List T) (Pv:Nat->List T->St3->Gp->Prop) {τ:St3} {G:Gp} (h0:Pv 0 [] τ G) (hst:∀ i ys τ G,i<=items.length->Pv i ys τ G->stay G)
  (hs:∀ i x ys τ G (R:List T->St3->Gp->Prop),items[i]?=some x->Pv i ys τ G->(∀ ys' τ' G',Pv (i+1) ys' τ' G'->R ys' τ' G') ->
   g x τ G λτ2 G2=>tif τ2 G2 λk G3=>if k=true then te τ2 G3 λy G4=>ys.length<sizeLine/\R (ys++[y]) τ2 G4 else R ys τ2 G3)
  (hd:∀ ys τ G,Pv items.length ys τ G->∀ p,G p=none->q (.ref p) (gu G p (.lst ys))):SB stay g tif te q items [] τ G:=by
 have key:∀ (r:List T) (i:Nat) ys τ G,items.drop i=r->i<=items.length->Pv i ys τ G->SB stay g tif te q r ys τ G:=by
  intro r;induction r with
  |nil=>
   intro i ys τ G e hi p;have:i=items.length:=by have:=congrArg List.length e;simp at this;omega
   subst this;exact ⟨hst _ ys τ G hi p,hd ys τ G p⟩
  |cons x r ih=>
   intro i ys τ G e hi p;have hl:i<items.length:=by
    apply Classical.byContradiction;intro z;rw [List.drop_eq_nil_of_le (by omega)] at e;cases e
   have e':=List.drop_eq_getElem_cons hl;rw [e] at e';injection e' with e1 e2;exact ⟨hst i ys τ G hi p,hs i x ys τ G _ (by rw [getElem?_eq_getElem hl,e1]) p λys2 τ2 G2 p2=>ih (i+1) ys2 τ2 G2 e2.symm hl p2⟩
 exact key items 0 [] τ G (by simp) (Nat.zero_le _) h0
def qai {stay:Gp->Prop} {g:TG3} {te:TE3} {q:Q3} {G:Gp} (f:T->T) (Ok:St3->Prop) (hst:stay G):∀ (items ys:List T) (τ:St3),Ok τ ->
  (∀ x∈items,∀ τ,Ok τ->∀ R:St3->T->Gp->Prop,(∀ τ',Ok τ'->R τ' (f x) G)->g x τ G λτ2 G2=>te τ2 G2 λy G4=>R τ2 y G4) ->
  ys.length+items.length<sizeLine->(∀ p,G p=none->q (.ref p) (gu G p (.lst (ys++items.map f))))->SB stay g tt3 te q items ys τ G
 |[],ys,τ,_,_,_,h=>⟨hst,by simpa using h⟩
 |x::r,ys,τ,ok,step,len,h=>by
  refine ⟨hst,?_⟩;have e:(λτ2 G2=>tt3 τ2 G2 λk G3=>if k=true then te τ2 G3 λy G4=>ys.length<sizeLine/\SB stay g tt3 te q r (ys++[y]) τ2 G4 else SB stay g tt3 te q r ys τ2 G3)=(λτ2 G2=>te τ2 G2 λy G4=>ys.length<sizeLine/\SB stay g tt3 te q r (ys++[y]) τ2 G4):=by
   funext τ2 G2;simp [tt3]
  rw [e];rw [length_cons] at len;refine step x List.mem_cons_self τ ok _ λτ' ok'=>⟨by omega,qai f Ok hst r (ys++[f x]) τ' ok' (λz hz=>step z (List.mem_cons_of_mem _ hz)) (by rw [length_append,List.length_singleton];omega) λp hp=>?_⟩
  simpa using h p hp
def KW {lo:Int} {n i:Nat} {x:T} (h:(qaJ lo n)[i]?=some x):i<n/\x=T.int (lo+(i:Int)):=by
 unfold qaJ at h;rw [getElem?_map] at h;cases e:(List.range n)[i]? with
 |none=>rw [e] at h;cases h
 |some k=>
  rw [e] at h;obtain ⟨hi,hk⟩:=List.getElem?_eq_some_iff.mp e;simp at hi hk;subst hk;exact ⟨hi,by simpa using h.symm⟩
def ZC (lo:Int) (n:Nat):(qaJ lo n).length=n:=by simp [qaJ]
end L3
namespace Bk
open PySem L2 L3
def YT:TS3:=(qD (zk (JH (λt=>QQ t "int") (v3 0)) (ja (JH (λt=>QQ t "bool") (v3 0)))))
def EY (S_is_number:Sp3):TS3:=(qD (zk (JH (λt=>QQ t "tuple") (v3 0)) (zk (o3 (zh false) (cb3 jE (qb (v3 0) qh)) (c3 (.int 2))) (zk (cb3 S_is_number (qb (o3 ix3 (v3 0) (c3 (.int 0))) qh)) (cb3 S_is_number (qb (o3 ix3 (v3 0) (c3 (.int 1))) qh))))))
def DX (S_size_of:Sp3):TS3:=(qx (qG (o3 ix3 (v3 0) (c3 (.int 0))) (gn3 1)) (qx (za (tb3 (o3 (zh false) (v3 1) (c3 (.str "bits")))) (qD (qP (qb (o3 (iC qa9 (λi j=>i*2 ^ j.toNat)) (c3 (.int 1)) (o3 ix3 (v3 0) (c3 (.int 1)))) (qb (o3 (iC qa9 (λi j=>i*2 ^ j.toNat)) (c3 (.int 1)) (o3 ix3 (v3 0) (c3 (.int 2)))) (qb (o3 (iC qa9 (λi j=>i*2 ^ j.toNat)) (c3 (.int 1)) (cb3 jE (qb (o3 ix3 (v3 0) (c3 (.int 3))) qh))) qh))))) qw) (qx (za (tb3 (o3 (zh false) (v3 1) (c3 (.str "table")))) (qD (qP (qb (cb3 jE (qb (o3 ix3 (v3 0) (c3 (.int 2))) qh)) (qb (cb3 jE (qb (o3 ix3 (o3 ix3 (v3 0) (c3 (.int 2))) (c3 (.int 0))) qh)) (qb (o3 ix3 (v3 0) (c3 (.int 1))) qh))))) qw) (qx (za (tb3 (o3 (zh false) (v3 1) (c3 (.str "joined")))) (qx (qG (cb3 S_size_of (qb (o3 ix3 (v3 0) (c3 (.int 1))) qh)) (qN 3 (qj (gn3 2) (qj (gn3 3) (qj (gn3 4) qO))))) (qx (qG (cb3 S_size_of (qb (o3 ix3 (v3 0) (c3 (.int 2))) qh)) (qN 3 (qj (gn3 5) (qj (gn3 6) (qj (gn3 7) qO))))) (qD (qP (qb (o3 (iC Q7 (·*·)) (v3 2) (v3 5)) (qb (o3 (iC Q7 (·*·)) (v3 3) (v3 6)) (qb (o3 (iC Q7 (·*·)) (v3 4) (v3 7)) qh))))))) qw) (qD (qP (qb (o3 ix3 (v3 0) (c3 (.int 1))) (qb (o3 ix3 (v3 0) (c3 (.int 2))) (qb (o3 ix3 (v3 0) (c3 (.int 3))) qh)))))))))
def YL (S_size_of:Sp3):TS3:=(qx (qG (cb3 S_size_of (qb (v3 0) qh)) (qN 3 (qj (gn3 2) (qj (gn3 3) (qj (gn3 4) qO))))) (qD (o3 q0 (o3 (iC Q7 (·*·)) (o3 ix3 (v3 1) (c3 (.int 0))) (v3 3)) (o3 ix3 (v3 1) (c3 (.int 1))))))
def DF (S_is_pair:Sp3) (S_size_of:Sp3):TS3:=(qx (za (JB (tb3 (cb3 S_is_pair (qb (v3 1) qh)))) (qD (c3 (.bl false))) qw) (qx (qG (cb3 S_size_of (qb (v3 0) qh)) (qN 3 (qj (gn3 2) (qj (gn3 3) (qj (gn3 4) qO))))) (qD (zk (ch3 (iB λi j=>decide (i<=j)) (iB λi j=>decide (i<j)) (c3 (.int 0)) (o3 ix3 (v3 1) (c3 (.int 0))) (v3 2)) (ch3 (iB λi j=>decide (i<=j)) (iB λi j=>decide (i<j)) (c3 (.int 0)) (o3 ix3 (v3 1) (c3 (.int 1))) (v3 3))))))
def jS:TS3:=(qx (qG (o3 (iI Builtin.bitAnd) (v3 0) (v3 1)) (gn3 2)) (qx (qG (c3 (.int 0)) (gn3 3)) (qx (S0 (tb3 (o3 (iB λi j=>decide (j<i)) (v3 2) (c3 (.int 0)))) (qx (VI 3 (iI (·+·)) (o3 (iI Builtin.bitAnd) (v3 2) (c3 (.int 1)))) (qG (o3 (iC (λ_ j=>0<=j) (λi j=>i/2 ^ j.toNat)) (v3 2) (c3 (.int 1))) (gn3 2)))) (qD (o3 (zh false) (o3 (iI Builtin.bitAnd) (v3 3) (c3 (.int 1))) (c3 (.int 1)))))))
def YY (S_odd_in_common:Sp3):TS3:=(qD (cb3 qi3 (qb (lc3 (SN (qb (v3 0) qh)) (qN 2 (qj (gn3 0) (qj (gn3 1) qO))) (tb3 (cb3 S_odd_in_common (qb (v3 2) (qb (v3 1) qh)))) (o3 (iC qa9 (λi j=>i*2 ^ j.toNat)) (c3 (.int 1)) (v3 0)) [none,none,some 1]) qh)))
def X3:TS3:=(qx (qG (v3 0) (qN 2 (qj (gn3 3) (qj (gn3 4) qO)))) (qD (qP (qb (qP (qb (o3 (iC qa2 (·/·)) (v3 3) (v3 1)) (qb (o3 (iC qa2 (·/·)) (v3 4) (v3 2)) qh))) (qb (qP (qb (o3 (iC (λ_ j=>0<j) (·%·)) (v3 3) (v3 1)) (qb (o3 (iC (λ_ j=>0<j) (·%·)) (v3 4) (v3 2)) qh))) qh)))))
def Q0 (S_size_of:Sp3) (S_parted:Sp3) (S_bank_in:Sp3):TS3:=(qx (qG (cb3 S_size_of (qb (v3 1) qh)) (qN 3 (qj (gn3 3) (qj (gn3 4) (qj (gn3 5) qO))))) (qx (qG (cb3 S_parted (qb (v3 2) (qb (v3 3) (qb (v3 4) qh)))) (qN 2 (qj (gn3 6) (qj (gn3 7) qO)))) (qD (o3 q0 (o3 (iC Q7 (·*·)) (cb3 S_bank_in (qb (v3 0) (qb (v3 6) qh))) (v3 5)) (cb3 S_bank_in (qb (v3 1) (qb (v3 7) qh)))))))
def DW (S_number_of:Sp3) (S_bits_bank:Sp3) (S_joined_bank:Sp3):TS3:=(qx (qG (o3 ix3 (v3 0) (c3 (.int 0))) (gn3 2)) (qx (za (tb3 (o3 (zh false) (v3 2) (c3 (.str "skew")))) (qD (o3 (iC (λ_ j=>0<j) (·%·)) (o3 q0 (o3 (iC Q7 (·*·)) (o3 ix3 (v3 0) (c3 (.int 4))) (o3 ix3 (v3 1) (c3 (.int 0)))) (o3 (iC Q7 (·*·)) (o3 ix3 (v3 0) (c3 (.int 5))) (o3 ix3 (v3 1) (c3 (.int 1))))) (o3 ix3 (v3 0) (c3 (.int 3))))) qw) (qx (za (tb3 (o3 (zh false) (v3 2) (c3 (.str "rests")))) (qD (o3 (iC (λ_ j=>0<j) (·%·)) (cb3 S_number_of (qb (v3 0) (qb (v3 1) qh))) (o3 ix3 (v3 0) (c3 (.int 3))))) qw) (qx (za (tb3 (o3 (zh false) (v3 2) (c3 (.str "bits")))) (qD (cb3 S_bits_bank (qb (o3 ix3 (v3 0) (c3 (.int 3))) (qb (cb3 S_number_of (qb (v3 0) (qb (v3 1) qh))) qh)))) qw) (qx (za (tb3 (o3 (zh false) (v3 2) (c3 (.str "table")))) (qD (o3 ix3 (o3 ix3 (o3 ix3 (v3 0) (c3 (.int 2))) (o3 ix3 (v3 1) (c3 (.int 0)))) (o3 ix3 (v3 1) (c3 (.int 1))))) qw) (qD (cb3 S_joined_bank (qb (o3 ix3 (v3 0) (c3 (.int 1))) (qb (o3 ix3 (v3 0) (c3 (.int 2))) (qb (v3 1) qh))))))))))
def D8:TS3:=(qx (qG (o3 (iC (λ_ j=>0<j) (·%·)) (o3 (iC Q7 (·*·)) (o3 q0 (o3 q0 (o3 (iC (λ_ j=>0<j) (·%·)) (v3 0) (c3 (.int 2147483629))) (o3 (iC Q7 (·*·)) (o3 (iC Q7 (·*·)) (v3 1) (v3 1)) (c3 (.int 7919)))) (c3 (.int 11))) (c3 (.int 48271))) (c3 (.int 2147483647))) (gn3 2)) (qD (o3 (iC (λ_ j=>0<j) (·%·)) (o3 (iC Q7 (·*·)) (v3 2) (v3 2)) (c3 (.int 1999999973)))))
def UL:TS3:=(qx (qG (if3 (tb3 (o3 (iB λi j=>decide (i<j)) (v3 1) (cb3 jE (qb (v3 0) qh)))) (o3 ix3 (v3 0) (v3 1)) (c3 (.int 0))) (gn3 2)) (qx (qG (if3 (tb3 (o3 (iB λi j=>decide (j<=i)) (cb3 VD (qb (v3 2) qh)) (o3 (iC qa9 (λi j=>i ^ j.toNat)) (c3 (.int 10)) (c3 (.int 18))))) (cb3 VD (qb (v3 2) qh)) (c3 (.int 0))) (gn3 3)) (qD (zM (qb (v3 3) (qb (o3 q0 (v3 2) (o3 (iC Q7 (·*·)) (c3 (.int 1000003)) (v3 1))) (qb (c3 (.int 0)) qh)))))))
def V6 (S_law_mix:Sp3):TS3:=(qx (qG (o3 q0 (o3 ix3 (v3 0) (c3 (.int 2))) (c3 (.int 1))) (zF (v3 0) (c3 (.int 2)))) (qx (za (tb3 (o3 (iB λi j=>decide (j<i)) (o3 ix3 (v3 0) (c3 (.int 0))) (c3 (.int 0)))) (qx (qG (o3 (iC (λ_ j=>0<j) (·%·)) (o3 ix3 (v3 0) (c3 (.int 0))) (v3 1)) (gn3 2)) (qx (qG (o3 (iC qa2 (·/·)) (o3 ix3 (v3 0) (c3 (.int 0))) (v3 1)) (zF (v3 0) (c3 (.int 0)))) (qD (v3 2)))) qw) (qD (o3 (iC (λ_ j=>0<j) (·%·)) (o3 (iC qa2 (·/·)) (cb3 S_law_mix (qb (cb3 S_law_mix (qb (o3 ix3 (v3 0) (c3 (.int 1))) (qb (o3 ix3 (v3 0) (c3 (.int 2))) qh))) (qb (o3 q0 (o3 ix3 (v3 0) (c3 (.int 2))) (c3 (.int 64))) qh))) (c3 (.int 64))) (v3 1)))))
def YA (S_law_pick:Sp3):TS3:=(qx (qG (o3 ix3 (zM (qb (c3 (.int 6)) (qb (c3 (.int 6)) (qb (c3 (.int 6)) (qb (c3 (.int 16)) qh))))) (cb3 S_law_pick (qb (v3 0) (qb (c3 (.int 4)) qh)))) (gn3 1)) (qx (jU 2 3 (qb (o3 q0 (c3 (.int 1)) (cb3 S_law_pick (qb (v3 0) (qb (v3 1) qh)))) (qb (o3 q0 (c3 (.int 1)) (cb3 S_law_pick (qb (v3 0) (qb (v3 1) qh)))) qh))) (qD (o3 ix3 (zM (qb (qP (qb (v3 2) (qb (v3 3) qh))) (qb (qP (qb (v3 2) (qb (v3 3) qh))) (qb (qP (qb (v3 2) (qb (v3 3) qh))) (qb (qP (qb (v3 2) (qb (v3 2) qh))) qh))))) (cb3 S_law_pick (qb (v3 0) (qb (c3 (.int 4)) qh)))))))
def EZ:TS3:=(qx (S0 (tb3 (o3 (iB λi j=>decide (j<i)) (v3 1) (c3 (.int 0)))) (jU 0 1 (qb (v3 1) (qb (o3 (iC (λ_ j=>0<j) (·%·)) (v3 0) (v3 1)) qh)))) (qD (v3 0)))
def UR (S_law_sides:Sp3) (S_law_pick:Sp3):TS3:=(qx (qG (cb3 S_law_sides (qb (v3 0) qh)) (qN 2 (qj (gn3 1) (qj (gn3 2) qO)))) (qx (qG (o3 q0 (c3 (.int 1)) (cb3 S_law_pick (qb (v3 0) (qb (o3 ix3 (zM (qb (c3 (.int 8)) (qb (c3 (.int 8)) (qb (c3 (.int 17)) (qb (c3 (.int 32)) qh))))) (cb3 S_law_pick (qb (v3 0) (qb (c3 (.int 4)) qh)))) qh)))) (gn3 3)) (qx (qG (o3 ix3 (zM (qb (v3 3) (qb (c3 (.int 10)) (qb (c3 (.int 100)) qh)))) (cb3 S_law_pick (qb (v3 0) (qb (c3 (.int 3)) qh)))) (gn3 4)) (qD (qP (qb (c3 (.str "skew")) (qb (v3 1) (qb (v3 2) (qb (v3 3) (qb (cb3 S_law_pick (qb (v3 0) (qb (v3 4) qh))) (qb (cb3 S_law_pick (qb (v3 0) (qb (v3 4) qh))) qh)))))))))))
def YK (S_law_sides:Sp3) (S_law_pick:Sp3) (S_law_gcd:Sp3):TS3:=(qx (qG (cb3 S_law_sides (qb (v3 0) qh)) (qN 2 (qj (gn3 1) (qj (gn3 2) qO)))) (qx (qG (o3 q0 (c3 (.int 1)) (cb3 S_law_pick (qb (v3 0) (qb (o3 ix3 (zM (qb (c3 (.int 8)) (qb (c3 (.int 17)) (qb (c3 (.int 32)) qh)))) (cb3 S_law_pick (qb (v3 0) (qb (c3 (.int 3)) qh)))) qh)))) (gn3 3)) (qx (qG (o3 q0 (u3 QV (o3 (iC qa2 (·/·)) (o3 (iC Q7 (·*·)) (u3 QV (v3 1)) (v3 2)) (v3 3))) (cb3 S_law_pick (qb (v3 0) (qb (c3 (.int 4)) qh)))) (gn3 4)) (qx (XY (zE (qb (c3 (.int 32)) qh)) (gn3 5) (za (tb3 (o3 (iB λi j=>decide (j<i)) (cb3 S_law_gcd (qb (v3 3) (qb (v3 4) qh))) (c3 (.int 1)))) (qG (o3 q0 (v3 4) (c3 (.int 1))) (gn3 4)) qw)) (qD (qP (qb (c3 (.str "rests")) (qb (v3 1) (qb (v3 2) (qb (v3 3) (qb (v3 4) qh)))))))))))
def US (S_law_pick:Sp3):TS3:=(qx (jU 2 3 (qb (cb3 S_law_pick (qb (v3 0) (qb (o3 q0 (v3 1) (c3 (.int 1))) qh))) (qb (cb3 S_law_pick (qb (v3 0) (qb (o3 q0 (v3 1) (c3 (.int 1))) qh))) qh))) (qx (qG (lc3 (zE (qb (cb3 S_law_pick (qb (v3 0) (qb (c3 (.int 6)) qh))) qh)) (gn3 0) tt3 (cb3 S_law_pick (qb (v3 1) (qb (c3 (.int 256)) qh))) [none,some 0]) (gn3 4)) (qx (qG (o3 ix3 (zM (qb (c3 (.int 1)) (qb (c3 (.int 2)) (qb (c3 (.int 4)) (qb (c3 (.int 8)) (qb (c3 (.int 16)) (qb (c3 (.int 32)) (qb (c3 (.int 64)) (qb (c3 (.int 128)) (qb (c3 (.int 256)) qh)))))))))) (o3 q0 (v3 2) (v3 3))) (gn3 5)) (qD (qP (qb (c3 (.str "bits")) (qb (v3 2) (qb (v3 3) (qb (cb3 qI (qb (lc3 (YQ (v3 4)) (gn3 0) tt3 (o3 (iC (λ_ j=>0<j) (·%·)) (v3 0) (v3 1)) [none,some 5]) qh)) qh)))))))))
def J1 (S_law_sides:Sp3) (S_law_pick:Sp3):TS3:=(qx (qG (cb3 S_law_sides (qb (v3 0) qh)) (qN 2 (qj (gn3 1) (qj (gn3 2) qO)))) (qx (qG (o3 q0 (c3 (.int 1)) (cb3 S_law_pick (qb (v3 0) (qb (o3 ix3 (zM (qb (c3 (.int 4)) (qb (c3 (.int 9)) (qb (c3 (.int 32)) qh)))) (cb3 S_law_pick (qb (v3 0) (qb (c3 (.int 3)) qh)))) qh)))) (gn3 3)) (qx (qG (lc3 (zE (qb (v3 1) qh)) (gn3 0) tt3 (cb3 qI (qb (lc3 (zE (qb (v3 3) qh)) (gn3 0) tt3 (cb3 S_law_pick (qb (v3 1) (qb (v3 2) qh))) [none,some 1,some 2]) qh)) [none,some 0,some 3,some 2]) (gn3 4)) (qD (qP (qb (c3 (.str "table")) (qb (v3 3) (qb (cb3 qI (qb (v3 4) qh)) qh))))))))
def J7 (S_law_pick:Sp3) (S_law_gcd:Sp3):TS3:=(qx (qG (qP (qb (o3 q0 (c3 (.int 1)) (cb3 S_law_pick (qb (v3 0) (qb (c3 (.int 4)) qh)))) (qb (o3 q0 (c3 (.int 1)) (cb3 S_law_pick (qb (v3 0) (qb (c3 (.int 4)) qh)))) (qb (o3 q0 (c3 (.int 1)) (cb3 S_law_pick (qb (v3 0) (qb (c3 (.int 5)) qh)))) qh)))) (qN 3 (qj (gn3 1) (qj (gn3 2) (qj (gn3 3) qO))))) (qx (qG (cb3 S_law_pick (qb (v3 0) (qb (c3 (.int 4)) qh))) (gn3 4)) (qx (za (tb3 (o3 (zh false) (v3 4) (c3 (.int 0)))) (qD (qP (qb (c3 (.str "skew")) (qb (v3 1) (qb (v3 2) (qb (v3 3) (qb (cb3 S_law_pick (qb (v3 0) (qb (v3 3) qh))) (qb (cb3 S_law_pick (qb (v3 0) (qb (c3 (.int 9)) qh))) qh)))))))) qw) (qx (za (tb3 (o3 (zh false) (v3 4) (c3 (.int 1)))) (qx (jU 5 6 (qb (cb3 S_law_pick (qb (v3 0) (qb (c3 (.int 3)) qh))) (qb (cb3 S_law_pick (qb (v3 0) (qb (c3 (.int 3)) qh))) qh))) (qx (qG (lc3 (zE (qb (cb3 S_law_pick (qb (v3 0) (qb (c3 (.int 3)) qh))) qh)) (gn3 0) tt3 (cb3 S_law_pick (qb (v3 1) (qb (c3 (.int 16)) qh))) [none,some 0]) (gn3 7)) (qx (qG (o3 ix3 (zM (qb (c3 (.int 1)) (qb (c3 (.int 2)) (qb (c3 (.int 4)) (qb (c3 (.int 8)) (qb (c3 (.int 16)) qh)))))) (o3 q0 (v3 5) (v3 6))) (gn3 8)) (qD (qP (qb (c3 (.str "bits")) (qb (v3 5) (qb (v3 6) (qb (cb3 qI (qb (lc3 (YQ (v3 7)) (gn3 0) tt3 (o3 (iC (λ_ j=>0<j) (·%·)) (v3 0) (v3 1)) [none,some 8]) qh)) qh))))))))) qw) (qx (za (tb3 (o3 (zh false) (v3 4) (c3 (.int 2)))) (qx (qG (o3 q0 (u3 QV (o3 (iC qa2 (·/·)) (o3 (iC Q7 (·*·)) (u3 QV (v3 1)) (v3 2)) (v3 3))) (cb3 S_law_pick (qb (v3 0) (qb (c3 (.int 3)) qh)))) (gn3 9)) (qx (XY (zE (qb (c3 (.int 9)) qh)) (gn3 10) (za (tb3 (o3 (iB λi j=>decide (j<i)) (cb3 S_law_gcd (qb (v3 3) (qb (v3 9) qh))) (c3 (.int 1)))) (qG (o3 q0 (v3 9) (c3 (.int 1))) (gn3 9)) qw)) (qD (qP (qb (c3 (.str "rests")) (qb (v3 1) (qb (v3 2) (qb (v3 3) (qb (v3 9) qh))))))))) qw) (qx (qG (lc3 (zE (qb (v3 1) qh)) (gn3 0) tt3 (cb3 qI (qb (lc3 (zE (qb (v3 3) qh)) (gn3 0) tt3 (cb3 S_law_pick (qb (v3 1) (qb (v3 2) qh))) [none,some 1,some 2]) qh)) [none,some 0,some 3,some 2]) (gn3 11)) (qD (qP (qb (c3 (.str "table")) (qb (v3 3) (qb (cb3 qI (qb (v3 11) qh)) qh)))))))))))
def Q1 (S_law_pick:Sp3) (S_law_skew:Sp3) (S_law_rests:Sp3) (S_law_bits:Sp3) (S_law_table:Sp3) (S_law_small:Sp3):TS3:=(qx (qG (cb3 S_law_pick (qb (v3 0) (qb (c3 (.int 8)) qh))) (gn3 1)) (qx (za (tb3 (o3 (iB λi j=>decide (i<j)) (v3 1) (c3 (.int 2)))) (qD (cb3 S_law_skew (qb (v3 0) qh))) qw) (qx (za (tb3 (o3 (zh false) (v3 1) (c3 (.int 2)))) (qD (cb3 S_law_rests (qb (v3 0) qh))) qw) (qx (za (tb3 (o3 (zh false) (v3 1) (c3 (.int 3)))) (qD (cb3 S_law_bits (qb (v3 0) (qb (c3 (.int 4)) qh)))) qw) (qx (za (tb3 (o3 (zh false) (v3 1) (c3 (.int 4)))) (qD (cb3 S_law_table (qb (v3 0) qh))) qw) (qx (za (tb3 (o3 (zh false) (v3 1) (c3 (.int 5)))) (qx (qG (qP (qb (c3 (.str "joined")) (qb (qP (qb (c3 (.str "skew")) (qb (o3 q0 (c3 (.int 1)) (cb3 S_law_pick (qb (v3 0) (qb (c3 (.int 2)) qh)))) (qb (c3 (.int 1)) (qb (c3 (.int 2)) (qb (c3 (.int 1)) (qb (c3 (.int 1)) qh))))))) (qb (qP (qb (c3 (.str "table")) (qb (c3 (.int 2)) (qb (qP (qb (qP (qb (c3 (.int 1)) (qb (c3 (.int 0)) qh))) qh)) qh)))) qh)))) (gn3 2)) (qx (qG (zM (qb (qP (qb (c3 (.str "joined")) (qb (v3 2) (qb (cb3 S_law_small (qb (v3 0) qh)) qh)))) (qb (qP (qb (c3 (.str "joined")) (qb (cb3 S_law_small (qb (v3 0) qh)) (qb (v3 2) qh)))) qh))) (gn3 3)) (qx (zw (bm3 JG (v3 3) (qb (qP (qb (c3 (.str "joined")) (qb (qP (qb (c3 (.str "skew")) (qb (c3 (.int 8)) (qb (c3 (.int 1)) (qb (c3 (.int 3)) (qb (c3 (.int 1)) (qb (c3 (.int 1)) qh))))))) (qb (qP (qb (c3 (.str "rests")) (qb (c3 (.int 2)) (qb (c3 (.int 16)) (qb (c3 (.int 5)) (qb (c3 (.int 7)) qh)))))) qh)))) qh))) (qx (zw (bm3 JG (v3 3) (qb (qP (qb (c3 (.str "joined")) (qb (qP (qb (c3 (.str "rests")) (qb (c3 (.int 1)) (qb (c3 (.int 8)) (qb (c3 (.int 3)) (qb (c3 (.int 4)) qh)))))) (qb (qP (qb (c3 (.str "skew")) (qb (c3 (.int 16)) (qb (c3 (.int 2)) (qb (c3 (.int 5)) (qb (c3 (.int 2)) (qb (c3 (.int 1)) qh))))))) qh)))) qh))) (qD (o3 ix3 (v3 3) (cb3 S_law_pick (qb (v3 0) (qb (c3 (.int 4)) qh))))))))) qw) (qD (qP (qb (c3 (.str "joined")) (qb (cb3 S_law_small (qb (v3 0) qh)) (qb (cb3 S_law_small (qb (v3 0) qh)) qh)))))))))))
def DT:TS3:=(qx (qG (c3 (.bl false)) (gn3 1)) (qx (XY (zE (qb (c3 (.int 9)) qh)) (gn3 2) (qG (o3 (zh true) (v3 1) (o3 (zh false) (o3 (iC (λ_ j=>0<j) (·%·)) (o3 (iC qa2 (·/·)) (v3 0) (o3 ix3 (zM (qb (c3 (.int 1)) (qb (c3 (.int 2)) (qb (c3 (.int 4)) (qb (c3 (.int 8)) (qb (c3 (.int 16)) (qb (c3 (.int 32)) (qb (c3 (.int 64)) (qb (c3 (.int 128)) (qb (c3 (.int 256)) qh)))))))))) (v3 2))) (c3 (.int 2))) (c3 (.int 1)))) (gn3 1))) (qD (v3 1))))
def UI (S_law_size:Sp3) (S_law_odd:Sp3) (S_law_bank:Sp3):TS3:=(qx (qG (cb3 S_law_size (qb (v3 0) qh)) (qN 3 (qj (gn3 3) (qj (gn3 4) (qj (gn3 5) qO))))) (qx (za (tb3 (o3 (zh false) (o3 ix3 (v3 0) (c3 (.int 0))) (c3 (.str "skew")))) (qD (o3 (iC (λ_ j=>0<j) (·%·)) (o3 q0 (o3 (iC Q7 (·*·)) (o3 ix3 (v3 0) (c3 (.int 4))) (v3 1)) (o3 (iC Q7 (·*·)) (o3 ix3 (v3 0) (c3 (.int 5))) (v3 2))) (v3 5))) qw) (qx (za (tb3 (o3 (zh false) (o3 ix3 (v3 0) (c3 (.int 0))) (c3 (.str "rests")))) (qD (o3 (iC (λ_ j=>0<j) (·%·)) (o3 q0 (o3 (iC Q7 (·*·)) (v3 1) (v3 4)) (v3 2)) (v3 5))) qw) (qx (za (tb3 (o3 (zh false) (o3 ix3 (v3 0) (c3 (.int 0))) (c3 (.str "bits")))) (qx (qG (lc3 (SN (qb (o3 ix3 (v3 0) (c3 (.int 3))) qh)) (qN 2 (qj (gn3 0) (qj (gn3 1) qO))) (tb3 (cb3 S_law_odd (qb (o3 (iI Builtin.bitAnd) (o3 q0 (o3 (iC Q7 (·*·)) (v3 3) (v3 4)) (v3 2)) (v3 1)) qh))) (o3 ix3 (zM (qb (c3 (.int 1)) (qb (c3 (.int 2)) (qb (c3 (.int 4)) (qb (c3 (.int 8)) (qb (c3 (.int 16)) qh)))))) (v3 0)) [none,none,some 2,some 1,some 4]) (gn3 6)) (qD (cb3 qi3 (qb (v3 6) qh)))) qw) (qx (za (tb3 (o3 (zh false) (o3 ix3 (v3 0) (c3 (.int 0))) (c3 (.str "table")))) (qD (o3 ix3 (o3 ix3 (o3 ix3 (v3 0) (c3 (.int 2))) (v3 1)) (v3 2))) qw) (qx (qG (cb3 S_law_size (qb (o3 ix3 (v3 0) (c3 (.int 2))) qh)) (qN 3 (qj (gn3 7) (qj (gn3 8) (qj (gn3 9) qO))))) (qD (o3 q0 (o3 (iC Q7 (·*·)) (cb3 S_law_bank (qb (o3 ix3 (v3 0) (c3 (.int 1))) (qb (o3 (iC qa2 (·/·)) (v3 1) (v3 7)) (qb (o3 (iC qa2 (·/·)) (v3 2) (v3 8)) qh)))) (v3 9)) (cb3 S_law_bank (qb (o3 ix3 (v3 0) (c3 (.int 2))) (qb (o3 (iC (λ_ j=>0<j) (·%·)) (v3 1) (v3 7)) (qb (o3 (iC (λ_ j=>0<j) (·%·)) (v3 2) (v3 8)) qh))))))))))))
inductive Dl where
 |skew (r c b x y:Int)
 |rests (r c b p:Int)
 |bits (h l:Nat) (ms:List Int)
 |table (b:Int) (cells:List (List Int))
 |joined (d e:Dl)
def qam (r:List Int):T:=.tup (r.map T.int)
def Dl.t:Dl->T
 |.skew r c b x y=>.tup [.str "skew",.int r,.int c,.int b,.int x,.int y]
 |.rests r c b p=>.tup [.str "rests",.int r,.int c,.int b,.int p]
 |.bits h l ms=>.tup [.str "bits",.int h,.int l,.tup (ms.map T.int)]
 |.table b cells=>.tup [.str "table",.int b,.tup (cells.map qam)]
 |.joined d e=>.tup [.str "joined",d.t,e.t]
def Dl.R:Dl->Int
 |.skew r _ _ _ _=>r
 |.rests r _ _ _=>r
 |.bits h _ _=>2 ^ h
 |.table _ cells=>cells.length
 |.joined d e=>d.R*e.R
def Dl.C:Dl->Int
 |.skew _ c _ _ _=>c
 |.rests _ c _ _=>c
 |.bits _ l _=>2 ^ l
 |.table _ cells=>((cells[0]?).getD []).length
 |.joined d e=>d.C*e.C
def Dl.B:Dl->Int
 |.skew _ _ b _ _=>b
 |.rests _ _ b _=>b
 |.bits _ _ ms=>2 ^ ms.length
 |.table b _=>b
 |.joined d e=>d.B*e.B
def pop:Nat->Nat->Nat
 |0,_=>0
 |k+1,n=>n%2+pop k (n/2)
def qbl (n m:Int):Bool:=pop 64 (Builtin.bitAnd n m).toNat%2==1
def YW (n:Int):Nat->List Int->Int
 |_,[]=>0
 |t,m::ms=>(if qbl n m then 2 ^ t else 0)+YW n (t+1) ms
def WE (ms:List Int) (n:Int):Int:=YW n 0 ms
def Dl.bank:Dl->Int->Int->Int
 |.skew _ _ b x y,i,j=>(x*i+y*j)%b
 |.rests _ c b _,i,j=>(i*c+j)%b
 |.bits _ l ms,i,j=>WE ms (i*2 ^ l+j)
 |.table _ cells,i,j=>(((cells[i.toNat]?).getD [])[j.toNat]?).getD 0
 |.joined d e,i,j=>d.bank (i/e.R) (j/e.C)*e.B+e.bank (i%e.R) (j%e.C)
def Dl.Ok:Dl->Prop
 |.skew r c b x y=>1<=r/\r<=60/\1<=c/\c<=60/\1<=b/\b<=1000/\0<=x/\x<=1000/\0<=y/\y<=1000
 |.rests r c b p=>1<=r/\r<=60/\1<=c/\c<=60/\1<=b/\b<=1000/\1<=p/\p<=100000/\Int.gcd b p=1/\r*c<=b*p
 |.bits h l ms=>h<=4/\l<=4/\ms.length<=5/\∀ m∈ms,0<=m/\m<2 ^ (h+l)
 |.table b cells=>1<=b/\b<=1000/\1<=cells.length/\cells.length<=60/\∃ c,1<=c/\c<=60/\∀ row∈cells,row.length=c/\∀ x∈row,0<=x/\x<b
 |.joined d e=>d.Ok/\e.Ok/\d.R*e.R<=4096/\d.C*e.C<=4096/\d.B*e.B<=4096
def Dl.dep:Dl->Nat
 |.joined d e=>max d.dep e.dep+1
 |_=>0
def p2 (n:Nat):((2:Int) ^ n)=((2 ^ n:Nat):Int):=by simp
def DU (n:Nat):(1:Int)<=2 ^ n:=by
 rw [p2];have:=Nat.one_le_two_pow (n:=n);omega
def DP {n k:Nat} (h:n<=k):(2:Int) ^ n<=2 ^ k:=by
 rw [p2,p2];have:=Nat.pow_le_pow_right (n:=2) (by omega) h;omega
structure Lims (d:Dl):Prop where
 r1:1<=d.R
 r2:d.R<=4096
 c1:1<=d.C
 c2:d.C<=4096
 b1:1<=d.B
 b2:d.B<=4096
def UC {a b:Int} (h1:1<=a) (h2:1<=b):1<=a*b:=by
 have:=Int.mul_le_mul (a:=1) (b:=1) (c:=a) (d:=b) h1 h2 (by omega) (by omega);omega
def Dl.lims:∀ {d:Dl},d.Ok->Lims d
 |.skew r c b x y,⟨h1,h2,h3,h4,h5,h6,_⟩=>⟨h1,by simp [Dl.R];omega,h3,by simp [Dl.C];omega,h5,by simp [Dl.B];omega⟩
 |.rests r c b x,⟨h1,h2,h3,h4,h5,h6,_⟩=>⟨h1,by simp [Dl.R];omega,h3,by simp [Dl.C];omega,h5,by simp [Dl.B];omega⟩
 |.bits h l ms,⟨h1,h2,h3,_⟩=>by
  have e1:=DP h1;have e2:=DP h2;have e3:=DP h3;refine ⟨DU _,?_,DU _,?_,DU _,?_⟩<;>simp [Dl.R,Dl.C,Dl.B]<;>omega
 |.table b cells,⟨h1,h2,h3,h4,c,h5,h6,h7⟩=>by
  have e0:cells[0]?=some cells[0]:=getElem?_eq_getElem (by omega);have e1:=(h7 cells[0] (List.getElem_mem _)).1;have e2:(Dl.table b cells).C=c:=by simp [Dl.C,e0,e1]
  exact ⟨by simp [Dl.R];omega,by simp [Dl.R];omega,by rw [e2];omega,by rw [e2];omega,h1,by simp [Dl.B];omega⟩
 |.joined d e,⟨h1,h2,h3,h4,h5⟩=>by
  have a:=Dl.lims h1;have b:=Dl.lims h2;exact ⟨UC a.r1 b.r1,h3,UC a.c1 b.c1,h4,UC a.b1 b.b1,h5⟩
structure Inn (d:Dl) (i j:Int):Prop where
 i1:0<=i
 i2:i<d.R
 j1:0<=j
 j2:j<d.C
def XT (d:Dl):T:=.tup [.int d.R,.int d.C,.int d.B]
def wdT (i j:Int):T:=.tup [.int i,.int j]
def js:Nat->Sp3
 |0=>C9
 |n+1=>λts G q=>∃ d:Dl,ts=[d.t]/\d.dep<=n/\d.Ok/\q (XT d) G
def XM (n:Nat):Sp3:=λts G q=>∃ (d:Dl) (i j:Int),ts=[d.t,wdT i j]/\d.dep<=n/\d.Ok/\q (.int (i*d.C+j)) G
def VC:Sp3:=λts G q=>∃ (n m:Int),ts=[.int n,.int m]/\0<=n/\0<=m/\m<2 ^ 64/\q (.bl (qbl n m)) G
def XQ:Sp3:=λts G q=>∃ (ms:List Int) (n:Int),ts=[.tup (ms.map T.int),.int n]/\ms.length<=30/\(∀ m∈ms,0<=m/\m<2 ^ 64)/\0<=n/\∀ G',Ex G G'->q (.int (WE ms n)) G'
def JT:Nat->Sp3
 |0=>C9
 |n+1=>λts G q=>∃ (d:Dl) (i j:Int),ts=[d.t,wdT i j]/\d.dep<=n/\d.Ok/\Inn d i j/\∀ G',Ex G G'->q (.int (d.bank i j)) G'
def LA:Sp3:=λts G q=>∃ (i j r c:Int),ts=[wdT i j,.int r,.int c]/\(0<r/\r<1000000)/\(0<c/\c<1000000)/\q (.tup [wdT (i/r) (j/c),wdT (i%r) (j%c)]) G
def U4 (n:Nat):Sp3:=λts G q=>∃ (d e:Dl) (i j:Int),ts=[d.t,e.t,wdT i j]/\(Dl.joined d e).dep<=n/\(Dl.joined d e).Ok/\Inn (.joined d e) i j/\∀ G',Ex G G'->q (.int ((Dl.joined d e).bank i j)) G'
def qbj (n:Nat):Sp3:=λts G q=>∃ (d:Dl) (i j:Int),ts=[d.t,wdT i j]/\d.dep<=n/\d.Ok/\Inn d i j/\∀ G',Ex G G'->q (.int (d.bank i j)) G'
abbrev RO (q:Q3):Ends3:={ nx:=λ_ G'=>q .non G',rt:=q }
def qn7 {j:Nat} (h:j<=1000):qa9 1 (j:Int):=⟨by omega,by omega,by decide⟩
def jb {A B:TS3} {d:Ends3} {τ:St3} {G:Gp} (h:∀ nx,nx=B d->A { d with nx:=nx } τ G):qx A B d τ G:=h _ rfl
def zN {s l:Str} {i:Nat} {R S:TS3} {d:Ends3} {τ:St3} {G:Gp} (hτ:τ[i]?=some (some (T.str s))):qx (za (tb3 (o3 (zh false) (v3 i) (c3 (.str l)))) R qw) S d τ G=(if s=l then R { d with nx:=S d } τ G else S d τ G):=by
 simp only [qx,za,tb3,o3,v3,hτ,c3,zh,qZ,qw];by_cases e:s=l<;>simp [e]
def W8 (n:Nat):∀ ts G q,js (n+1) ts G q->ts.length=1/\DX (js n) (RO q) (qm ["dealing","kind","rows","columns","banks","other_rows","other_columns","other_banks"] ts) G:=by
 rintro ts G q ⟨d,rfl,hd,ok,h⟩;refine ⟨rfl,?_⟩;unfold DX;refine jb λnx q1=>?_;cases d with
 |skew r c b x y=>
  show nx [some (Dl.skew r c b x y).t,some (.str "skew"),none,none,none,none,none,none] G;rw [q1,zN rfl,if_neg (by decide),zN rfl,if_neg (by decide),zN rfl,if_neg (by decide)];simp [Dl.t,qx,qG,gn3,qD,jw,za,zw,VH,qw,v3,c3,o3,u3,QV,L3.ixT,L3.ixR,q0,iI,iC,iB,zh,qZ,YD,tb3,VB,or3,JB,zk,UV,ja,if3,ch3,cb3,qb,qh,JH,tyT,QQ,qP,zM,JX,np3,sp3,qN,qj,qO,zF,JY,jU,qm,bm3,JG,JF,jE,VD,VE,UX,ZW,qI,zT,Y8,UY,VI,L2.atI,ixN,Z4,HT.sIx,zo,in3,zq,eqF,gu,sizeLine_eq,getElem?_cons_zero,getElem?_cons_succ];exact h
 |rests r c b x=>
  show nx [some (Dl.rests r c b x).t,some (.str "rests"),none,none,none,none,none,none] G;rw [q1,zN rfl,if_neg (by decide),zN rfl,if_neg (by decide),zN rfl,if_neg (by decide)];simp [Dl.t,qx,qG,gn3,qD,jw,za,zw,VH,qw,v3,c3,o3,u3,QV,L3.ixT,L3.ixR,q0,iI,iC,iB,zh,qZ,YD,tb3,VB,or3,JB,zk,UV,ja,if3,ch3,cb3,qb,qh,JH,tyT,QQ,qP,zM,JX,np3,sp3,qN,qj,qO,zF,JY,jU,qm,bm3,JG,JF,jE,VD,VE,UX,ZW,qI,zT,Y8,UY,VI,L2.atI,ixN,Z4,HT.sIx,zo,in3,zq,eqF,gu,sizeLine_eq,getElem?_cons_zero,getElem?_cons_succ];exact h
 |bits hh l ms=>
  obtain ⟨k1,k2,k3,_⟩:=ok;show nx [some (Dl.bits hh l ms).t,some (.str "bits"),none,none,none,none,none,none] G;rw [q1,zN rfl,if_pos rfl];simp [Dl.t,qx,qG,gn3,qD,jw,za,zw,VH,qw,v3,c3,o3,u3,QV,L3.ixT,L3.ixR,q0,iI,iC,iB,zh,qZ,YD,tb3,VB,or3,JB,zk,UV,ja,if3,ch3,cb3,qb,qh,JH,tyT,QQ,qP,zM,JX,np3,sp3,qN,qj,qO,zF,JY,jU,qm,bm3,JG,JF,jE,VD,VE,UX,ZW,qI,zT,Y8,UY,VI,L2.atI,ixN,Z4,HT.sIx,zo,in3,zq,eqF,gu,sizeLine_eq,getElem?_cons_zero,getElem?_cons_succ];exact ⟨qn7 (by omega),qn7 (by omega),qn7 (by omega),h⟩
 |table b cells=>
  have L:=Dl.lims ok;obtain ⟨k1,k2,k3,k4,c,k5,k6,k7⟩:=ok;cases cells with
  |nil=>simp at k3
  |cons row cells=>
   show nx [some (Dl.table b (row::cells)).t,some (.str "table"),none,none,none,none,none,none] G;rw [q1,zN rfl,if_neg (by decide),zN rfl,if_pos rfl];simp [Dl.t,qam,qx,qG,gn3,qD,jw,za,zw,VH,qw,v3,c3,o3,u3,QV,L3.ixT,L3.ixR,q0,iI,iC,iB,zh,qZ,YD,tb3,VB,or3,JB,zk,UV,ja,if3,ch3,cb3,qb,qh,JH,tyT,QQ,qP,zM,JX,np3,sp3,qN,qj,qO,zF,JY,jU,qm,bm3,JG,JF,jE,VD,VE,UX,ZW,qI,zT,Y8,UY,VI,L2.atI,ixN,Z4,HT.sIx,zo,in3,zq,eqF,gu,sizeLine_eq,getElem?_cons_zero,getElem?_cons_succ];simpa [XT,Dl.R,Dl.C,Dl.B] using h
 |joined d e=>
  have Ld:=Dl.lims ok.1;have Le:=Dl.lims ok.2.1;have:1<=n:=by simp [Dl.dep] at hd;omega
  obtain ⟨m,rfl⟩:∃ m,n=m+1:=⟨n-1,by omega⟩
  show nx [some (Dl.joined d e).t,some (.str "joined"),none,none,none,none,none,none] G;rw [q1,zN rfl,if_neg (by decide),zN rfl,if_neg (by decide),zN rfl,if_pos rfl];simp [Dl.t,qx,qG,gn3,qD,jw,za,zw,VH,qw,v3,c3,o3,u3,QV,L3.ixT,L3.ixR,q0,iI,iC,iB,zh,qZ,YD,tb3,VB,or3,JB,zk,UV,ja,if3,ch3,cb3,qb,qh,JH,tyT,QQ,qP,zM,JX,np3,sp3,qN,qj,qO,zF,JY,jU,qm,bm3,JG,JF,jE,VD,VE,UX,ZW,qI,zT,Y8,UY,VI,L2.atI,ixN,Z4,HT.sIx,zo,in3,zq,eqF,gu,sizeLine_eq,getElem?_cons_zero,getElem?_cons_succ];refine ⟨d,rfl,by simp [Dl.dep] at hd;omega,ok.1,?_⟩;simp [XT];refine ⟨e,rfl,by simp [Dl.dep] at hd;omega,ok.2.1,?_⟩;have e1:=Le.r1;have e2:=Le.r2;have e3:=Le.c1;have e4:=Le.c2;have e5:=Le.b1;have e6:=Le.b2;simp [XT];exact ⟨cm (by omega) (by omega),cm (by omega) (by omega),cm (by omega) (by omega),h⟩
def CD:∀ k,pop k 0=0
 |0=>rfl
 |k+1=>by simp [pop,CD k]
def CH:∀ (k n:Nat),n<2 ^ k->pop (k+1) n=pop k n
 |0,n,h=>by simp at h;subst h;simp [pop]
 |k+1,n,h=>by
  rw [pop,CH k (n/2) (by rw [Nat.pow_succ] at h;omega)];rfl
def VY (n:Nat):∀ ts G q,XM n ts G q->ts.length=2/\YL (js (n+1)) (RO q) (qm ["dealing","word","rows","columns","banks"] ts) G:=by
 rintro ts G q ⟨d,i,j,rfl,hd,ok,h⟩;refine ⟨rfl,?_⟩;have L:=Dl.lims ok;simp [YL,qx,qG,gn3,qD,jw,za,zw,VH,qw,v3,c3,o3,u3,QV,L3.ixT,L3.ixR,q0,iI,iC,iB,zh,qZ,YD,tb3,VB,or3,JB,zk,UV,ja,if3,ch3,cb3,qb,qh,JH,tyT,QQ,qP,zM,JX,np3,sp3,qN,qj,qO,zF,JY,jU,qm,bm3,JG,JF,jE,VD,VE,UX,ZW,qI,zT,Y8,UY,VI,L2.atI,ixN,Z4,HT.sIx,zo,in3,zq,eqF,gu,sizeLine_eq,getElem?_cons_zero,getElem?_cons_succ];refine ⟨d,rfl,hd,ok,?_⟩;simp [XT,wdT,qx,qG,gn3,qD,jw,za,zw,VH,qw,v3,c3,o3,u3,QV,L3.ixT,L3.ixR,q0,iI,iC,iB,zh,qZ,YD,tb3,VB,or3,JB,zk,UV,ja,if3,ch3,cb3,qb,qh,JH,tyT,QQ,qP,zM,JX,np3,sp3,qN,qj,qO,zF,JY,jU,qm,bm3,JG,JF,jE,VD,VE,UX,ZW,qI,zT,Y8,UY,VI,L2.atI,ixN,Z4,HT.sIx,zo,in3,zq,eqF,gu,sizeLine_eq,getElem?_cons_zero,getElem?_cons_succ];exact ⟨cm (by have:=L.c1;omega) (by have:=L.c2;omega),h⟩
def X0:∀ ts G q,VC ts G q->ts.length=2/\jS (RO q) (qm ["number","mask","common","many"] ts) G:=by
 rintro ts G q ⟨n,m,rfl,hn,hm,hm2,h⟩;refine ⟨rfl,?_⟩;have hr:=PyProof.Rows.bitAnd_range n hm;simp [jS,qx,qG,gn3,qD,jw,za,zw,VH,qw,v3,c3,o3,u3,QV,L3.ixT,L3.ixR,q0,iI,iC,iB,zh,qZ,YD,tb3,VB,or3,JB,zk,UV,ja,if3,ch3,cb3,qb,qh,JH,tyT,QQ,qP,zM,JX,np3,sp3,qN,qj,qO,zF,JY,jU,qm,bm3,JG,JF,jE,VD,VE,UX,ZW,qI,zT,Y8,UY,VI,L2.atI,ixN,Z4,HT.sIx,zo,in3,zq,eqF,gu,sizeLine_eq,getElem?_cons_zero,getElem?_cons_succ,S0];refine ⟨λk τ G'=>G'=G/\∃ c y:Nat,τ=[some (.int n),some (.int m),some (.int (c:Int)),some (.int (y:Int))]/\c<2 ^ k/\y+pop k c=pop 64 (Builtin.bitAnd n m).toNat,
  ⟨64,rfl,(Builtin.bitAnd n m).toNat,0,by simp;omega,by omega,by simp⟩,?_⟩
 rintro k τ G' ⟨rfl,c,y,rfl,hc,e⟩;simp [PyProof.Rows.bitAnd_m1];by_cases h0:0<c
 ·have hk:1<=k:=by
   rcases Nat.eq_zero_or_pos k with z|z
   ·subst z;simp at hc;omega
   ·exact z
  obtain ⟨k',rfl⟩:∃ k',k=k'+1:=⟨k-1,by omega⟩
  simp [h0];refine ⟨λτ' G''=>G''=G'/\∃ c y:Nat,τ'=[some (.int n),some (.int m),some (.int (c:Int)),some (.int (y:Int))]/\c<2 ^ k'/\y+pop k' c=pop 64 (Builtin.bitAnd n m).toNat,?_,rfl,c/2,y+c%2,?_,?_,?_⟩
  ·rintro τ' G'' ⟨e1,c',y',e2,e3,e4⟩;exact ⟨k',by omega,e1,c',y',e2,e3,e4⟩
  ·simp
  ·rw [Nat.pow_succ] at hc;omega
  ·rw [pop] at e;omega
 ·have hc0:c=0:=by omega
  subst hc0;simp;rw [CD] at e;have e':(qbl n m)=decide ((y:Int)%2=1):=by
   unfold qbl;rw [← e,Nat.add_zero];by_cases hy:y%2=1
   ·have:(y:Int)%2=1:=by omega
    simp [hy,this]
   ·have:¬ (y:Int)%2=1:=by omega
    simp [hy,this]
  rw [← e'];exact h
def zP (n:Int):Nat->List Int->List Int
 |_,[]=>[]
 |t,m::ms=>(if qbl n m then [2 ^ t] else [])++zP n (t+1) ms
def YO (n:Int):∀ (t:Nat) (xs ys:List Int),zP n t (xs++ys)=zP n t xs++zP n (t+xs.length) ys
 |_,[],_=>by simp [zP]
 |t,x::xs,ys=>by simp [zP,YO n (t+1) xs ys,Nat.add_assoc,Nat.add_comm 1]
def V9 (n:Int):∀ (t:Nat) (ms:List Int),(zP n t ms).sum=YW n t ms
 |_,[]=>rfl
 |t,m::ms=>by
  simp only [zP,YW,List.sum_append,V9 n (t+1) ms];split<;>simp
def Q8 (n:Int):∀ (t:Nat) (ms:List Int),(zP n t ms).length<=ms.length
 |_,[]=>by simp [zP]
 |t,m::ms=>by
  have:=Q8 n (t+1) ms;simp only [zP,length_append,length_cons];split<;>simp<;>omega
def UE (n:Int):∀ (t:Nat) (ms:List Int) (x:Int),x∈zP n t ms->∃ k,k<t+ms.length/\x=2 ^ k
 |_,[],_,h=>by simp [zP] at h
 |t,m::ms,x,h=>by
  simp only [zP,List.mem_append] at h;rcases h with h|h
  ·split at h
   ·simp at h;exact ⟨t,by simp,h⟩
   ·simp at h
  ·obtain ⟨k,h1,h2⟩:=UE n (t+1) ms x h;exact ⟨k,by simp;omega,h2⟩
def LD:∀ ts G q,XQ ts G q->ts.length=2/\YY VC (RO q) (qm ["masks","number"] ts) G:=by
 rintro ts G q ⟨ms,n,rfl,hl,hm,hn,h⟩;refine ⟨rfl,?_⟩;simp [YY,lc3,SN,ZX,cap,qx,qG,gn3,qD,jw,za,zw,VH,qw,v3,c3,o3,u3,QV,L3.ixT,L3.ixR,q0,iI,iC,iB,zh,qZ,YD,tb3,VB,or3,JB,zk,UV,ja,if3,ch3,cb3,qb,qh,JH,tyT,QQ,qP,zM,JX,np3,sp3,qN,qj,qO,zF,JY,jU,qm,bm3,JG,JF,jE,VD,VE,UX,ZW,qI,zT,Y8,UY,VI,L2.atI,ixN,Z4,HT.sIx,zo,in3,zq,eqF,gu,sizeLine_eq,getElem?_cons_zero,getElem?_cons_succ];refine X6 _ (λi ys τ G'=>G'=G/\ys=(zP n 0 (ms.take i)).map T.int/\∃ x0 x1,τ=[x0,x1,some (.int n)]) ⟨rfl,by simp [zP],none,none,rfl⟩ (λi ys τ G' _ hp=>by simp [ZX]) ?_ ?_
 ·rintro i z ys τ G' R hz ⟨rfl,rfl,x0,x1,rfl⟩ hR;obtain ⟨a,ha,rfl⟩:=DL hz;rw [getElem?_map] at ha;cases e:ms[i]? with
  |none=>rw [e] at ha;cases ha
  |some m=>
   rw [e] at ha;have:a=T.int m:=by simpa using ha.symm
   subst this;obtain ⟨hi,hm'⟩:=List.getElem?_eq_some_iff.mp e;have mm:m∈ms:=by rw [← hm'];exact List.getElem_mem hi
   simp [qx,qG,gn3,qD,jw,za,zw,VH,qw,v3,c3,o3,u3,QV,L3.ixT,L3.ixR,q0,iI,iC,iB,zh,qZ,YD,tb3,VB,or3,JB,zk,UV,ja,if3,ch3,cb3,qb,qh,JH,tyT,QQ,qP,zM,JX,np3,sp3,qN,qj,qO,zF,JY,jU,qm,bm3,JG,JF,jE,VD,VE,UX,ZW,qI,zT,Y8,UY,VI,L2.atI,ixN,Z4,HT.sIx,zo,in3,zq,eqF,gu,sizeLine_eq,getElem?_cons_zero,getElem?_cons_succ];refine ⟨n,m,rfl,hn,(hm m mm).1,(hm m mm).2,?_⟩;have tk:ms.take (i+1)=ms.take i++[m]:=by rw [List.take_succ_eq_append_getElem hi,hm']
   have lt:(ms.take i).length=i:=by rw [List.length_take];omega
   have st:zP n 0 (ms.take (i+1))=zP n 0 (ms.take i)++(if qbl n m then [2 ^ i] else []):=by
    rw [tk,YO,lt];simp [zP]
   have cl:=Q8 n 0 (ms.take i);cases ho:qbl n m with
   |true=>
    simp;refine ⟨qn7 (by omega),by omega,hR _ _ _ ⟨rfl,?_,_,_,rfl⟩⟩;rw [st,ho];simp
   |false=>
    simp;refine hR _ _ _ ⟨rfl,?_,_,_,rfl⟩;rw [st,ho];simp
 ·rintro ys τ G' ⟨rfl,rfl,x0,x1,rfl⟩ p hp;rw [CV,length_map,List.take_length];simp [qi3,zo,qy,DJ];refine ⟨⟨by have:=Q8 n 0 ms;omega,λx hx=>?_⟩,?_⟩
  ·obtain ⟨k,h1,rfl⟩:=UE n 0 ms x hx;have:=DU k;have:=DP (n:=k) (k:=30) (by omega);omega
  ·rw [V9];exact h _ (ZP hp)
def qaE {h l:Nat} {i j:Int} (i1:0<=i) (j1:0<=j):0<=i*2 ^ l+j:=by
 have:=Int.mul_nonneg i1 (show (0:Int)<=2 ^ l by have:=DU l;omega);omega
def XB (n:Nat):∀ ts G q,JT (n+1) ts G q->ts.length=2/\DW (XM n) XQ (U4 n) (RO q) (qm ["dealing","word","kind"] ts) G:=by
 rintro ts G q ⟨d,i,j,rfl,hd,ok,I,h⟩;refine ⟨rfl,?_⟩;unfold DW;refine jb λnx q1=>?_;have h:=h;have i1:=I.i1;have i2:=I.i2;have j1:=I.j1;have j2:=I.j2;have L:=Dl.lims ok;have r2:=L.r2;have c2:=L.c2;cases d with
 |skew r c b x y=>
  have k:=ok;obtain ⟨k1,k2,k3,k4,k5,k6,k7,k8,k9,k10⟩:=ok;show nx [some (Dl.skew r c b x y).t,some (wdT i j),some (.str "skew")] G;rw [q1,zN rfl,if_pos rfl];simp [Dl.t,wdT,qx,qG,gn3,qD,jw,za,zw,VH,qw,v3,c3,o3,u3,QV,L3.ixT,L3.ixR,q0,iI,iC,iB,zh,qZ,YD,tb3,VB,or3,JB,zk,UV,ja,if3,ch3,cb3,qb,qh,JH,tyT,QQ,qP,zM,JX,np3,sp3,qN,qj,qO,zF,JY,jU,qm,bm3,JG,JF,jE,VD,VE,UX,ZW,qI,zT,Y8,UY,VI,L2.atI,ixN,Z4,HT.sIx,zo,in3,zq,eqF,gu,sizeLine_eq,getElem?_cons_zero,getElem?_cons_succ];exact ⟨cm' (by omega) (by omega),cm' (by omega) (by omega),by omega,h _ Ex.refl⟩
 |rests r c b x=>
  have k:=ok;obtain ⟨k1,k2,k3,k4,k5,k6,k7,k8,k9⟩:=ok;show nx [some (Dl.rests r c b x).t,some (wdT i j),some (.str "rests")] G;rw [q1,zN rfl,if_neg (by decide),zN rfl,if_pos rfl];simp [Dl.t,wdT,qx,qG,gn3,qD,jw,za,zw,VH,qw,v3,c3,o3,u3,QV,L3.ixT,L3.ixR,q0,iI,iC,iB,zh,qZ,YD,tb3,VB,or3,JB,zk,UV,ja,if3,ch3,cb3,qb,qh,JH,tyT,QQ,qP,zM,JX,np3,sp3,qN,qj,qO,zF,JY,jU,qm,bm3,JG,JF,jE,VD,VE,UX,ZW,qI,zT,Y8,UY,VI,L2.atI,ixN,Z4,HT.sIx,zo,in3,zq,eqF,gu,sizeLine_eq,getElem?_cons_zero,getElem?_cons_succ];refine ⟨.rests r c b x,i,j,rfl,hd,k,?_⟩;simp;exact ⟨by omega,h _ Ex.refl⟩
 |bits hh l ms=>
  have k:=ok;obtain ⟨k1,k2,k3,k4⟩:=ok;show nx [some (Dl.bits hh l ms).t,some (wdT i j),some (.str "bits")] G;rw [q1,zN rfl,if_neg (by decide),zN rfl,if_neg (by decide),zN rfl,if_pos rfl];simp [Dl.t,wdT,qx,qG,gn3,qD,jw,za,zw,VH,qw,v3,c3,o3,u3,QV,L3.ixT,L3.ixR,q0,iI,iC,iB,zh,qZ,YD,tb3,VB,or3,JB,zk,UV,ja,if3,ch3,cb3,qb,qh,JH,tyT,QQ,qP,zM,JX,np3,sp3,qN,qj,qO,zF,JY,jU,qm,bm3,JG,JF,jE,VD,VE,UX,ZW,qI,zT,Y8,UY,VI,L2.atI,ixN,Z4,HT.sIx,zo,in3,zq,eqF,gu,sizeLine_eq,getElem?_cons_zero,getElem?_cons_succ];refine ⟨.bits hh l ms,i,j,rfl,hd,k,?_⟩;refine ⟨ms,_,rfl,by omega,λm hm=>⟨(k4 m hm).1,?_⟩,qaE (h:=hh) i1 j1,λG' E=>h G' E⟩;have:=(k4 m hm).2;have:=DP (n:=hh+l) (k:=10) (by omega);omega
 |table b cells=>
  obtain ⟨k1,k2,k3,k4,c,k5,k6,k7⟩:=ok;have e0:cells[0]?=some cells[0]:=getElem?_eq_getElem (by omega);have eC:(Dl.table b cells).C=c:=by simp [Dl.C,e0,(k7 cells[0] (List.getElem_mem _)).1]
  have eR:(Dl.table b cells).R=cells.length:=rfl;rw [eR] at i2;rw [eC] at j2;have hi:i.toNat<cells.length:=by omega
  have hrow:=k7 cells[i.toNat] (List.getElem_mem hi);have hj:j.toNat<cells[i.toNat].length:=by rw [hrow.1];omega
  show nx [some (Dl.table b cells).t,some (wdT i j),some (.str "table")] G;rw [q1,zN rfl,if_neg (by decide),zN rfl,if_neg (by decide),zN rfl,if_neg (by decide),zN rfl,if_pos rfl];simp [Dl.t,wdT,qx,qG,gn3,qD,jw,za,zw,VH,qw,v3,c3,o3,u3,QV,L3.ixT,L3.ixR,q0,iI,iC,iB,zh,qZ,YD,tb3,VB,or3,JB,zk,UV,ja,if3,ch3,cb3,qb,qh,JH,tyT,QQ,qP,zM,JX,np3,sp3,qN,qj,qO,zF,JY,jU,qm,bm3,JG,JF,jE,VD,VE,UX,ZW,qI,zT,Y8,UY,VI,Z4,HT.sIx,zo,in3,zq,eqF,gu,sizeLine_eq,getElem?_cons_zero,getElem?_cons_succ,jF (xs:=[T.str (Str.ofString "table"),.int b,.tup (cells.map qam)]) (i:=2) (by omega) (by simp),jF (xs:=[T.str (Str.ofString "table"),.int b,.tup (cells.map qam)]) (i:=0) (by omega) (by simp),jF (xs:=[T.int i,.int j]) (i:=0) (by omega) (by simp),jF (xs:=[T.int i,.int j]) (i:=1) (by omega) (by simp)];rw [jF i1 (by simpa using i2)];simp [hi,qam,L3.ixT];rw [jF j1 (by simp;omega)];simp [hj];have:=h G Ex.refl;simpa [Dl.bank,hi,hj] using this
 |joined d e=>
  show nx [some (Dl.joined d e).t,some (wdT i j),some (.str "joined")] G;rw [q1,zN rfl,if_neg (by decide),zN rfl,if_neg (by decide),zN rfl,if_neg (by decide),zN rfl,if_neg (by decide)];simp [Dl.t,wdT,qx,qG,gn3,qD,jw,za,zw,VH,qw,v3,c3,o3,u3,QV,L3.ixT,L3.ixR,q0,iI,iC,iB,zh,qZ,YD,tb3,VB,or3,JB,zk,UV,ja,if3,ch3,cb3,qb,qh,JH,tyT,QQ,qP,zM,JX,np3,sp3,qN,qj,qO,zF,JY,jU,qm,bm3,JG,JF,jE,VD,VE,UX,ZW,qI,zT,Y8,UY,VI,L2.atI,ixN,Z4,HT.sIx,zo,in3,zq,eqF,gu,sizeLine_eq,getElem?_cons_zero,getElem?_cons_succ];exact ⟨d,e,i,j,rfl,hd,ok,I,h⟩
def qeS {i a b:Int} (h0:0<=i) (h1:i<a*b) (hb:1<=b):0<=i/b/\i/b<a/\0<=i%b/\i%b<b:=
 ⟨Int.ediv_nonneg h0 (by omega),Int.ediv_lt_of_lt_mul (by omega) h1,Int.emod_nonneg _ (by omega),Int.emod_lt_of_pos _ (by omega)⟩
def Inn.up {d e:Dl} {i j:Int} (I:Inn (.joined d e) i j) (Le:Lims e):Inn d (i/e.R) (j/e.C)/\Inn e (i%e.R) (j%e.C):=by
 obtain ⟨i1,i2,j1,j2⟩:=I;obtain ⟨a1,a2,a3,a4⟩:=qeS i1 i2 Le.r1;obtain ⟨b1,b2,b3,b4⟩:=qeS j1 j2 Le.c1;exact ⟨⟨a1,a2,b1,b2⟩,⟨a3,a4,b3,b4⟩⟩
def qdc:∀ ts G q,LA ts G q->ts.length=3/\X3 (RO q) (qm ["word","rows","columns","i","j"] ts) G:=by
 rintro ts G q ⟨i,j,r,c,rfl,hr,hc,h⟩;refine ⟨rfl,?_⟩;simp [X3,wdT,qx,qG,gn3,qD,jw,za,zw,VH,qw,v3,c3,o3,u3,QV,L3.ixT,L3.ixR,q0,iI,iC,iB,zh,qZ,YD,tb3,VB,or3,JB,zk,UV,ja,if3,ch3,cb3,qb,qh,JH,tyT,QQ,qP,zM,JX,np3,sp3,qN,qj,qO,zF,JY,jU,qm,bm3,JG,JF,jE,VD,VE,UX,ZW,qI,zT,Y8,UY,VI,L2.atI,ixN,Z4,HT.sIx,zo,in3,zq,eqF,gu,sizeLine_eq,getElem?_cons_zero,getElem?_cons_succ];exact ⟨⟨by omega,by omega⟩,⟨by omega,by omega⟩,by omega,by omega,h⟩
def JE (n:Nat):∀ ts G q,U4 n ts G q->ts.length=3/\Q0 (js (n+1)) LA (JT n) (RO q) (qm ["one","other","word","rows","columns","banks","upper","lower"] ts) G:=by
 rintro ts G q ⟨d,e,i,j,rfl,hd,ok,I,h⟩;refine ⟨rfl,?_⟩;obtain ⟨kd,ke,kr,kc,kb⟩:=ok;have Le:=Dl.lims ke;obtain ⟨I1,I2⟩:=I.up Le;have:1<=n:=by simp [Dl.dep] at hd;omega
 obtain ⟨m,rfl⟩:∃ m,n=m+1:=⟨n-1,by omega⟩
 have r1:=Le.r1;have r2:=Le.r2;have c1:=Le.c1;have c2:=Le.c2;have b1:=Le.b1;have b2:=Le.b2;simp [Q0,qx,qG,gn3,qD,jw,za,zw,VH,qw,v3,c3,o3,u3,QV,L3.ixT,L3.ixR,q0,iI,iC,iB,zh,qZ,YD,tb3,VB,or3,JB,zk,UV,ja,if3,ch3,cb3,qb,qh,JH,tyT,QQ,qP,zM,JX,np3,sp3,qN,qj,qO,zF,JY,jU,qm,bm3,JG,JF,jE,VD,VE,UX,ZW,qI,zT,Y8,UY,VI,L2.atI,ixN,Z4,HT.sIx,zo,in3,zq,eqF,gu,sizeLine_eq,getElem?_cons_zero,getElem?_cons_succ];refine ⟨e,rfl,by simp [Dl.dep] at hd;omega,ke,?_⟩;simp [XT];refine ⟨i,j,_,_,rfl,⟨by omega,by omega⟩,⟨by omega,by omega⟩,?_⟩;simp;refine ⟨d,_,_,rfl,by simp [Dl.dep] at hd;omega,kd,I1,λG1 E1=>?_⟩;simp;refine ⟨cm (by omega) (by omega),e,_,_,rfl,by simp [Dl.dep] at hd;omega,ke,I2,λG2 E2=>?_⟩;simp;exact h _ (E1.trans E2)
def Lf (G:Gp) (a:Addr) (n:Int):Prop:=∃ o c m,G a=some (.lst [.int o,.int c,.int m])/\0<=o/\0<=m/\m<=n
def Ext (a:Addr) (G G':Gp):Prop:=∀ b o,b≠a->G b=some o->G' b=some o
def Lf.ne {G:Gp} {a p:Addr} {n:Int} (h:Lf G a n) (hp:G p=none):p≠a:=by
 rintro rfl;obtain ⟨o,c,m,e,_⟩:=h;rw [hp] at e;cases e
def Lf.new {G:Gp} {a p:Addr} {n:Int} {ob:O} (h:Lf G a n) (hp:p≠a):Lf (gu G p ob) a n:=by
 obtain ⟨o,c,m,e,r⟩:=h;exact ⟨o,c,m,by rw [jL (Ne.symm hp)];exact e,r⟩
def Lf.mono {G:Gp} {a:Addr} {n k:Int} (h:Lf G a n) (hk:n<=k):Lf G a k:=by
 obtain ⟨o,c,m,e,h1,h2,h3⟩:=h;exact ⟨o,c,m,e,h1,h2,by omega⟩
def Lf.ex {G G':Gp} {a:Addr} {n:Int} (h:Lf G a n) (e:Ex G G'):Lf G' a n:=by
 obtain ⟨o,c,m,e1,h1⟩:=h;exact ⟨o,c,m,e _ _ e1,h1⟩
def Ext.refl {a:Addr} {G:Gp}:Ext a G G:=λ_ _ _ e=>e
def Ext.trans {a:Addr} {G G1 G2:Gp} (x:Ext a G G1) (y:Ext a G1 G2):Ext a G G2:=λb o hb e=>y b o hb (x b o hb e)
def zJ {a p:Addr} {G:Gp} {ob:O} (hp:G p=none):Ext a G (gu G p ob):=λb o _ e=>by
 rw [jL (by rintro rfl;rw [hp] at e;cases e)];exact e
def MB {a:Addr} {G G':Gp} (h:Ex G G'):Ext a G G':=λb o _ e=>h b o e
def SV:Sp3:=λts G q=>∃ c k,ts=[.int c,.int k]/\0<=k/\k<4294967296/\∀ m,0<=m->m<1999999973->q (.int m) G
def YZ:Sp3:=λts G q=>∃ (a:Addr) (k:Int) (ns:List Int),ts=[.ref a,.int k]/\G a=some (.frz (ns.map T.int))/\ns.length<=63/\0<=k/\k<=63/\∀ p o c,G p=none->0<=o->q (.ref p) (gu G p (.lst [.int o,.int c,.int 0]))
def qF:Sp3:=λts G q=>∃ a n many,ts=[.ref a,.int many]/\1<=many/\many<1073741824/\Lf G a n/\n<1073741824/\∀ d G',0<=d->d<many->Lf G' a (n+1)->Ext a G G'->q (.int d) G'
def Z1:Sp3:=λts G q=>∃ a n,ts=[.ref a]/\Lf G a n/\n<100000000/\∀ r c G',1<=r->r<=16->1<=c->c<=16->Lf G' a (n+4)->Ext a G G'->q (.tup [.int r,.int c]) G'
def WK:Sp3:=λts G q=>∃ x y:Int,ts=[.int x,.int y]/\0<=x/\0<=y/\q (.int (Int.gcd x y:Nat)) G
structure Dr (d:Dl) (r c b:Int):Prop where
 ok:d.Ok
 r2:d.R<=r
 c2:d.C<=c
 b2:d.B<=b
def CU:Sp3:=λts G q=>∃ a n,ts=[.ref a]/\Lf G a n/\n<10000000/\∀ r c b x y G',Dr (.skew r c b x y) 16 16 32->Lf G' a (n+10)->Ext a G G'->q (Dl.skew r c b x y).t G'
def XS:Sp3:=λts G q=>∃ a n,ts=[.ref a]/\Lf G a n/\n<10000000/\∀ r c b p G',Dr (.rests r c b p) 16 16 32->Lf G' a (n+10)->Ext a G G'->q (Dl.rests r c b p).t G'
def qS {a:Addr} {n many:Int} {G:Gp} {q:Q3} (hL:Lf G a n) (h1:1<=many) (h2:many<1073741824) (hn:n<1073741824) (h:∀ d G',0<=d->d<many->Lf G' a (n+1)->Ext a G G'->q (.int d) G'):qF [.ref a,.int many] G q:=⟨a,n,many,rfl,h1,h2,hL,hn,h⟩
def qbu:∀ ts G q,SV ts G q->ts.length=2/\D8 (RO q) (qm ["_law_cell","_law_k","_law_m"] ts) G:=by
 rintro ts G q ⟨c,k,rfl,h1,h2,h⟩;refine ⟨rfl,?_⟩;simp only [D8,qx,qG,o3,v3,qm,map_cons,List.map_nil,length_cons,length_nil,Nat.zero_add,Nat.reduceAdd,Nat.reduceSub,List.replicate_one,cons_append,List.nil_append,Nat.zero_lt_succ,getElem?_pos,getElem_cons_zero,c3,iC,Int.reduceLT,Nat.reduceLT,getElem_cons_succ,q0,gn3,qD,set_cons_succ,set_cons_zero,Nat.lt_add_one,true_and];exact ⟨.inl ⟨by omega,by omega⟩,cm (by omega) (by omega),cm (by omega) (by omega),.inl ⟨by omega,by omega⟩,h _ (Int.emod_nonneg _ (by omega)) (Int.emod_lt_of_pos _ (by omega))⟩
def cp:qa9 10 18:=⟨by decide,by decide,by decide⟩
def NZ:∀ ts G q,YZ ts G q->ts.length=2/\UL (RO q) (qm ["_law_script","_law_k","_law_cell","_law_own"] ts) G:=by
 rintro ts G q ⟨a,k,ns,rfl,hG,hl,h1,h2,h⟩;refine ⟨rfl,?_⟩;simp only [UL,qx,qG,if3,tb3,o3,v3,qm,map_cons,List.map_nil,length_cons,length_nil,Nat.zero_add,Nat.reduceAdd,Nat.reduceSub,List.reduceReplicate,cons_append,List.nil_append,Nat.reduceLT,getElem?_pos,getElem_cons_succ,getElem_cons_zero,cb3,qb,Nat.zero_lt_succ,qh,jE,zo,hG,iB,length_map,decide_eq_true_eq,gn3,set_cons_succ,set_cons_zero,VD,c3,iC,Int.reduceToNat,Int.reducePow,qD,zM,Nat.lt_add_one,q0,ne_eq,sizeLine_eq,Nat.reduceLeDiff,true_and,gu,ixR,atI,ixN,getElem?_map,Int.lt_irrefl,↓reduceIte,Int.reduceLE,decide_false,Bool.false_eq_true,Int.zero_add];have ck:Q7 1000003 k:=cm (by omega) (by omega);by_cases hk:k<ns.length
 ·have hk':k.toNat<ns.length:=by omega
  simp [hk,h1,hk',cp,ck];split
  ·split
   ·exact λp hp=>h p (-ns[k.toNat]) _ hp (by omega)
   ·exact λp hp=>h p 0 _ hp (by omega)
  ·split
   ·exact λp hp=>h p ns[k.toNat] _ hp (by omega)
   ·exact λp hp=>h p 0 _ hp (by omega)
 ·simp [hk,cp,ck];exact λp hp=>h p 0 _ hp (by omega)
def NC:∀ ts G q,qF ts G q->ts.length=2/\V6 SV (RO q) (qm ["_law_left_here","_law_many","_law_digit"] ts) G:=by
 rintro ts G q ⟨a,n,many,rfl,m1,m2,⟨o,c,m,hG,ho,hm,hn⟩,h3,h⟩;refine ⟨rfl,?_⟩;unfold V6;refine jb λnx1 q1=>?_;simp only [qG,o3,v3,qm,map_cons,List.map_nil,length_cons,length_nil,Nat.zero_add,Nat.reduceAdd,Nat.reduceSub,List.replicate_one,cons_append,List.nil_append,Nat.zero_lt_succ,getElem?_pos,getElem_cons_zero,c3,q0,ne_eq,sizeLine_eq,zF,JY,ixN,Int.zero_le_ofNat,↓reduceIte,Int.reduceToNat,tb3,iB,decide_eq_true_eq,Nat.reduceLT,getElem_cons_succ,iC,gn3,set_cons_succ,set_cons_zero,Std.le_refl,Int.natCast_pos,Int.toNat_zero,qD,Nat.lt_add_one,ixR,zo,atI,qw,cb3,qb,qh,Int.toNat_one,List.length_set,hG,Int.cast_ofNat_Int,Int.reduceLT,Option.bind_some,qy];rw [q1];clear q1;refine jb λnx2 q2=>?_;simp only [za,qG,o3,v3,qm,map_cons,List.map_nil,length_cons,length_nil,Nat.zero_add,Nat.reduceAdd,Nat.reduceSub,List.replicate_one,cons_append,List.nil_append,Nat.zero_lt_succ,getElem?_pos,getElem_cons_zero,c3,q0,ne_eq,sizeLine_eq,zF,JY,ixN,Int.zero_le_ofNat,↓reduceIte,Int.reduceToNat,tb3,iB,decide_eq_true_eq,Nat.reduceLT,getElem_cons_succ,iC,gn3,set_cons_succ,set_cons_zero,Std.le_refl,Int.natCast_pos,Int.toNat_zero,qD,Nat.lt_add_one,ixR,zo,atI,qw,cb3,qb,qh,Int.toNat_one,List.length_set,hG,Int.cast_ofNat_Int,Int.reduceLT,Option.bind_some,qy];split
 ·simp only [qx,qG,o3,v3,length_cons,length_nil,Nat.zero_add,Nat.reduceAdd,Nat.zero_lt_succ,getElem?_pos,getElem_cons_zero,c3,Nat.reduceLT,getElem_cons_succ,iC,gn3,set_cons_succ,set_cons_zero,zF,JY,ixN,Std.le_refl,↓reduceIte,Int.natCast_pos,Int.toNat_zero,qD,Nat.lt_add_one,ixR,zo,atI,qy,Int.cast_ofNat_Int,Int.reduceLT,Option.bind_some];refine ⟨by omega,⟨by omega,m2⟩,h _ _ (Int.emod_nonneg _ (by omega)) (Int.emod_lt_of_pos _ (by omega)) ⟨o/many,c,m+1,qy,Int.ediv_nonneg ho (by omega),by omega,by omega⟩ λb ob hb e=>?_⟩;rw [jL hb,jL hb];exact e
 ·rw [q2];clear q2;simp only [qG,o3,v3,qm,map_cons,List.map_nil,length_cons,length_nil,Nat.zero_add,Nat.reduceAdd,Nat.reduceSub,List.replicate_one,cons_append,List.nil_append,Nat.zero_lt_succ,getElem?_pos,getElem_cons_zero,c3,q0,ne_eq,sizeLine_eq,zF,JY,ixN,Int.zero_le_ofNat,↓reduceIte,Int.reduceToNat,tb3,iB,decide_eq_true_eq,Nat.reduceLT,getElem_cons_succ,iC,gn3,set_cons_succ,set_cons_zero,Std.le_refl,Int.natCast_pos,Int.toNat_zero,qD,Nat.lt_add_one,ixR,zo,atI,qw,cb3,qb,qh,Int.toNat_one,List.length_set,hG,Int.cast_ofNat_Int,Int.reduceLT,Option.bind_some,qy];refine ⟨c,m+1,rfl,by omega,by omega,λu u1 u2=>?_⟩;simp only [qG,o3,v3,qm,map_cons,List.map_nil,length_cons,length_nil,Nat.zero_add,Nat.reduceAdd,Nat.reduceSub,List.replicate_one,cons_append,List.nil_append,Nat.zero_lt_succ,getElem?_pos,getElem_cons_zero,c3,q0,ne_eq,sizeLine_eq,zF,JY,ixN,Int.zero_le_ofNat,↓reduceIte,Int.reduceToNat,tb3,iB,decide_eq_true_eq,Nat.reduceLT,getElem_cons_succ,iC,gn3,set_cons_succ,set_cons_zero,Std.le_refl,Int.natCast_pos,Int.toNat_zero,qD,Nat.lt_add_one,ixR,zo,atI,qw,cb3,qb,qh,Int.toNat_one,List.length_set,hG,Int.cast_ofNat_Int,Int.reduceLT,Option.bind_some,qy];refine ⟨u,m+1+64,rfl,by omega,by omega,λv v1 v2=>?_⟩;refine ⟨⟨by omega,by omega⟩,by omega,h _ _ (Int.emod_nonneg _ (by omega)) (Int.emod_lt_of_pos _ (by omega)) ⟨o,c,m+1,qy,ho,by omega,by omega⟩ λb ob hb e=>?_⟩;rw [jL hb];exact e
def qea {x y:Int} (hy:0<y):Int.gcd y (x%y)=Int.gcd x y:=by
 rw [Int.emod_def,Int.gcd_comm x y];simp
def qa3:∀ ts G q,WK ts G q->ts.length=2/\EZ (RO q) (qm ["_law_one","_law_other"] ts) G:=by
 rintro ts G q ⟨x,y,rfl,hx,hy,h⟩;refine ⟨rfl,?_⟩;simp only [EZ,qx,S0,qm,map_cons,List.map_nil,length_cons,length_nil,Nat.zero_add,Nat.reduceAdd,Nat.sub_self,List.replicate_zero,List.append_nil,tb3,o3,v3,c3,iB,decide_eq_true_eq,jU,qb,iC,qh,qD];refine ⟨λn τ G'=>G'=G/\∃ u v:Int,τ=[some (.int u),some (.int v)]/\n=v.toNat/\0<=u/\0<=v/\Int.gcd u v=Int.gcd x y,⟨_,rfl,x,y,rfl,rfl,hx,hy,rfl⟩,?_⟩;rintro n τ G' ⟨eG,u,v,rfl,rfl,hu,hv,e⟩;simp;by_cases h0:0<v
 ·simp [h0];refine ⟨λτ' G'=>G'=G/\∃ x' y':Int,τ'=[some (.int x'),some (.int y')]/\y'.toNat<v.toNat/\0<=x'/\0<=y'/\Int.gcd x' y'=Int.gcd x y,λτ' G' ⟨e1,x',y',e2,e3,e4,e5,e6⟩=>⟨y'.toNat,by omega,e1,x',y',e2,rfl,e4,e5,e6⟩,eG,v,u%v,rfl,?_,hv,Int.emod_nonneg _ (by omega),by rw [qea h0,e]⟩;have:=Int.emod_lt_of_pos u h0;omega
 ·have:v=0:=by omega
  subst this;simp at e;simp [eG];have:u=(Int.gcd x y:Nat):=by omega
  rw [this];exact h
def qok {d:Int} (h1:0<=d) (h2:d<4) {x0 x1 x2 x3:T} {P:T->Prop} (p0:P x0) (p1:P x1) (p2:P x2) (p3:P x3):∃ x,L2.atI [x0,x1,x2,x3] d=some x/\P x:=by
 have:d=0\/d=1\/d=2\/d=3:=by omega
 rcases this with rfl|rfl|rfl|rfl
 ·exact ⟨x0,rfl,p0⟩
 ·exact ⟨x1,rfl,p1⟩
 ·exact ⟨x2,rfl,p2⟩
 ·exact ⟨x3,rfl,p3⟩
def qox {d:Int} (h1:0<=d) (h2:d<3) {x0 x1 x2:T} {P:T->Prop} (p0:P x0) (p1:P x1) (p2:P x2):∃ x,L2.atI [x0,x1,x2] d=some x/\P x:=by
 have:d=0\/d=1\/d=2:=by omega
 rcases this with rfl|rfl|rfl
 ·exact ⟨x0,rfl,p0⟩
 ·exact ⟨x1,rfl,p1⟩
 ·exact ⟨x2,rfl,p2⟩
def MQ:∀ ts G q,Z1 ts G q->ts.length=1/\YA qF (RO q) (qm ["_law_left_here","_law_wide","_law_rows","_law_columns"] ts) G:=by
 rintro ts G q ⟨a,n,rfl,hL,hn,h⟩;refine ⟨rfl,?_⟩;unfold YA;refine jb λnx1 q1=>?_;simp only [qG,o3,zM,qb,c3,qh,length_cons,length_nil,Nat.zero_add,Nat.reduceAdd,sizeLine_eq,Nat.reduceLeDiff,cb3,v3,qm,map_cons,List.map_nil,Nat.add_one_sub_one,List.reduceReplicate,cons_append,List.nil_append,Nat.zero_lt_succ,getElem?_pos,getElem_cons_zero,gn3,set_cons_succ,set_cons_zero,true_and];intro p hp;have hpa:=hL.ne hp;refine qS (hL.new hpa) (by decide) (by decide) (by omega) λd G1 d1 d2 L1 E1=>?_;have g1:=E1 p _ hpa qy;obtain ⟨w,hw,w',rfl,w1,w2⟩:=qok d1 d2 (P:=λt=>∃ w,t=T.int w/\1<=w/\w<=16) ⟨6,rfl,by decide⟩ ⟨6,rfl,by decide⟩ ⟨6,rfl,by decide⟩ ⟨16,rfl,by decide⟩;simp only [ixR,zo,g1,hw];rw [q1];clear q1;refine jb λnx2 q2=>?_;simp only [jU,qb,o3,c3,cb3,v3,length_cons,length_nil,Nat.zero_add,Nat.reduceAdd,Nat.zero_lt_succ,getElem?_pos,getElem_cons_zero,Nat.reduceLT,getElem_cons_succ,qh,q0,ne_eq,sizeLine_eq,set_cons_succ,set_cons_zero];refine qS L1 w1 (by omega) (by omega) λr G2 r1 r2 L2' E2=>?_;simp only [iI,qx,qG,o3,zM,qb,c3,qh,length_cons,length_nil,Nat.zero_add,Nat.reduceAdd,sizeLine_eq,Nat.reduceLeDiff,cb3,v3,qm,map_cons,List.map_nil,Nat.add_one_sub_one,List.reduceReplicate,cons_append,List.nil_append,Nat.zero_lt_succ,getElem?_pos,getElem_cons_zero,gn3,jU,set_cons_succ,set_cons_zero,Nat.reduceLT,getElem_cons_succ,q0,ne_eq,qD,qP,Nat.lt_add_one,true_and,gu];refine qS L2' w1 (by omega) (by omega) λc G3 c1 c2 L3' E3=>?_;simp only [iI,qx,qG,o3,zM,qb,c3,qh,length_cons,length_nil,Nat.zero_add,Nat.reduceAdd,sizeLine_eq,Nat.reduceLeDiff,cb3,v3,qm,map_cons,List.map_nil,Nat.add_one_sub_one,List.reduceReplicate,cons_append,List.nil_append,Nat.zero_lt_succ,getElem?_pos,getElem_cons_zero,gn3,jU,set_cons_succ,set_cons_zero,Nat.reduceLT,getElem_cons_succ,q0,ne_eq,qD,qP,Nat.lt_add_one,true_and,gu];rw [q2];clear q2;simp only [qD,o3,zM,qb,qP,v3,length_cons,length_nil,Nat.zero_add,Nat.reduceAdd,Nat.reduceLT,getElem?_pos,getElem_cons_succ,getElem_cons_zero,Nat.lt_add_one,qh,sizeLine_eq,Nat.reduceLeDiff,cb3,Nat.zero_lt_succ,c3,true_and];intro p2 hp2;have hpa2:=L3'.ne hp2;refine qS (L3'.new hpa2) (by decide) (by decide) (by omega) λe G4 e1 e2 L4 E4=>?_;have g4:=E4 p2 _ hpa2 qy;have x1:1<=1+r:=by omega
 have x2:1+r<=16:=by omega
 have x3:1<=1+c:=by omega
 have x4:1+c<=16:=by omega
 obtain ⟨t,ht,r',c',rfl,z1,z2,z3,z4⟩:=qok e1 e2 (P:=λt=>∃ r' c',t=T.tup [.int r',.int c']/\1<=r'/\r'<=16/\1<=c'/\c'<=16) ⟨1+r,1+c,rfl,x1,x2,x3,x4⟩ ⟨1+r,1+c,rfl,x1,x2,x3,x4⟩ ⟨1+r,1+c,rfl,x1,x2,x3,x4⟩ ⟨1+r,1+r,rfl,x1,x2,x1,x2⟩;simp only [ixR,zo,g4,ht];exact h r' c' G4 z1 z2 z3 z4 (L4.mono (by omega)) ((((zJ hp).trans E1).trans (E2.trans E3)).trans ((zJ hp2).trans E4))
def M7:∀ ts G q,CU ts G q->ts.length=1/\UR Z1 qF (RO q) (qm ["_law_left_here","_law_rows","_law_columns","_law_banks","_law_wide"] ts) G:=by
 rintro ts G q ⟨a,n,rfl,hL,hn,h⟩;refine ⟨rfl,?_⟩;unfold UR;refine jb λnx1 q1=>?_;simp only [qG,cb3,qb,v3,qm,map_cons,List.map_nil,length_cons,length_nil,Nat.zero_add,Nat.reduceAdd,Nat.add_one_sub_one,List.reduceReplicate,cons_append,List.nil_append,Nat.zero_lt_succ,getElem?_pos,getElem_cons_zero,qh,qN,qj,gn3,qO,set_cons_succ,set_cons_zero];refine ⟨a,n,rfl,hL,by omega,λr c G1 r1 r2 c1 c2 L1 E1=>?_⟩;simp only [length_cons,length_nil,Nat.zero_add,Nat.reduceAdd,true_and];rw [q1];clear q1;refine jb λnx2 q2=>?_;simp only [qG,o3,c3,cb3,qb,v3,length_cons,length_nil,Nat.zero_add,Nat.reduceAdd,Nat.zero_lt_succ,getElem?_pos,getElem_cons_zero,zM,qh,sizeLine_eq,Nat.reduceLeDiff,q0,ne_eq,gn3,set_cons_succ,set_cons_zero,true_and];intro p hp;have hpa:=L1.ne hp;refine qS (L1.new hpa) (by decide) (by decide) (by omega) λd G2 d1 d2 L2' E2=>?_;have g2:=E2 p _ hpa qy;obtain ⟨w,hw,w',rfl,w1,w2⟩:=qok d1 d2 (P:=λt=>∃ w,t=T.int w/\1<=w/\w<=32) ⟨8,rfl,by decide⟩ ⟨8,rfl,by decide⟩ ⟨17,rfl,by decide⟩ ⟨32,rfl,by decide⟩;simp only [ixR,zo,g2,hw];refine qS L2' w1 (by omega) (by omega) λb G3 b1 b2 L3' E3=>?_;simp [qx,qG,gn3,qD,jw,za,zw,VH,qw,v3,c3,o3,u3,QV,L3.ixT,L3.ixR,q0,iI,iC,iB,zh,qZ,YD,tb3,VB,or3,JB,zk,UV,ja,if3,ch3,cb3,qb,qh,JH,tyT,QQ,qP,zM,JX,np3,sp3,qN,qj,qO,zF,JY,jU,qm,bm3,JG,JF,jE,VD,VE,UX,ZW,qI,zT,Y8,UY,VI,Z4,HT.sIx,zo,in3,zq,eqF,gu,sizeLine_eq,getElem?_cons_zero,getElem?_cons_succ];rw [q2];clear q2;refine jb λnx3 q3=>?_;simp only [qG,o3,zM,qb,v3,length_cons,length_nil,Nat.zero_add,Nat.reduceAdd,Nat.reduceLT,getElem?_pos,getElem_cons_succ,getElem_cons_zero,c3,qh,sizeLine_eq,Nat.reduceLeDiff,cb3,Nat.zero_lt_succ,gn3,set_cons_succ,set_cons_zero,true_and];intro p2 hp2;have hpa2:=L3'.ne hp2;refine qS (L3'.new hpa2) (by decide) (by decide) (by omega) λe G4 e1 e2 L4 E4=>?_;have g4:=E4 p2 _ hpa2 qy;obtain ⟨u,hu,u',rfl,u1,u2⟩:=qox e1 e2 (P:=λt=>∃ w,t=T.int w/\1<=w/\w<=100) ⟨1+b,rfl,by omega,by omega⟩ ⟨10,rfl,by decide⟩ ⟨100,rfl,by decide⟩;simp only [ixR,zo,g4,hu];rw [q3];clear q3;simp only [qD,qP,qb,c3,v3,length_cons,length_nil,Nat.zero_add,Nat.reduceAdd,Nat.reduceLT,getElem?_pos,getElem_cons_succ,getElem_cons_zero,cb3,Nat.zero_lt_succ,Nat.lt_add_one,qh,sizeLine_eq,Nat.reduceLeDiff,true_and];refine qS L4 u1 (by omega) (by omega) λx G5 x1 x2 L5 E5=>?_
 try simp [qx,qG,gn3,qD,jw,za,zw,VH,qw,v3,c3,o3,u3,QV,L3.ixT,L3.ixR,q0,iI,iC,iB,zh,qZ,YD,tb3,VB,or3,JB,zk,UV,ja,if3,ch3,cb3,qb,qh,JH,tyT,QQ,qP,zM,JX,np3,sp3,qN,qj,qO,zF,JY,jU,qm,bm3,JG,JF,jE,VD,VE,UX,ZW,qI,zT,Y8,UY,VI,Z4,HT.sIx,zo,in3,zq,eqF,gu,sizeLine_eq,getElem?_cons_zero,getElem?_cons_succ]
 refine qS L5 u1 (by omega) (by omega) λy G6 y1 y2 L6 E6=>?_
 try simp [qx,qG,gn3,qD,jw,za,zw,VH,qw,v3,c3,o3,u3,QV,L3.ixT,L3.ixR,q0,iI,iC,iB,zh,qZ,YD,tb3,VB,or3,JB,zk,UV,ja,if3,ch3,cb3,qb,qh,JH,tyT,QQ,qP,zM,JX,np3,sp3,qN,qj,qO,zF,JY,jU,qm,bm3,JG,JF,jE,VD,VE,UX,ZW,qI,zT,Y8,UY,VI,Z4,HT.sIx,zo,in3,zq,eqF,gu,sizeLine_eq,getElem?_cons_zero,getElem?_cons_succ]
 exact h r c (1+b) x y G6 ⟨⟨r1,by omega,c1,by omega,by omega,by omega,x1,by omega,y1,by omega⟩,r2,c2,by show 1+b<=32;omega⟩ (L6.mono (by omega)) (E1.trans (((zJ hp).trans E2).trans (E3.trans (((zJ hp2).trans E4).trans (E5.trans E6)))))
def cop {b p:Int} (hb:1<=b):∃ k:Nat,(k:Int)<b/\Int.gcd b (p+k)=1:=by
 refine ⟨((1-p)%b).toNat,?_,?_⟩
 ·have:=Int.emod_nonneg (1-p) (show b≠0 by omega);have:=Int.emod_lt_of_pos (1-p) (show 0<b by omega);omega
 ·have h1:=Int.emod_nonneg (1-p) (show b≠0 by omega);have h2:=Int.emod_add_mul_ediv (1-p) b;have e:p+(((1-p)%b).toNat:Int)=1+b*(-((1-p)/b)):=by
   rw [Int.toNat_of_nonneg h1,Int.mul_neg];omega
  rw [e];simp
structure Plc (b p0 pl:Int) (i:Nat):Prop where
 lo:p0<=pl
 hi:pl<=p0+i
 at_:Int.gcd b pl=1\/(pl=p0+i/\∀ k:Nat,k<i->Int.gcd b (p0+k)≠1)
def Plc.done {b p0 pl:Int} {n:Nat} (h:Plc b p0 pl n) (hb:1<=b) (hn:b<=n):Int.gcd b pl=1:=by
 rcases h.at_ with h|⟨_,h⟩
 ·exact h
 ·obtain ⟨k,h1,h2⟩:=cop (p:=p0) hb;exact absurd h2 (h k (by omega))
def Plc.next {b p0 pl:Int} {i:Nat} (h:Plc b p0 pl i) (hb:1<=b) (hp:1<=p0) (hg:(1:Int)<(Int.gcd b pl:Nat)):Plc b p0 (pl+1) (i+1):=by
 rcases h.at_ with z|⟨z1,z2⟩
 ·rw [z] at hg;simp at hg
 ·refine ⟨by have:=h.lo;omega,by omega,.inr ⟨by omega,λk hk=>?_⟩⟩;rcases Nat.lt_or_ge k i with q|q
  ·exact z2 k q
  ·have:k=i:=by omega
   subst this;rw [← z1];omega
def Plc.stay {b p0 pl:Int} {i:Nat} (h:Plc b p0 pl i) (hb:1<=b) (hp:1<=p0) (hg:¬ (1:Int)<(Int.gcd b pl:Nat)):Plc b p0 pl (i+1):=by
 have g0:0<Int.gcd b pl:=Int.gcd_pos_of_ne_zero_left _ (by omega);exact ⟨h.lo,by have:=h.hi;omega,.inl (by omega)⟩
def qeI {r c b:Int} (hr:1<=r) (hc:1<=c) (hb:1<=b):1<=-(-r*c/b)/\r*c<=b*-(-r*c/b)/\-(-r*c/b)<=r*c:=by
 have h1:=UC hr hc;have e:-r*c=-(r*c):=Int.neg_mul ..;rw [e];have h2:=Int.ediv_neg_of_neg_of_pos (a:=-(r*c)) (b:=b) (by omega) (by omega);have h3:=Int.mul_ediv_self_le (x:=-(r*c)) (k:=b) (by omega);have h4:-(r*c)<=-(r*c)/b:=by
  have:=Int.le_ediv_of_mul_le (a:=-(r*c)) (b:=-(r*c)) (c:=b) (by omega) (by
   have:=Int.mul_le_mul_of_nonneg_left hb (show (0:Int)<=r*c by omega);rw [Int.neg_mul];omega)
  exact this
 rw [Int.mul_neg];omega
def LC:∀ ts G q,XS ts G q->ts.length=1/\YK Z1 qF WK (RO q) (qm ["_law_left_here","_law_rows","_law_columns","_law_banks","_law_places","_law_turn"] ts) G:=by
 rintro ts G q ⟨a,n,rfl,hL,hn,h⟩;refine ⟨rfl,?_⟩;unfold YK;refine jb λnx1 q1=>?_;simp only [qG,cb3,qb,v3,qm,map_cons,List.map_nil,length_cons,length_nil,Nat.zero_add,Nat.reduceAdd,Nat.add_one_sub_one,List.reduceReplicate,cons_append,List.nil_append,Nat.zero_lt_succ,getElem?_pos,getElem_cons_zero,qh,qN,qj,gn3,qO,set_cons_succ,set_cons_zero];refine ⟨a,n,rfl,hL,by omega,λr c G1 r1 r2 c1 c2 L1 E1=>?_⟩;simp only [length_cons,length_nil,Nat.zero_add,Nat.reduceAdd,true_and];rw [q1];clear q1;refine jb λnx2 q2=>?_;simp only [qG,o3,c3,cb3,qb,v3,length_cons,length_nil,Nat.zero_add,Nat.reduceAdd,Nat.zero_lt_succ,getElem?_pos,getElem_cons_zero,zM,qh,sizeLine_eq,Nat.reduceLeDiff,q0,ne_eq,gn3,set_cons_succ,set_cons_zero,true_and];intro p hp;have hpa:=L1.ne hp;refine qS (L1.new hpa) (by decide) (by decide) (by omega) λd G2 d1 d2 L2' E2=>?_;have g2:=E2 p _ hpa qy;obtain ⟨w,hw,w',rfl,w1,w2⟩:=qox d1 d2 (P:=λt=>∃ w,t=T.int w/\1<=w/\w<=32) ⟨8,rfl,by decide⟩ ⟨17,rfl,by decide⟩ ⟨32,rfl,by decide⟩;simp only [ixR,zo,g2,hw];refine qS L2' w1 (by omega) (by omega) λb G3 b1 b2 L3' E3=>?_;simp [qx,qG,gn3,qD,jw,za,zw,VH,qw,v3,c3,o3,u3,QV,L3.ixT,L3.ixR,q0,iI,iC,iB,zh,qZ,YD,tb3,VB,or3,JB,zk,UV,ja,if3,ch3,cb3,qb,qh,JH,tyT,QQ,qP,zM,JX,np3,sp3,qN,qj,qO,zF,JY,jU,qm,bm3,JG,JF,jE,VD,VE,UX,ZW,qI,zT,Y8,UY,VI,Z4,HT.sIx,zo,in3,zq,eqF,gu,sizeLine_eq,getElem?_cons_zero,getElem?_cons_succ];rw [q2];clear q2;refine jb λnx3 q3=>?_;simp only [qG,o3,u3,v3,length_cons,length_nil,Nat.zero_add,Nat.reduceAdd,Nat.reduceLT,getElem?_pos,getElem_cons_succ,getElem_cons_zero,QV,iC,cb3,qb,Nat.zero_lt_succ,c3,qh,q0,ne_eq,sizeLine_eq,gn3,set_cons_succ,set_cons_zero];refine ⟨cm (by omega) (by omega),⟨by omega,by omega⟩,qS L3' (by omega) (by omega) (by omega) λe G4 e1 e2 L4 E4=>?_⟩;obtain ⟨u1,u2,u3⟩:=qeI r1 c1 (show 1<=1+b by omega);have rc:r*c<=16*16:=Int.mul_le_mul r2 c2 (by omega) (by omega);simp [qx,qG,gn3,qD,jw,za,zw,VH,qw,v3,c3,o3,u3,QV,L3.ixT,L3.ixR,q0,iI,iC,iB,zh,qZ,YD,tb3,VB,or3,JB,zk,UV,ja,if3,ch3,cb3,qb,qh,JH,tyT,QQ,qP,zM,JX,np3,sp3,qN,qj,qO,zF,JY,jU,qm,bm3,JG,JF,jE,VD,VE,UX,ZW,qI,zT,Y8,UY,VI,Z4,HT.sIx,zo,in3,zq,eqF,gu,sizeLine_eq,getElem?_cons_zero,getElem?_cons_succ];rw [q3];clear q3;simp only [qx,XY,zE,qb,c3,qh,Int.reducePow,Int.reduceNeg,Int.neg_ofNat_le_ofNat,Int.reduceLT,and_self,Int.reduceToNat,true_and];obtain ⟨p0,hp0⟩:∃ p0,p0=-(-r*c/(1+b))+e:=⟨_,rfl⟩
 refine VW _ (λi τ G'=>G'=G4/\∃ (pl:Int) (x:Option T),τ=[some (.ref a),some (.int r),some (.int c),some (.int (1+b)),some (.int pl),x]/\Plc (1+b) p0 pl i) ⟨rfl,_,none,by rw [← hp0],⟨by omega,by omega,.inr ⟨by omega,by omega⟩⟩⟩ (λ_ _ _ _ _=>True.intro) ?_ ?_
 ·rintro i x τ G' nx hx ⟨rfl,pl,y,rfl,P⟩ hn;simp only [gn3,za,tb3,o3,cb3,qb,v3,set_cons_succ,set_cons_zero,length_cons,length_nil,Nat.zero_add,Nat.reduceAdd,Nat.reduceLT,getElem?_pos,getElem_cons_succ,getElem_cons_zero,qh,c3,iB,decide_eq_true_eq,qG,q0,qw];refine ⟨1+b,pl,rfl,by omega,by have:=P.lo;omega,?_⟩;simp;split
  ·rename_i hg;exact hn _ _ ⟨rfl,_,_,rfl,P.next (by omega) (by omega) (by omega)⟩
  ·rename_i hg;exact hn _ _ ⟨rfl,_,_,rfl,P.stay (by omega) (by omega) (by omega)⟩
 ·rintro τ G' ⟨rfl,pl,x,rfl,P⟩;simp only [qD,qP,qb,c3,v3,length_cons,length_nil,Nat.zero_add,Nat.reduceAdd,Nat.reduceLT,getElem?_pos,getElem_cons_succ,getElem_cons_zero,qh,sizeLine_eq,Nat.reduceLeDiff,true_and];rw [ZC] at P;have lo:=P.lo;have hi:=P.hi;have m1:(1+b)*-(-r*c/(1+b))<=(1+b)*pl:=Int.mul_le_mul_of_nonneg_left (by omega) (by omega);exact h r c (1+b) pl G' ⟨⟨r1,by omega,c1,by omega,by omega,by omega,by omega,by omega,P.done (by omega) (by omega),by omega⟩,r2,c2,by show 1+b<=32;omega⟩ (L4.mono (by omega)) (E1.trans (((zJ hp).trans E2).trans (E3.trans E4)))
def jZ:Nat->Sp3
 |0=>C9
 |n+1=>λts G q=>∃ d:Dl,ts=[d.t]/\d.dep<=n/\d.Ok/\∀ G',Ex G G'->q (XT d) G'
def qaW:∀ {d:Nat},d<=8->L2.atI [T.int 1,.int 2,.int 4,.int 8,.int 16,.int 32,.int 64,.int 128,.int 256] (d:Int)=some (.int (2 ^ d))
 |0,_=>rfl
 |1,_=>rfl
 |2,_=>rfl
 |3,_=>rfl
 |4,_=>rfl
 |5,_=>rfl
 |6,_=>rfl
 |7,_=>rfl
 |8,_=>rfl
 |k+9,h=>absurd h (Nat.not_le.mpr (Nat.lt_of_lt_of_le (Nat.lt_succ_self _) (Nat.le_add_left _ _)))
def qay:∀ {d:Nat},d<=4->L2.atI [T.int 1,.int 2,.int 4,.int 8,.int 16] (d:Int)=some (.int (2 ^ d))
 |0,_=>rfl
 |1,_=>rfl
 |2,_=>rfl
 |3,_=>rfl
 |4,_=>rfl
 |k+5,h=>absurd h (Nat.not_le.mpr (Nat.lt_of_lt_of_le (Nat.lt_succ_self _) (Nat.le_add_left _ _)))
def qbk {α:Type} {x:α} {xs:List α}:L2.atI (x::xs) 0=some x:=by simp [L2.atI,ixN]
def qc2 {α:Type} {x y:α} {xs:List α}:L2.atI (x::y::xs) 1=some y:=by
 rw [jF (by omega) (by simp;omega)];rfl
def qcW {α:Type} {x y z:α} {xs:List α}:L2.atI (x::y::z::xs) 2=some z:=by
 rw [jF (by omega) (by simp;omega)];rfl
def qky {α:Type} {x y z w:α} {xs:List α}:L2.atI (x::y::z::w::xs) 3=some w:=by
 rw [jF (by omega) (by simp;omega)];rfl
def zV {s l:Str} {xs:List T} {R S:TS3} {d:Ends3} {τ:St3} {G:Gp} (hτ:τ[0]?=some (some (T.tup (.str s::xs)))):qx (za (tb3 (o3 (zh false) (o3 ix3 (v3 0) (c3 (.int 0))) (c3 (.str l)))) R qw) S d τ G=(if s=l then R { d with nx:=S d } τ G else S d τ G):=by
 simp only [qx,za,tb3,o3,v3,hτ,c3,L3.ixT,qbk,zh,qZ,qw];by_cases e:s=l<;>simp [e]
def KP {te:TE3} {q:Q3} {a:Addr} {n many:Int} {ZY:St3} {items:List T} {x0:Option T} {G:Gp} (hte:∀ x0 G3 (Q:T->Gp->Prop),qF [.ref a,.int many] G3 Q->te (x0::ZY) G3 Q) (hL:Lf G a n) (m1:1<=many) (m2:many<1073741824) (hl:items.length<=1000) (hn:n<1000000000)
  (h:∀ (ds:List Int) G' p,ds.length=items.length->(∀ d∈ds,0<=d/\d<many)->Lf G' a (n+items.length)->Ext a G G'->G' p=none->q (.ref p) (gu G' p (.lst (ds.map T.int)))) :
  SB (λ_=>True) (gn3 0) tt3 te q items [] (x0::ZY) G:=by
 refine X6 _ (λi ys τ G'=>∃ (ds:List Int) (x0:Option T),τ=x0::ZY/\ys=ds.map T.int/\ds.length=i/\(∀ d∈ds,0<=d/\d<many)/\Lf G' a (n+i)/\Ext a G G') ⟨[],x0,rfl,rfl,rfl,by simp,by simpa using hL,Ext.refl⟩ (λ_ _ _ _ _ _=>True.intro) ?_ ?_
 ·rintro i z ys τ G' R hz ⟨ds,x0,rfl,rfl,e,hd,hL',E⟩ hR;have hi:=(List.getElem?_eq_some_iff.mp hz).1;simp only [gn3,tt3,set_cons_zero,if_true];refine hte _ _ _ (qS hL' m1 m2 (by omega) λd G2 d1 d2 L2 E2=>⟨by simp [sizeLine_eq];omega,hR _ _ _ ⟨ds++[d],_,rfl,by simp,by simp [e],λx hx=>?_,L2.mono (by omega),E.trans E2⟩⟩);rcases List.mem_append.mp hx with hx|hx
  ·exact hd x hx
  ·simp at hx;subst hx;exact ⟨d1,d2⟩
 ·rintro ys τ G' ⟨ds,x0,rfl,rfl,e,hd,hL',E⟩ p hp;exact h ds G' p e hd hL' E hp
def RP:Sp3:=λts G q=>∃ a n most,ts=[.ref a,.int most]/\Lf G a n/\n<10000000/\0<=most/\most<=4/\∀ (h l:Nat) (ms:List Int) G',(h:Int)<=most->(l:Int)<=most->(Dl.bits h l ms).Ok->Lf G' a (n+10)->Ext a G G'->q (Dl.bits h l ms).t G'
def qaB {wide:Int} {p:Addr} {ds:List Int} {x0:Option T} {G:Gp} {q:Q3} (hw:0<wide) (hl:ds.length<=1000) (hG:zo G p=some (ds.map T.int)) (h:∀ p2,G p2=none->q (.ref p2) (gu G p2 (.lst ((ds.map (·%wide)).map T.int)))) :
  SB (λG=>zo G p=some (ds.map T.int)) (gn3 0) tt3 (o3 (iC (λ_ j=>0<j) (·%·)) (v3 0) (v3 1)) q (ds.map T.int) [] [x0,some (.int wide)] G:=by
 refine qai (λt=>match t with|.int m=>T.int (m%wide)|t=>t) (λτ=>∃ x0,τ=[x0,some (.int wide)]) hG _ _ _ ⟨_,rfl⟩ ?_ (by simp [sizeLine_eq];omega) λp2 hp2=>?_
 ·rintro z hz τ ⟨x0,rfl⟩ R hR;rw [mem_map] at hz;obtain ⟨m,_,rfl⟩:=hz;simp [gn3,o3,v3,iC];exact ⟨hw,hR _ ⟨_,rfl⟩⟩
 ·have:=h p2 hp2;simpa [map_map,Function.comp_def] using this
def N6:∀ ts G q,RP ts G q->ts.length=2/\US qF (RO q) (qm ["_law_left_here","_law_most","_law_high","_law_low","_law_masks","_law_wide"] ts) G:=by
 rintro ts G q ⟨a,n,most,rfl,hL,hn,m1,m2,h⟩;refine ⟨rfl,?_⟩;simp only [US,qx,jU,qb,cb3,v3,qm,map_cons,List.map_nil,length_cons,length_nil,Nat.zero_add,Nat.reduceAdd,Nat.reduceSub,List.reduceReplicate,cons_append,List.nil_append,Nat.zero_lt_succ,getElem?_pos,getElem_cons_zero,o3,Nat.reduceLT,getElem_cons_succ,c3,q0,qh,qG,set_cons_succ,set_cons_zero,gn3,zM,sizeLine_eq,Nat.reduceLeDiff,ne_eq,qD,qP,qI,true_and,zo,gu,ixR,↓reduceIte];refine qS hL (by omega) (by omega) (by omega) λhi G1 h1 h2 L1 E1=>?_
 try simp
 refine qS L1 (by omega) (by omega) (by omega) λlo G2 l1 l2 L2' E2=>?_;simp only [lc3,zE,qb,cb3,v3,length_cons,length_nil,Nat.zero_add,Nat.reduceAdd,Nat.zero_lt_succ,getElem?_pos,getElem_cons_zero,c3,qh,Int.reducePow,Int.reduceNeg,cap,map_cons,Nat.lt_add_one,getElem_cons_succ,Option.join_some,List.map_nil];refine qS L2' (by omega) (by omega) (by omega) λk G3 k1 k2 L3' E3=>?_;refine ⟨⟨by omega,by omega⟩,KP (many:=256) (λx0 G3 Q hq=>by simpa [cb3,qb,v3,c3,qh] using hq) L3' (by omega) (by omega) (by rw [ZC];omega) (by omega) λds G4 p e1 e2 L4 E4 hp=>?_⟩;rw [ZC] at e1 L4;obtain ⟨H,rfl⟩:=Int.eq_ofNat_of_zero_le h1;obtain ⟨W,rfl⟩:=Int.eq_ofNat_of_zero_le l1;have hpa:=L4.ne hp
 try simp
 intro p2 hp2;have pp:p≠p2:=by rintro rfl;rw [qy] at hp2;cases hp2
 have e3:((H:Int)+(W:Int))=((H+W:Nat):Int):=by omega
 have w1:=DU (H+W);have hG:∀ B,zo (gu (gu G4 p (.lst (ds.map T.int))) p2 B) p=some (ds.map T.int):=λB=>by simp only [zo,jL pp,qy]
 rw [e3,qaW (d:=H+W) (by omega)];simp only [YQ,v3,getElem?_cons_zero,getElem?_cons_succ,hG];refine qaB (by omega) (by omega) (hG _) λp3 hp3=>?_;simp only [qy];refine h H W _ _ (by omega) (by omega) ⟨by omega,by omega,by simp;omega,λm hm=>?_⟩ ((((L4.new hpa).new ((L4.new hpa).ne hp2)).new (((L4.new hpa).new ((L4.new hpa).ne hp2)).ne hp3)).mono (by omega)) (((E1.trans E2).trans (E3.trans E4)).trans (((zJ hp).trans (zJ hp2)).trans (zJ hp3)));rw [mem_map] at hm;obtain ⟨x,_,rfl⟩:=hm;exact ⟨Int.emod_nonneg _ (by omega),Int.emod_lt_of_pos _ (by omega)⟩
structure Cells (cells:List (List Int)) (r c b:Int):Prop where
 r:(cells.length:Int)=r
 c:∀ row∈cells,(row.length:Int)=c/\∀ x∈row,0<=x/\x<b
def qao {q:Q3} {a:Addr} {n r c b:Int} {x0:Option T} {G:Gp} (hL:Lf G a n) (hn:n<100000000) (r1:1<=r) (r2:r<=16) (c1:1<=c) (c2:c<=16) (b1:1<=b) (b2:b<=1000)
  (h:∀ cells G' p,Cells cells r c b->Lf G' a (n+256)->Ext a G G'->G' p=none->q (.ref p) (gu G' p (.lst (cells.map qam)))) :
  SB (λ_=>True) (gn3 0) tt3 (cb3 qI (qb (lc3 (zE (qb (v3 3) qh)) (gn3 0) tt3 (cb3 qF (qb (v3 1) (qb (v3 2) qh))) [none,some 1,some 2]) qh)) q (qaJ 0 r.toNat) [] [x0,some (.ref a),some (.int b),some (.int c)] G:=by
 refine X6 _ (λi ys τ G'=>∃ (cells:List (List Int)) (x0:Option T),τ=[x0,some (.ref a),some (.int b),some (.int c)]/\ys=cells.map qam/\Cells cells i c b/\Lf G' a (n+16*i)/\Ext a G G') ⟨[],x0,rfl,rfl,⟨rfl,by simp⟩,by simpa using hL,Ext.refl⟩ (λ_ _ _ _ _ _=>True.intro) ?_ ?_
 ·rintro i z ys τ G' R hz ⟨cells,x0,rfl,rfl,C,hL',E⟩ hR;obtain ⟨hi,rfl⟩:=KW hz;have hc:=C.r;simp only [gn3,tt3,↓reduceIte,cb3,qb,lc3,zE,v3,Int.zero_add,set_cons_zero,length_cons,length_nil,Nat.zero_add,Nat.reduceAdd,Nat.lt_add_one,getElem?_pos,getElem_cons_succ,getElem_cons_zero,qh,Int.reducePow,Int.reduceNeg,qI,length_map,sizeLine_eq,zo,cap,map_cons,Nat.reduceLT,Option.join_some,List.map_nil];refine ⟨⟨by omega,by omega⟩,KP (many:=b) (λx0 G3 Q hq=>by simpa [cb3,qb,v3,c3,qh] using hq) hL' (by omega) (by omega) (by rw [ZC];omega) (by omega) λds G4 p e1 e2 L4 E4 hp=>?_⟩;rw [ZC] at e1 L4;simp only [qy];refine ⟨by omega,hR _ _ _ ⟨cells++[ds],_,rfl,by simp [qam],⟨by simp;omega,λrow hrow=>?_⟩,((L4.new (L4.ne hp)).mono (by omega)),(E.trans E4).trans (zJ hp)⟩⟩;rcases List.mem_append.mp hrow with hr|hr
  ·exact C.c row hr
  ·simp at hr;subst hr;exact ⟨by omega,e2⟩
 ·rintro ys τ G' ⟨cells,x0,rfl,rfl,C,hL',E⟩ p hp;rw [ZC] at C hL';exact h cells G' p ⟨by have:=C.r;omega,C.c⟩ (hL'.mono (by omega)) E hp
def Cells.ok {cells:List (List Int)} {r c b:Int} (C:Cells cells r c b) (r1:1<=r) (r2:r<=60) (c1:1<=c) (c2:c<=60) (b1:1<=b) (b2:b<=1000):(Dl.table b cells).Ok/\(Dl.table b cells).R=r/\(Dl.table b cells).C=c:=by
 have hl:=C.r;have ok:(Dl.table b cells).Ok:=⟨b1,b2,by omega,by omega,c.toNat,by omega,by omega,λrow hr=>⟨by have:=(C.c row hr).1;omega,(C.c row hr).2⟩⟩
 have e0:cells[0]?=some cells[0]:=getElem?_eq_getElem (by omega);exact ⟨ok,hl,by simp [Dl.C,e0];exact (C.c cells[0] (List.getElem_mem _)).1⟩
def XI:Sp3:=λts G q=>∃ a n,ts=[.ref a]/\Lf G a n/\n<10000000/\∀ (d:Dl) G',Dr d 4 4 5->d.dep=0->Lf G' a (n+300)->Ext a G G'->q d.t G'
def LM:∀ ts G q,XI ts G q->ts.length=1/\J7 qF WK (RO q) (qm ["_law_left_here","_law_rows","_law_columns","_law_banks","_law_way","_law_high","_law_low","_law_masks","_law_wide","_law_places","_law_turn","_law_cells"] ts) G:=by
 rintro ts G q ⟨a,n,rfl,hL,hn,h⟩;refine ⟨rfl,?_⟩;unfold J7;refine jb λnx1 q1=>?_;simp only [qG,qP,qb,o3,c3,cb3,v3,qm,map_cons,List.map_nil,length_cons,length_nil,Nat.zero_add,Nat.reduceAdd,Nat.add_one_sub_one,List.reduceReplicate,cons_append,List.nil_append,Nat.zero_lt_succ,getElem?_pos,getElem_cons_zero,qh,q0,ne_eq,sizeLine_eq,Nat.reduceLeDiff,qN,qj,gn3,qO,set_cons_succ,set_cons_zero,true_and];refine qS hL (by omega) (by omega) (by omega) λr G1 r1 r2 L1 E1=>?_
 try simp
 refine qS L1 (by omega) (by omega) (by omega) λc G2 c1 c2 L2' E2=>?_
 try simp
 refine qS L2' (by omega) (by omega) (by omega) λb G3 b1 b2 L3' E3=>?_
 try simp
 rw [q1];refine jb λnx2 q2=>?_;simp only [qG,cb3,qb,v3,length_cons,length_nil,Nat.zero_add,Nat.reduceAdd,Nat.zero_lt_succ,getElem?_pos,getElem_cons_zero,c3,qh,gn3,set_cons_succ,set_cons_zero];refine qS L3' (by omega) (by omega) (by omega) λway G4 w1 w2 L4 E4=>?_;have EE:=(E1.trans E2).trans (E3.trans E4);rw [q2];refine jb λnx3 q3=>?_;by_cases k0:way=0
 ·subst k0;simp only [za,tb3,o3,v3,length_cons,length_nil,Nat.zero_add,Nat.reduceAdd,Nat.reduceLT,getElem?_pos,getElem_cons_succ,getElem_cons_zero,c3,zh,qZ,decide_true,Bool.false_eq_true,↓reduceIte,qD,qP,qb,cb3,Nat.zero_lt_succ,qh,sizeLine_eq,Nat.reduceLeDiff,true_and];refine qS L4 (by omega) (by omega) (by omega) λx G5 x1 x2 L5 E5=>?_
  try simp
  refine qS L5 (by omega) (by omega) (by omega) λy G6 y1 y2 L6 E6=>?_
  try simp
  exact h (.skew (1+r) (1+c) (1+b) x y) G6 ⟨⟨by omega,by omega,by omega,by omega,by omega,by omega,by omega,by omega,by omega,by omega⟩,by show 1+r<=4;omega,by show 1+c<=4;omega,by show 1+b<=5;omega⟩ rfl (L6.mono (by omega)) (EE.trans (E5.trans E6))
 simp only [za,tb3,o3,v3,c3,zh,qZ,getElem?_cons_zero,getElem?_cons_succ,k0,decide_false,Bool.false_eq_true,if_false,qw];rw [q3];refine jb λnx4 q4=>?_;by_cases k1:way=1
 ·subst k1;simp only [za,tb3,o3,v3,length_cons,length_nil,Nat.zero_add,Nat.reduceAdd,Nat.reduceLT,getElem?_pos,getElem_cons_succ,getElem_cons_zero,c3,zh,qZ,decide_true,Bool.false_eq_true,↓reduceIte,qx,jU,qb,cb3,Nat.zero_lt_succ,qh,qG,set_cons_succ,set_cons_zero,gn3,zM,sizeLine_eq,Nat.reduceLeDiff,q0,ne_eq,qD,qP,qI,true_and,zo,gu,ixR];refine qS L4 (by omega) (by omega) (by omega) λhi G5 h1 h2 L5 E5=>?_
  try simp
  refine qS L5 (by omega) (by omega) (by omega) λlo G6 l1 l2 L6 E6=>?_;simp only [lc3,zE,qb,cb3,v3,length_cons,length_nil,Nat.zero_add,Nat.reduceAdd,Nat.zero_lt_succ,getElem?_pos,getElem_cons_zero,c3,qh,Int.reducePow,Int.reduceNeg,cap,map_cons,Nat.reduceLT,getElem_cons_succ,Option.join_some,List.map_nil];refine qS L6 (by omega) (by omega) (by omega) λk G7 k1 k2 L7 E7=>?_;refine ⟨⟨by omega,by omega⟩,KP (many:=16) (λx0 G3 Q hq=>by simpa [cb3,qb,v3,c3,qh] using hq) L7 (by omega) (by omega) (by rw [ZC];omega) (by omega) λds G8 p e1 e2 L8 E8 hp=>?_⟩;rw [ZC] at e1 L8;obtain ⟨H,rfl⟩:=Int.eq_ofNat_of_zero_le h1;obtain ⟨W,rfl⟩:=Int.eq_ofNat_of_zero_le l1;have hpa:=L8.ne hp
  try simp
  intro p2 hp2;have pp:p≠p2:=by rintro rfl;rw [qy] at hp2;cases hp2
  have e3:((H:Int)+(W:Int))=((H+W:Nat):Int):=by omega
  have w1:=DU (H+W);have hG:∀ B,zo (gu (gu G8 p (.lst (ds.map T.int))) p2 B) p=some (ds.map T.int):=λB=>by simp only [zo,jL pp,qy]
  rw [e3,qay (d:=H+W) (by omega)];simp only [YQ,v3,getElem?_cons_zero,getElem?_cons_succ,hG];refine qaB (by omega) (by omega) (hG _) λp3 hp3=>?_;simp only [qy];have bl:(Dl.bits H W (ds.map (·%2 ^ (H+W)))).Ok:=⟨by omega,by omega,by simp;omega,λm hm=>by
   rw [mem_map] at hm;obtain ⟨x,_,rfl⟩:=hm;exact ⟨Int.emod_nonneg _ (by omega),Int.emod_lt_of_pos _ (by omega)⟩⟩
  have q1:=DP (n:=H) (k:=2) (by omega);have q2:=DP (n:=W) (k:=2) (by omega);have q3:=DP (n:=ds.length) (k:=2) (by omega);exact h (.bits H W _) _ ⟨bl,by show (2:Int) ^ H<=4;omega,by show (2:Int) ^ W<=4;omega,by simp [Dl.B];omega⟩ rfl ((((L8.new hpa).new ((L8.new hpa).ne hp2)).new (((L8.new hpa).new ((L8.new hpa).ne hp2)).ne hp3)).mono (by omega)) (EE.trans (((E5.trans E6).trans (E7.trans E8)).trans (((zJ hp).trans (zJ hp2)).trans (zJ hp3))))
 simp only [za,tb3,o3,v3,c3,zh,qZ,getElem?_cons_zero,getElem?_cons_succ,k1,decide_false,Bool.false_eq_true,if_false,qw];rw [q4];refine jb λnx5 q5=>?_;by_cases k2:way=2
 ·subst k2;simp only [za,tb3,o3,v3,length_cons,length_nil,Nat.zero_add,Nat.reduceAdd,Nat.reduceLT,getElem?_pos,getElem_cons_succ,getElem_cons_zero,c3,zh,qZ,decide_true,Bool.false_eq_true,↓reduceIte,qx,qG,u3,QV,iC,cb3,qb,Nat.zero_lt_succ,qh,q0,ne_eq,sizeLine_eq,gn3,set_cons_succ,set_cons_zero];refine ⟨cm (by omega) (by omega),⟨by omega,by omega⟩,qS L4 (by omega) (by omega) (by omega) λe G5 e1 e2 L5 E5=>?_⟩;obtain ⟨u1,u2,u3⟩:=qeI (show 1<=1+r by omega) (show 1<=1+c by omega) (show 1<=1+b by omega);have rc:(1+r)*(1+c)<=4*4:=Int.mul_le_mul (by omega) (by omega) (by omega) (by omega);simp only [XY,zE,qb,c3,qh,Int.reducePow,Int.reduceNeg,Int.neg_ofNat_le_ofNat,Int.reduceLT,and_self,Int.reduceToNat,true_and];obtain ⟨p0,hp0⟩:∃ p0,p0=-(-(1+r)*(1+c)/(1+b))+e:=⟨_,rfl⟩
  refine VW _ (λi τ G'=>G'=G5/\∃ (pl:Int) (x:Option T),τ=[some (.ref a),some (.int (1+r)),some (.int (1+c)),some (.int (1+b)),some (.int 2),none,none,none,none,some (.int pl),x,none]/\Plc (1+b) p0 pl i) ⟨rfl,_,none,by rw [← hp0],⟨by omega,by omega,.inr ⟨by omega,by omega⟩⟩⟩ (λ_ _ _ _ _=>True.intro) ?_ ?_
  ·rintro i x τ G' nx hx ⟨rfl,pl,y,rfl,P⟩ hn;simp only [gn3,za,tb3,o3,cb3,qb,v3,set_cons_succ,set_cons_zero,length_cons,length_nil,Nat.zero_add,Nat.reduceAdd,Nat.reduceLT,getElem?_pos,getElem_cons_succ,getElem_cons_zero,qh,c3,iB,decide_eq_true_eq,qG,q0,qw];refine ⟨1+b,pl,rfl,by omega,by have:=P.lo;omega,?_⟩;simp;split
   ·exact hn _ _ ⟨rfl,_,_,rfl,P.next (by omega) (by omega) (by omega)⟩
   ·exact hn _ _ ⟨rfl,_,_,rfl,P.stay (by omega) (by omega) (by omega)⟩
  ·rintro τ G' ⟨rfl,pl,x,rfl,P⟩;simp only [qD,qP,qb,c3,v3,length_cons,length_nil,Nat.zero_add,Nat.reduceAdd,Nat.reduceLT,getElem?_pos,getElem_cons_succ,getElem_cons_zero,qh,sizeLine_eq,Nat.reduceLeDiff,true_and];rw [ZC] at P;have lo:=P.lo;have hi:=P.hi;have m1:(1+b)*-(-(1+r)*(1+c)/(1+b))<=(1+b)*pl:=Int.mul_le_mul_of_nonneg_left (by omega) (by omega);exact h (.rests (1+r) (1+c) (1+b) pl) G' ⟨⟨by omega,by omega,by omega,by omega,by omega,by omega,by omega,by omega,P.done (by omega) (by omega),by omega⟩,by show 1+r<=4;omega,by show 1+c<=4;omega,by show 1+b<=5;omega⟩ rfl (L5.mono (by omega)) (EE.trans E5)
 ·simp only [za,tb3,o3,v3,c3,zh,qZ,getElem?_cons_zero,getElem?_cons_succ,k2,decide_false,Bool.false_eq_true,if_false,qw];rw [q5];simp only [qx,qG,lc3,zE,qb,v3,length_cons,length_nil,Nat.zero_add,Nat.reduceAdd,Nat.reduceLT,getElem?_pos,getElem_cons_succ,getElem_cons_zero,qh,Int.reducePow,Int.reduceNeg,gn3,qD,qP,c3,set_cons_succ,set_cons_zero,cb3,Nat.lt_add_one,qI,sizeLine_eq,Nat.reduceLeDiff,true_and,zo,cap,map_cons,Nat.zero_lt_succ,Option.join_some,List.map_nil];refine ⟨⟨by omega,by omega⟩,qao L4 (by omega) (by omega) (by omega) (by omega) (by omega) (by omega) (by omega) λcells G5 p C L5 E5 hp=>?_⟩;obtain ⟨ok,eR,eC⟩:=C.ok (by omega) (by omega) (by omega) (by omega) (by omega) (by omega);simp only [qy];exact h (.table (1+b) cells) _ ⟨ok,by omega,by omega,by show 1+b<=5;omega⟩ rfl ((L5.new (L5.ne hp)).mono (by omega)) (EE.trans (E5.trans (zJ hp)))
def XG:Sp3:=λts G q=>∃ a n,ts=[.ref a]/\Lf G a n/\n<10000000/\∀ (b:Int) cells r c G',Cells cells r c b->Dr (.table b cells) 16 16 32->(Dl.table b cells).R=r->(Dl.table b cells).C=c->Lf G' a (n+300)->Ext a G G'->q (Dl.table b cells).t G'
def K5:∀ ts G q,XG ts G q->ts.length=1/\J1 Z1 qF (RO q) (qm ["_law_left_here","_law_rows","_law_columns","_law_banks","_law_cells"] ts) G:=by
 rintro ts G q ⟨a,n,rfl,hL,hn,h⟩;refine ⟨rfl,?_⟩;simp only [J1,qx,qG,cb3,qb,v3,qm,map_cons,List.map_nil,length_cons,length_nil,Nat.zero_add,Nat.reduceAdd,Nat.add_one_sub_one,List.reduceReplicate,cons_append,List.nil_append,Nat.zero_lt_succ,getElem?_pos,getElem_cons_zero,qh,qN,qj,gn3,qO,o3,c3,set_cons_succ,set_cons_zero,zM,sizeLine_eq,Nat.reduceLeDiff,q0,ne_eq,qD,qP,Nat.reduceLT,getElem_cons_succ,Nat.lt_add_one,qI,true_and,zo];refine ⟨a,n,rfl,hL,by omega,λr c G1 r1 r2 c1 c2 L1 E1=>?_⟩;simp;intro p hp;have hpa:=L1.ne hp;refine qS (L1.new hpa) (by omega) (by omega) (by omega) λd G2 d1 d2 L2' E2=>?_;have g2:=E2 p _ hpa qy;obtain ⟨w,hw,w',rfl,w1,w2⟩:=qox d1 d2 (P:=λt=>∃ w,t=T.int w/\1<=w/\w<=32) ⟨4,rfl,by omega,by omega⟩ ⟨9,rfl,by omega,by omega⟩ ⟨32,rfl,by omega,by omega⟩;simp only [ixR,zo,g2,hw];refine qS L2' w1 (by omega) (by omega) λb G3 b1 b2 L3' E3=>?_;simp only [lc3,zE,qb,v3,length_cons,length_nil,Nat.zero_add,Nat.reduceAdd,Nat.reduceLT,getElem?_pos,getElem_cons_succ,getElem_cons_zero,qh,Int.reducePow,Int.reduceNeg,cap,map_cons,Nat.zero_lt_succ,Option.join_some,List.map_nil];refine ⟨⟨by omega,by omega⟩,qao L3' (by omega) (by omega) (by omega) (by omega) (by omega) (by omega) (by omega) λcells G5 p C L5 E5 hp5=>?_⟩;obtain ⟨ok,eR,eC⟩:=C.ok (by omega) (by omega) (by omega) (by omega) (by omega) (by omega);simp only [qy];exact h (1+b) cells r c _ C ⟨ok,by omega,by omega,by show 1+b<=32;omega⟩ eR eC ((L5.new (L5.ne hp5)).mono (by omega)) (E1.trans (((zJ hp).trans E2).trans (E3.trans (E5.trans (zJ hp5)))))
def NY {a b x y:Int} (h0:1<=a) (h1:a<=x) (h2:1<=b) (h3:b<=y):a*b<=x*y:=Int.mul_le_mul h1 h3 (by omega) (by omega)
def Dr.join {d e:Dl} {r c b r' c' b':Int} (D:Dr d r c b) (E:Dr e r' c' b') (h1:r*r'<=4096) (h2:c*c'<=4096) (h3:b*b'<=4096):Dr (.joined d e) (r*r') (c*c') (b*b'):=by
 have Ld:=Dl.lims D.ok;have Le:=Dl.lims E.ok;have a1:=NY Ld.r1 D.r2 Le.r1 E.r2;have a2:=NY Ld.c1 D.c2 Le.c1 E.c2;have a3:=NY Ld.b1 D.b2 Le.b1 E.b2;exact ⟨⟨D.ok,E.ok,by omega,by omega,by omega⟩,a1,a2,a3⟩
def Dr.mono {d:Dl} {r c b r' c' b':Int} (D:Dr d r c b) (h1:r<=r') (h2:c<=c') (h3:b<=b'):Dr d r' c' b':=⟨D.ok,by have:=D.r2;omega,by have:=D.c2;omega,by have:=D.b2;omega⟩
def QB:Sp3:=λts G q=>∃ a n,ts=[.ref a]/\Lf G a n/\n<1000000/\∀ (d:Dl) G',Dr d 16 16 32->d.dep<=2->Lf G' a (n+1000)->Ext a G G'->q d.t G'
def qdK {x:Int} (h0:0<=x) (h1:x<2):Dr (.joined (.skew (1+x) 1 2 1 1) (.table 2 [[1,0]])) 2 2 4:=by
 have a:Dr (.skew (1+x) 1 2 1 1) 2 1 2:=⟨⟨by omega,by omega,by omega,by omega,by omega,by omega,by omega,by omega,by omega,by omega⟩,by show 1+x<=2;omega,Int.le_refl 1,Int.le_refl 2⟩
 have b:Dr (.table 2 [[1,0]]) 1 2 2:=⟨⟨by decide,by decide,by decide,by decide,2,by decide,by decide,by simp⟩,by decide,by decide,by decide⟩
 exact (a.join b (by decide) (by decide) (by decide)).mono (by decide) (by decide) (by decide)
def qqT:Dr (.joined (.skew 8 1 3 1 1) (.rests 2 16 5 7)) 16 16 15:=by
 have a:Dr (.skew 8 1 3 1 1) 8 1 3:=⟨⟨by decide,by decide,by decide,by decide,by decide,by decide,by decide,by decide,by decide,by decide⟩,by decide,by decide,by decide⟩
 have b:Dr (.rests 2 16 5 7) 2 16 5:=⟨⟨by decide,by decide,by decide,by decide,by decide,by decide,by decide,by decide,by decide,by decide⟩,by decide,by decide,by decide⟩
 exact (a.join b (by decide) (by decide) (by decide)).mono (by decide) (by decide) (by decide)
def qq7:Dr (.joined (.rests 1 8 3 4) (.skew 16 2 5 2 1)) 16 16 15:=by
 have a:Dr (.rests 1 8 3 4) 1 8 3:=⟨⟨by decide,by decide,by decide,by decide,by decide,by decide,by decide,by decide,by decide,by decide⟩,by decide,by decide,by decide⟩
 have b:Dr (.skew 16 2 5 2 1) 16 2 5:=⟨⟨by decide,by decide,by decide,by decide,by decide,by decide,by decide,by decide,by decide,by decide⟩,by decide,by decide,by decide⟩
 exact (a.join b (by decide) (by decide) (by decide)).mono (by decide) (by decide) (by decide)
def R7:∀ ts G q,QB ts G q->ts.length=1/\Q1 qF CU XS RP XG XI (RO q) (qm ["_law_left_here","_law_way","_law_inner","_law_some"] ts) G:=by
 rintro ts G q ⟨a,n,rfl,hL,hn,h⟩;refine ⟨rfl,?_⟩;unfold Q1;refine jb λnx1 q1=>?_;simp only [qG,cb3,qb,v3,qm,map_cons,List.map_nil,length_cons,length_nil,Nat.zero_add,Nat.reduceAdd,Nat.add_one_sub_one,List.reduceReplicate,cons_append,List.nil_append,Nat.zero_lt_succ,getElem?_pos,getElem_cons_zero,c3,qh,gn3,set_cons_succ,set_cons_zero];refine qS hL (by omega) (by omega) (by omega) λw G1 w1 w2 L1 E1=>?_
 try simp
 rw [q1];clear q1;refine jb λnx2 q2=>?_;by_cases k0:w<2
 ·simp only [za,tb3,o3,v3,length_cons,length_nil,Nat.zero_add,Nat.reduceAdd,Nat.reduceLT,getElem?_pos,getElem_cons_succ,getElem_cons_zero,c3,iB,k0,decide_true,↓reduceIte,qD,cb3,qb,Nat.zero_lt_succ,qh];exact ⟨a,n+1,rfl,L1,by omega,λr c b x y G2 D L2' E2=>h _ G2 D (Nat.zero_le _) (L2'.mono (by omega)) (E1.trans E2)⟩
 simp only [za,tb3,o3,v3,c3,iB,getElem?_cons_zero,getElem?_cons_succ,k0,decide_false,Bool.false_eq_true,if_false,qw];rw [q2];clear q2;refine jb λnx3 q3=>?_;by_cases k1:w=2
 ·subst k1;simp only [za,tb3,o3,v3,length_cons,length_nil,Nat.zero_add,Nat.reduceAdd,Nat.reduceLT,getElem?_pos,getElem_cons_succ,getElem_cons_zero,c3,zh,qZ,decide_true,Bool.false_eq_true,↓reduceIte,qD,cb3,qb,Nat.zero_lt_succ,qh];exact ⟨a,n+1,rfl,L1,by omega,λr c b p G2 D L2' E2=>h _ G2 D (Nat.zero_le _) (L2'.mono (by omega)) (E1.trans E2)⟩
 simp only [za,tb3,o3,v3,c3,zh,qZ,getElem?_cons_zero,getElem?_cons_succ,k1,decide_false,Bool.false_eq_true,if_false,qw];rw [q3];clear q3;refine jb λnx4 q4=>?_;by_cases k2:w=3
 ·subst k2;simp only [za,tb3,o3,v3,length_cons,length_nil,Nat.zero_add,Nat.reduceAdd,Nat.reduceLT,getElem?_pos,getElem_cons_succ,getElem_cons_zero,c3,zh,qZ,decide_true,Bool.false_eq_true,↓reduceIte,qD,cb3,qb,Nat.zero_lt_succ,qh];refine ⟨a,n+1,4,rfl,L1,by omega,by omega,by omega,λhh l ms G2 h1 h2 ok L2' E2=>h _ G2 ⟨ok,?_,?_,?_⟩ (Nat.zero_le _) (L2'.mono (by omega)) (E1.trans E2)⟩
  ·have:=DP (n:=hh) (k:=4) (by omega);show (2:Int) ^ hh<=16;omega
  ·have:=DP (n:=l) (k:=4) (by omega);show (2:Int) ^ l<=16;omega
  ·have:=DP ok.2.2.1;show (2:Int) ^ ms.length<=32;omega
 simp only [za,tb3,o3,v3,c3,zh,qZ,getElem?_cons_zero,getElem?_cons_succ,k2,decide_false,Bool.false_eq_true,if_false,qw];rw [q4];clear q4;refine jb λnx5 q5=>?_;by_cases k3:w=4
 ·subst k3;simp only [za,tb3,o3,v3,length_cons,length_nil,Nat.zero_add,Nat.reduceAdd,Nat.reduceLT,getElem?_pos,getElem_cons_succ,getElem_cons_zero,c3,zh,qZ,decide_true,Bool.false_eq_true,↓reduceIte,qD,cb3,qb,Nat.zero_lt_succ,qh];exact ⟨a,n+1,rfl,L1,by omega,λb cells r c G2 C D eR eC L2' E2=>h _ G2 D (Nat.zero_le _) (L2'.mono (by omega)) (E1.trans E2)⟩
 simp only [za,tb3,o3,v3,c3,zh,qZ,getElem?_cons_zero,getElem?_cons_succ,k3,decide_false,Bool.false_eq_true,if_false,qw];rw [q5];clear q5;refine jb λnx6 q6=>?_;by_cases k4:w=5
 ·subst k4;simp only [za,tb3,o3,v3,length_cons,length_nil,Nat.zero_add,Nat.reduceAdd,Nat.reduceLT,getElem?_pos,getElem_cons_succ,getElem_cons_zero,c3,zh,qZ,decide_true,Bool.false_eq_true,↓reduceIte,qx,qG,qP,qb,cb3,Nat.zero_lt_succ,qh,q0,ne_eq,sizeLine_eq,Nat.reduceLeDiff,gn3,zM,set_cons_succ,set_cons_zero,zw,bm3,Nat.lt_add_one,zo,gu,Option.isSome_some,JG,cons_append,List.nil_append,qD,true_and];refine qS L1 (by omega) (by omega) (by omega) λx G2 x1 x2 L2' E2=>?_;have I:=qdK x1 x2
  try simp
  refine ⟨a,n+1+1,rfl,L2',by omega,λd G3 Dd dd L3' E3=>?_⟩
  try simp
  refine ⟨a,n+1+1+300,rfl,L3',by omega,λe G4 De de L4 E4=>?_⟩
  try simp
  intro p hp;have hpa:=L4.ne hp;refine qS (((L4.new hpa).new hpa).new hpa) (by omega) (by omega) (by omega) λk G5 k1 k2 L5 E5=>?_;have g5:=E5 p _ hpa qy;have EE:Ext a G G5:=(E1.trans E2).trans ((E3.trans E4).trans (Ext.trans (λb o hb e=>by
   have hbp:b≠p:=by rintro rfl;rw [hp] at e;cases e
   rw [jL hbp,jL hbp,jL hbp];exact e) E5))
  have P1:∃ d':Dl,(Dl.joined (.joined (.skew (1+x) 1 2 1 1) (.table 2 [[1,0]])) d).t=d'.t/\Dr d' 16 16 32/\d'.dep<=2:=⟨_,rfl,(I.join Dd (by decide) (by decide) (by decide)).mono (by decide) (by decide) (by decide),by simp [Dl.dep,dd]⟩
  have P2:∃ d':Dl,(Dl.joined e (.joined (.skew (1+x) 1 2 1 1) (.table 2 [[1,0]]))).t=d'.t/\Dr d' 16 16 32/\d'.dep<=2:=⟨_,rfl,(De.join I (by decide) (by decide) (by decide)).mono (by decide) (by decide) (by decide),by simp [Dl.dep,de]⟩
  have P3:∃ d':Dl,(Dl.joined (.skew 8 1 3 1 1) (.rests 2 16 5 7)).t=d'.t/\Dr d' 16 16 32/\d'.dep<=2:=⟨_,rfl,qqT.mono (by decide) (by decide) (by decide),by simp [Dl.dep]⟩
  have P4:∃ d':Dl,(Dl.joined (.rests 1 8 3 4) (.skew 16 2 5 2 1)).t=d'.t/\Dr d' 16 16 32/\d'.dep<=2:=⟨_,rfl,qq7.mono (by decide) (by decide) (by decide),by simp [Dl.dep]⟩
  obtain ⟨t,ht,d',rfl,D',dl⟩:=qok k1 k2 (P:=λt=>∃ d':Dl,t=d'.t/\Dr d' 16 16 32/\d'.dep<=2) P1 P2 P3 P4;have hg:zo G5 p=some [(Dl.joined (.joined (.skew (1+x) 1 2 1 1) (.table 2 [[1,0]])) d).t,(Dl.joined e (.joined (.skew (1+x) 1 2 1 1) (.table 2 [[1,0]]))).t,(Dl.joined (.skew 8 1 3 1 1) (.rests 2 16 5 7)).t,(Dl.joined (.rests 1 8 3 4) (.skew 16 2 5 2 1)).t]:=by
   unfold zo;rw [g5];rfl
  rw [L3.ixR,hg];simp only [ht];exact h d' G5 D' dl (L5.mono (by omega)) EE
 ·simp only [za,tb3,o3,v3,c3,zh,qZ,getElem?_cons_zero,getElem?_cons_succ,k4,decide_false,Bool.false_eq_true,if_false,qw];rw [q6];simp only [qD,qP,qb,c3,cb3,v3,length_cons,length_nil,Nat.zero_add,Nat.reduceAdd,Nat.zero_lt_succ,getElem?_pos,getElem_cons_zero,qh,sizeLine_eq,Nat.reduceLeDiff,true_and];refine ⟨a,n+1,rfl,L1,by omega,λd G3 Dd dd L3' E3=>?_⟩;refine ⟨a,n+1+300,rfl,L3',by omega,λe G4 De de L4 E4=>?_⟩
  try simp
  exact h (.joined d e) G4 ((Dd.join De (by decide) (by decide) (by decide)).mono (by decide) (by decide) (by decide)) (by simp [Dl.dep];omega) (L4.mono (by omega)) (E1.trans (E3.trans E4))
def qcY:∀ (k n:Nat),pop (k+1) n=pop k n+n/2 ^ k%2
 |0,n=>by simp [pop]
 |k+1,n=>by
  have e1:pop (k+2) n=n%2+pop (k+1) (n/2):=rfl;have e2:pop (k+1) n=n%2+pop k (n/2):=rfl;rw [e1,e2,qcY k (n/2),Nat.div_div_eq_div_mul,show 2*2 ^ k=2 ^ (k+1) by rw [Nat.pow_succ,Nat.mul_comm]];omega
def qlw {k k' n:Nat} (h:n<2 ^ k) (hk:k<=k'):pop k' n=pop k n:=by
 induction hk with
 |refl=>rfl
 |step hk ih=>rw [CH _ n (Nat.lt_of_lt_of_le h (Nat.pow_le_pow_right (by omega) hk)),ih]
def WN:Sp3:=λts G q=>∃ n:Int,ts=[.int n]/\0<=n/\n<512/\∀ G',Ex G G'->q (.bl (pop 64 n.toNat%2==1)) G'
def qbz:∀ ts G q,WN ts G q->ts.length=1/\DT (RO q) (qm ["_law_number","_law_found","_law_t"] ts) G:=by
 rintro ts G q ⟨n,rfl,n0,n1,h⟩;refine ⟨rfl,?_⟩;obtain ⟨m,rfl⟩:=Int.eq_ofNat_of_zero_le n0;simp only [DT,qx,qG,c3,gn3,XY,zE,qb,qh,Int.reducePow,Int.reduceNeg,Int.neg_ofNat_le_ofNat,Int.reduceLT,and_self,Int.reduceToNat,qm,map_cons,List.map_nil,length_cons,length_nil,Nat.zero_add,Nat.reduceAdd,Nat.add_one_sub_one,List.reduceReplicate,cons_append,List.nil_append,set_cons_succ,set_cons_zero,true_and];refine VW _ (λi τ G'=>Ex G G'/\∃ x2,τ=[some (.int m),some (.bl (pop i m%2==1)),x2]) ⟨Ex.refl,none,rfl⟩ (λ_ _ _ _ _=>True.intro) ?_ ?_
 ·rintro i z τ G' nx hz ⟨E,x2,rfl⟩ hn;obtain ⟨hi,rfl⟩:=KW hz;have hi9:i<=8:=Nat.le_of_lt_succ hi;simp only [gn3,qG,o3,v3,Int.zero_add,set_cons_succ,set_cons_zero,length_cons,length_nil,Nat.zero_add,Nat.reduceAdd,Nat.reduceLT,getElem?_pos,getElem_cons_succ,getElem_cons_zero,Nat.zero_lt_succ,zM,qb,c3,qh,sizeLine_eq,Nat.reduceLeDiff,Nat.lt_add_one,iC,Int.reduceLT,zh,qZ,Bool.false_eq_true,↓reduceIte,true_and,ixR,zo,gu];intro p hp;rw [qaW hi9];have hp2:=DU i;have hp3:=DP (n:=i) (k:=8) hi9;simp only;refine ⟨⟨by omega,by omega⟩,hn _ _ ⟨E.trans (ZP hp),some (.int i),?_⟩⟩;have e1:((m:Int)/2 ^ i)=((m/2 ^ i:Nat):Int):=by rw [p2];exact (Int.natCast_ediv _ _).symm
  have e2:decide ((m:Int)/2 ^ i%2=1)=(m/2 ^ i%2==1):=by
   rw [e1];by_cases hb:m/2 ^ i%2=1
   ·have z:((m/2 ^ i:Nat):Int)%2=1:=by omega
    rw [decide_eq_true z,hb];rfl
   ·have z:¬ ((m/2 ^ i:Nat):Int)%2=1:=by omega
    rw [decide_eq_false z];exact (beq_eq_false_iff_ne.mpr hb).symm
  have e3:(pop (i+1) m%2==1)=!(decide ((pop i m%2==1)=decide ((m:Int)/2 ^ i%2=1))):=by
   rw [e2,qcY];have h1:pop i m%2=0\/pop i m%2=1:=by omega
   have h2:m/2 ^ i%2=0\/m/2 ^ i%2=1:=by omega
   rcases h1 with h1|h1<;>rcases h2 with h2|h2<;>simp [Nat.add_mod,h1,h2]
  rw [e3]
  all_goals try simp
 ·rintro τ G' ⟨E,x2,rfl⟩;rw [ZC];simp only [qD,v3,length_cons,length_nil,Nat.zero_add,Nat.reduceAdd,Nat.reduceLT,getElem?_pos,getElem_cons_succ,getElem_cons_zero];have:=h G' E;rw [show (m:Int).toNat=m from rfl,qlw (k:=9) (k':=64) (by omega) (by omega)] at this;simpa using this
def ZF:Nat->Sp3
 |0=>C9
 |n+1=>λts G q=>∃ (d:Dl) (i j:Int),ts=[d.t,.int i,.int j]/\d.dep<=n/\d.Ok/\Inn d i j/\∀ G',Ex G G'->q (.int (d.bank i j)) G'
def qg1 {ms:List Int} {i j c:Int} {n:Int} {G:Gp} {q:Q3} (hn:n=i*c+j) (hc:Q7 i c) (h0:0<=n) (hl:ms.length<=5) (hm:∀ m∈ms,0<=m/\m<512) (h:∀ p G',Ex G G'->G' p=none->q (.ref p) (gu G' p (.lst ((zP n 0 ms).map T.int)))) :
  SB (λG=>ZX G (.tup (ms.map T.int))=some (ms.map T.int)) (qN 2 (qj (gn3 0) (qj (gn3 1) qO))) (tb3 (cb3 WN (qb (o3 (iI Builtin.bitAnd) (o3 q0 (o3 (iC Q7 (·*·)) (v3 3) (v3 4)) (v3 2)) (v3 1)) qh))) (o3 ix3 (zM (qb (c3 (.int 1)) (qb (c3 (.int 2)) (qb (c3 (.int 4)) (qb (c3 (.int 8)) (qb (c3 (.int 16)) qh)))))) (v3 0)) q (qcZ (ms.map T.int)) [] [none,none,some (.int j),some (.int i),some (.int c)] G:=by
 refine X6 _ (λk ys τ G'=>Ex G G'/\ys=(zP n 0 (ms.take k)).map T.int/\∃ x0 x1,τ=[x0,x1,some (.int j),some (.int i),some (.int c)]) ⟨Ex.refl,by simp [zP],none,none,rfl⟩ (λ_ ys τ G' _ hp=>rfl) ?_ ?_
 ·rintro k z ys τ G' R hz ⟨E,rfl,x0,x1,rfl⟩ hR;obtain ⟨a,ha,rfl⟩:=DL hz;rw [getElem?_map] at ha;cases e:ms[k]? with
  |none=>rw [e] at ha;cases ha
  |some m=>
   rw [e] at ha;have:a=T.int m:=by simpa using ha.symm
   subst this;obtain ⟨hi,hm'⟩:=List.getElem?_eq_some_iff.mp e;have mm:=hm m (by rw [← hm'];exact List.getElem_mem hi);have hr:=PyProof.Rows.bitAnd_range n mm.1;simp [qx,qG,gn3,qD,jw,za,zw,VH,qw,v3,c3,o3,u3,QV,L3.ixT,L3.ixR,q0,iI,iC,iB,zh,qZ,YD,tb3,VB,or3,JB,zk,UV,ja,if3,ch3,cb3,qb,qh,JH,tyT,QQ,qP,zM,JX,np3,sp3,qN,qj,qO,zF,JY,jU,qm,bm3,JG,JF,jE,VD,VE,UX,ZW,qI,zT,Y8,UY,VI,Z4,HT.sIx,zo,in3,zq,eqF,gu,sizeLine_eq,getElem?_cons_zero,getElem?_cons_succ,hc,← hn];refine ⟨_,rfl,hr.1,by omega,λG2 E2=>?_⟩;have tk:ms.take (k+1)=ms.take k++[m]:=by rw [List.take_succ_eq_append_getElem hi,hm']
   have lt:(ms.take k).length=k:=by rw [List.length_take];omega
   have st:zP n 0 (ms.take (k+1))=zP n 0 (ms.take k)++(if qbl n m then [2 ^ k] else []):=by
    rw [tk,YO,lt];simp [zP]
   have cl:=Q8 n 0 (ms.take k);have eo:(pop 64 (Builtin.bitAnd n m).toNat%2==1)=qbl n m:=rfl;rw [eo];cases ho:qbl n m with
   |true=>
    simp;intro p hp;have e5:=qay (d:=k) (by omega);simp [L3.ixR,zo,qy,e5];refine ⟨by omega,hR _ _ _ ⟨E.trans (E2.trans (ZP hp)),?_,_,_,rfl⟩⟩;rw [st,ho];simp
   |false=>
    simp;refine hR _ _ _ ⟨E.trans E2,?_,_,_,rfl⟩;rw [st,ho];simp
 ·rintro ys τ G' ⟨E,rfl,x0,x1,rfl⟩ p hp;rw [CV,length_map,List.take_length];exact h p G' E hp
def EI (n:Nat):∀ ts G q,ZF (n+1) ts G q->ts.length=3/\UI (jZ (n+1)) WN (ZF n) (RO q) (qm ["_law_dealing_here","_law_i","_law_j","_law_rows","_law_columns","_law_banks","_law_some","_law_high","_law_wide","_law_more"] ts) G:=by
 rintro ts G q ⟨d,i,j,rfl,hd,ok,I,h⟩;refine ⟨rfl,?_⟩;have i1:=I.i1;have i2:=I.i2;have j1:=I.j1;have j2:=I.j2;have L:=Dl.lims ok;have r2:=L.r2;have c1:=L.c1;have c2:=L.c2;have b1:=L.b1;have b2:=L.b2;unfold UI;refine jb λnx1 q1=>?_;simp only [qG,cb3,qb,qh,v3,qm,List.map,List.length,cons_append,getElem?_cons_zero];refine ⟨d,rfl,hd,ok,λG1 E1=>?_⟩;simp [XT,qN,qj,qO,gn3];cases d with
 |skew r c b x y=>
  obtain ⟨k1,k2,k3,k4,k5,k6,k7,k8,k9,k10⟩:=ok;simp only [Dl.t];rw [q1,zV rfl,if_pos rfl];simp [L2.atI,ixN,qx,qG,gn3,qD,jw,za,zw,VH,qw,v3,c3,o3,u3,QV,L3.ixT,L3.ixR,q0,iI,iC,iB,zh,qZ,YD,tb3,VB,or3,JB,zk,UV,ja,if3,ch3,cb3,qb,qh,JH,tyT,QQ,qP,zM,JX,np3,sp3,qN,qj,qO,zF,JY,jU,qm,bm3,JG,JF,jE,VD,VE,UX,ZW,qI,zT,Y8,UY,VI,Z4,HT.sIx,zo,in3,zq,eqF,gu,sizeLine_eq,getElem?_cons_zero,getElem?_cons_succ];exact ⟨cm' (by omega) (by omega),cm' (by omega) (by omega),by simp only [Dl.B];omega,h _ E1⟩
 |rests r c b x=>
  simp only [Dl.t];rw [q1,zV rfl,if_neg (by decide),zV rfl,if_pos rfl];simp [qx,qG,gn3,qD,jw,za,zw,VH,qw,v3,c3,o3,u3,QV,L3.ixT,L3.ixR,q0,iI,iC,iB,zh,qZ,YD,tb3,VB,or3,JB,zk,UV,ja,if3,ch3,cb3,qb,qh,JH,tyT,QQ,qP,zM,JX,np3,sp3,qN,qj,qO,zF,JY,jU,qm,bm3,JG,JF,jE,VD,VE,UX,ZW,qI,zT,Y8,UY,VI,Z4,HT.sIx,zo,in3,zq,eqF,gu,sizeLine_eq,getElem?_cons_zero,getElem?_cons_succ];exact ⟨cm (by omega) (by omega),by omega,h _ E1⟩
 |bits hh l ms=>
  obtain ⟨k1,k2,k3,k4⟩:=ok;simp only [Dl.t];rw [q1,zV rfl,if_neg (by decide),zV rfl,if_neg (by decide),zV rfl,if_pos rfl];refine jb λnx2 q2=>?_;simp [qbk,qky,lc3,SN,cap,qx,qG,gn3,qD,jw,za,zw,VH,qw,v3,c3,o3,u3,QV,L3.ixT,L3.ixR,q0,iI,iC,iB,zh,qZ,YD,tb3,VB,or3,JB,zk,UV,ja,if3,ch3,cb3,qb,qh,JH,tyT,QQ,qP,zM,JX,np3,sp3,qN,qj,qO,zF,JY,jU,qm,bm3,JG,JF,jE,VD,VE,UX,ZW,qI,zT,Y8,UY,VI,Z4,HT.sIx,zo,in3,zq,eqF,gu,sizeLine_eq,getElem?_cons_zero,getElem?_cons_succ];refine qg1 (n:=i*2 ^ l+j) rfl (cm (by omega) (by omega)) (qaE (h:=hh) i1 j1) k3 (λm hm=>⟨(k4 m hm).1,?_⟩) λp G2 E2 hp=>?_
  ·have:=(k4 m hm).2;have:=DP (n:=hh+l) (k:=8) (by omega);omega
  ·try rw [q2]
   simp [qi3,zo,qy,DJ,qx,qG,gn3,qD,jw,za,zw,VH,qw,v3,c3,o3,u3,QV,L3.ixT,L3.ixR,q0,iI,iC,iB,zh,qZ,YD,tb3,VB,or3,JB,zk,UV,ja,if3,ch3,cb3,qb,qh,JH,tyT,QQ,qP,zM,JX,np3,sp3,qN,qj,qO,zF,JY,jU,qm,bm3,JG,JF,jE,VD,VE,UX,ZW,qI,zT,Y8,UY,VI,Z4,HT.sIx,zo,in3,zq,eqF,gu,sizeLine_eq,getElem?_cons_zero,getElem?_cons_succ];refine ⟨⟨by have:=Q8 (i*2 ^ l+j) 0 ms;omega,λx hx=>?_⟩,?_⟩
   ·obtain ⟨k,h1,rfl⟩:=UE _ 0 ms x hx;have:=DU k;have:=DP (n:=k) (k:=30) (by omega);omega
   ·rw [V9];exact h _ (E1.trans (E2.trans (ZP hp)))
 |table b cells=>
  obtain ⟨k1,k2,k3,k4,c,k5,k6,k7⟩:=ok;have e0:cells[0]?=some cells[0]:=getElem?_eq_getElem (by omega);have eC:(Dl.table b cells).C=c:=by simp [Dl.C,e0,(k7 cells[0] (List.getElem_mem _)).1]
  have eR:(Dl.table b cells).R=cells.length:=rfl;rw [eR] at i2;rw [eC] at j2;have hi:i.toNat<cells.length:=by omega
  have hrow:=k7 cells[i.toNat] (List.getElem_mem hi);have hj:j.toNat<cells[i.toNat].length:=by rw [hrow.1];omega
  simp only [Dl.t];rw [q1,zV rfl,if_neg (by decide),zV rfl,if_neg (by decide),zV rfl,if_neg (by decide),zV rfl,if_pos rfl];simp [qcW,qx,qG,gn3,qD,jw,za,zw,VH,qw,v3,c3,o3,u3,QV,L3.ixT,L3.ixR,q0,iI,iC,iB,zh,qZ,YD,tb3,VB,or3,JB,zk,UV,ja,if3,ch3,cb3,qb,qh,JH,tyT,QQ,qP,zM,JX,np3,sp3,qN,qj,qO,zF,JY,jU,qm,bm3,JG,JF,jE,VD,VE,UX,ZW,qI,zT,Y8,UY,VI,Z4,HT.sIx,zo,in3,zq,eqF,gu,sizeLine_eq,getElem?_cons_zero,getElem?_cons_succ];rw [jF i1 (by simpa using i2)];simp [hi,qam,L3.ixT];rw [jF j1 (by simp;omega)];simp [hj];have:=h G1 E1;simpa [Dl.bank,hi,hj] using this
 |joined d e=>
  obtain ⟨kd,ke,kr,kc,kb⟩:=ok;have Le:=Dl.lims ke;obtain ⟨I1,I2⟩:=I.up Le;have:1<=n:=by simp [Dl.dep] at hd;omega
  obtain ⟨m,rfl⟩:∃ m,n=m+1:=⟨n-1,by omega⟩
  have r1:=Le.r1;have r2:=Le.r2;have c1:=Le.c1;have c2:=Le.c2;have b1:=Le.b1;have b2:=Le.b2;simp only [Dl.t];rw [q1,zV rfl,if_neg (by decide),zV rfl,if_neg (by decide),zV rfl,if_neg (by decide),zV rfl,if_neg (by decide)];simp [qc2,qcW,qx,qG,gn3,qD,jw,za,zw,VH,qw,v3,c3,o3,u3,QV,L3.ixT,L3.ixR,q0,iI,iC,iB,zh,qZ,YD,tb3,VB,or3,JB,zk,UV,ja,if3,ch3,cb3,qb,qh,JH,tyT,QQ,qP,zM,JX,np3,sp3,qN,qj,qO,zF,JY,jU,qm,bm3,JG,JF,jE,VD,VE,UX,ZW,qI,zT,Y8,UY,VI,Z4,HT.sIx,zo,in3,zq,eqF,gu,sizeLine_eq,getElem?_cons_zero,getElem?_cons_succ];refine ⟨e,rfl,by simp [Dl.dep] at hd;omega,ke,λG2 E2=>?_⟩;simp [XT];refine ⟨⟨by omega,by omega⟩,⟨by omega,by omega⟩,d,_,_,rfl,by simp [Dl.dep] at hd;omega,kd,I1,λG3 E3=>?_⟩;simp;refine ⟨cm (by omega) (by omega),by omega,by omega,e,_,_,rfl,by simp [Dl.dep] at hd;omega,ke,I2,λG4 E4=>?_⟩;simp;exact h _ (E1.trans (E2.trans (E3.trans E4)))
def _root_.L3.Dps.append {G:Gp}:∀ {xs ys:List T} {ds es:List PyData},Dps G xs ds->Dps G ys es->Dps G (xs++ys) (ds++es)
 |_,_,_,_,.nil,b=>b
 |_,_,_,_,.cons a t,b=>.cons a (L3.Dps.append t b)
def _root_.L3.Dps.take {G:Gp}:∀ {xs:List T} {ds:List PyData} (i:Nat),Dps G xs ds->Dps G (xs.take i) (ds.take i)
 |_,_,0,_=>.nil
 |_,_,_+1,.nil=>.nil
 |_,_,i+1,.cons a t=>.cons a (L3.Dps.take i t)
def _root_.L3.Dps.drop {G:Gp}:∀ {xs:List T} {ds:List PyData} (i:Nat),Dps G xs ds->Dps G (xs.drop i) (ds.drop i)
 |_,_,0,h=>h
 |_,_,_+1,.nil=>.nil
 |_,_,i+1,.cons a t=>L3.Dps.drop i t
def CJ:TS3:=(qD (lc3 (zE (qb (v3 2) qh)) (gn3 0) tt3 (qP (qb (o3 (iC Q7 (·*·)) (v3 0) (v3 1)) (qb (o3 (iC Q7 (·*·)) (v3 0) (v3 2)) qh))) [none,some 0,some 1]))
def V8 (S_strung:Sp3):TS3:=(qx (qG (o3 ix3 (v3 0) (c3 (.int 0))) (gn3 1)) (qx (za (tb3 (o3 (zh false) (v3 1) (c3 (.str "cells")))) (qD (cb3 zT (qb (o3 ix3 (v3 0) (c3 (.int 1))) qh))) qw) (qx (za (tb3 (o3 (zh false) (v3 1) (c3 (.str "block")))) (qD (qmc (zE (qb (o3 ix3 (v3 0) (c3 (.int 1))) qh)) (gn3 0) tt3 (zE (qb (o3 ix3 (v3 2) (c3 (.int 2))) qh)) (gn3 1) tt3 (qP (qb (v3 0) (qb (v3 1) qh))) [none,none,some 0])) qw) (qx (za (tb3 (o3 (zh false) (v3 1) (c3 (.str "step")))) (qD (cb3 S_strung (qb (o3 ix3 (v3 0) (c3 (.int 1))) (qb (o3 ix3 (v3 0) (c3 (.int 2))) (qb (o3 ix3 (v3 0) (c3 (.int 3))) qh))))) qw) (qx (qG (qew DG (v3 1)) (qN 2 (qj (gn3 2) (qj (gn3 3) qO)))) (qD (cb3 S_strung (qb (v3 2) (qb (v3 3) (qb (o3 ix3 (v3 0) (c3 (.int 1))) qh))))))))))
def X8 (S_size_of:Sp3) (S_cells_of:Sp3):TS3:=(qx (qG (cb3 S_size_of (qb (v3 0) qh)) (qN 3 (qj (gn3 2) (qj (gn3 3) (qj (gn3 4) qO))))) (qx (qG (cb3 S_cells_of (qb (v3 1) qh)) (gn3 5)) (qx (qG (lc3 (YQ (v3 5)) (qN 2 (qj (gn3 0) (qj (gn3 1) qO))) tt3 (v3 0) [none,none]) (gn3 6)) (qx (qG (lc3 (YQ (v3 5)) (qN 2 (qj (gn3 0) (qj (gn3 1) qO))) tt3 (v3 1) [none,none]) (gn3 7)) (qD (qmc (zE (qb (u3 QV (cb3 LH (qb (v3 6) qh))) (qb (o3 (iI (·-·)) (v3 2) (cb3 MT (qb (v3 6) qh))) qh))) (gn3 0) tt3 (zE (qb (u3 QV (cb3 LH (qb (v3 3) qh))) (qb (o3 (iI (·-·)) (v3 2) (cb3 MT (qb (v3 3) qh))) qh))) (gn3 1) tt3 (qP (qb (v3 0) (qb (v3 1) qh))) [none,none,some 3,some 7]))))))
def UD (S_law_pick:Sp3):TS3:=(qD (o3 q0 (c3 (.int 1)) (cb3 S_law_pick (qb (v3 0) (qb (o3 ix3 (zM (qb (c3 (.int 5)) (qb (c3 (.int 5)) (qb (c3 (.int 5)) (qb (c3 (.int 5)) (qb (c3 (.int 5)) (qb (c3 (.int 5)) (qb (c3 (.int 8)) (qb (c3 (.int 16)) qh))))))))) (cb3 S_law_pick (qb (v3 0) (qb (c3 (.int 8)) qh)))) qh)))))
def UO (S_law_pick:Sp3) (S_law_many:Sp3):TS3:=(qx (qG (cb3 S_law_pick (qb (v3 0) (qb (c3 (.int 9)) qh))) (gn3 1)) (qx (za (tb3 (o3 (iB λi j=>decide (i<j)) (v3 1) (c3 (.int 4)))) (qD (qP (qb (o3 ix3 (zM (qb (c3 (.str "row")) (qb (c3 (.str "column")) (qb (c3 (.str "slant")) (qb (c3 (.str "back")) qh))))) (v3 1)) (qb (cb3 S_law_many (qb (v3 0) qh)) qh)))) qw) (qx (za (tb3 (o3 (iB λi j=>decide (i<j)) (v3 1) (c3 (.int 6)))) (qx (jU 2 3 (qb (cb3 S_law_pick (qb (v3 0) (qb (c3 (.int 2)) qh))) (qb (o3 q0 (c3 (.int 1)) (cb3 S_law_pick (qb (v3 0) (qb (c3 (.int 4)) qh)))) qh))) (qx (qG (o3 q0 (c3 (.int 1)) (cb3 S_law_pick (qb (v3 0) (qb (o3 (iC qa2 (·/·)) (c3 (.int 16)) (v3 3)) qh)))) (gn3 4)) (qD (o3 ix3 (zM (qb (qP (qb (c3 (.str "block")) (qb (v3 3) (qb (v3 4) qh)))) (qb (qP (qb (c3 (.str "block")) (qb (v3 4) (qb (v3 3) qh)))) qh))) (v3 2))))) qw) (qx (za (tb3 (o3 (iB λi j=>decide (i<j)) (v3 1) (c3 (.int 8)))) (qx (jU 5 6 (qb (o3 (iI (·-·)) (cb3 S_law_pick (qb (v3 0) (qb (c3 (.int 7)) qh))) (c3 (.int 3))) (qb (o3 (iI (·-·)) (cb3 S_law_pick (qb (v3 0) (qb (c3 (.int 9)) qh))) (c3 (.int 4))) qh))) (qx (za (tb3 (o3 (zh false) (cb3 S_law_pick (qb (v3 0) (qb (c3 (.int 6)) qh))) (c3 (.int 0)))) (qD (qP (qb (c3 (.str "step")) (qb (o3 (iC Q7 (·*·)) (c3 (.int 5)) (v3 5)) (qb (o3 q0 (o3 (iC Q7 (·*·)) (c3 (.int 3)) (v3 6)) (cb3 ZW (qb (zk (o3 (zh false) (v3 5) (c3 (.int 0))) (o3 (zh false) (v3 6) (c3 (.int 0)))) qh))) (qb (o3 q0 (c3 (.int 1)) (cb3 S_law_pick (qb (v3 0) (qb (c3 (.int 4)) qh)))) qh)))))) qw) (qD (qP (qb (c3 (.str "step")) (qb (v3 5) (qb (o3 q0 (v3 6) (cb3 ZW (qb (zk (o3 (zh false) (v3 5) (c3 (.int 0))) (o3 (zh false) (v3 6) (c3 (.int 0)))) qh))) (qb (cb3 S_law_many (qb (v3 0) qh)) qh)))))))) qw) (qx (jU 7 8 (qb (zM qh) (qb (o3 q0 (c3 (.int 1)) (o3 (iC Q7 (·*·)) (c3 (.int 4)) (cb3 ZW (qb (o3 (zh false) (cb3 S_law_pick (qb (v3 0) (qb (c3 (.int 5)) qh))) (c3 (.int 0))) qh)))) qh))) (qx (XY (zE (qb (cb3 S_law_many (qb (v3 0) qh)) qh)) (gn3 9) (qx (qG (qP (qb (o3 (iC Q7 (·*·)) (v3 8) (o3 (iI (·-·)) (cb3 S_law_pick (qb (v3 0) (qb (c3 (.int 6)) qh))) (c3 (.int 2)))) (qb (o3 (iC Q7 (·*·)) (v3 8) (o3 (iI (·-·)) (cb3 S_law_pick (qb (v3 0) (qb (c3 (.int 6)) qh))) (c3 (.int 2)))) qh))) (gn3 10)) (za (tb3 (o3 (qoh true) (v3 10) (v3 7))) (zw (bm3 JG (v3 7) (qb (v3 10) qh))) qw))) (qD (qP (qb (c3 (.str "cells")) (qb (cb3 qI (qb (v3 7) qh)) qh))))))))))
def J5:TS3:=(qx (za (tb3 (o3 (zh false) (o3 ix3 (v3 0) (c3 (.int 0))) (c3 (.str "cells")))) (qD (cb3 zT (qb (o3 ix3 (v3 0) (c3 (.int 1))) qh))) qw) (qx (za (tb3 (o3 (zh false) (o3 ix3 (v3 0) (c3 (.int 0))) (c3 (.str "block")))) (qx (qG (zM qh) (gn3 1)) (qx (XY (zE (qb (o3 ix3 (v3 0) (c3 (.int 1))) qh)) (gn3 2) (zw (bm3 JF (v3 1) (qb (lc3 (zE (qb (o3 ix3 (v3 0) (c3 (.int 2))) qh)) (gn3 0) tt3 (qP (qb (v3 1) (qb (v3 0) qh))) [none,some 2]) qh)))) (qD (v3 1)))) qw) (qx (qG (qhI ["row","column","slant","back","step"] (qb (qP (qb (c3 (.int 0)) (qb (c3 (.int 1)) qh))) (qb (qP (qb (c3 (.int 1)) (qb (c3 (.int 0)) qh))) (qb (qP (qb (c3 (.int 1)) (qb (c3 (.int 1)) qh))) (qb (qP (qb (c3 (.int 1)) (qb (u3 QV (c3 (.int 1))) qh))) (qb (JX (v3 0) (sp3 (c3 (.int 1))) (sp3 (c3 (.int 3)))) qh))))) (o3 ix3 (v3 0) (c3 (.int 0)))) (qN 2 (qj (gn3 3) (qj (gn3 4) qO)))) (qD (lc3 (zE (qb (o3 ix3 (v3 0) (u3 QV (c3 (.int 1)))) qh)) (gn3 0) tt3 (qP (qb (o3 (iC Q7 (·*·)) (v3 0) (v3 1)) (qb (o3 (iC Q7 (·*·)) (v3 0) (v3 2)) qh))) [none,some 3,some 4])))))
def Q4:TS3:=(qx (XY (zE (qb (cb3 jE (qb (v3 0) qh)) qh)) (gn3 1) (XY (zE (qb (o3 q0 (v3 1) (c3 (.int 1))) (qb (cb3 jE (qb (v3 0) qh)) qh))) (gn3 2) (za (tb3 (o3 (zh false) (o3 ix3 (v3 0) (v3 1)) (o3 ix3 (v3 0) (v3 2)))) (qD (qP (qb (v3 1) (qb (v3 2) qh)))) qw))) (qD (c3 .non)))
def DA (S_cells_of:Sp3):TS3:=(qD (lc3 (YQ (cb3 S_cells_of (qb (v3 0) qh))) (qN 2 (qj (gn3 0) (qj (gn3 1) qO))) tt3 (qP (qb (o3 q0 (o3 ix3 (v3 2) (c3 (.int 0))) (v3 0)) (qb (o3 q0 (o3 ix3 (v3 2) (c3 (.int 1))) (v3 1)) qh))) [none,none,some 1]))
def UP (S_shifted:Sp3) (S_is_word:Sp3) (S_is_pair:Sp3):TS3:=(qD (zk (cb3 S_is_pair (qb (v3 2) qh)) (cb3 Y8 (qb (lc3 (YQ (cb3 S_shifted (qb (v3 1) (qb (v3 2) qh)))) (gn3 0) tt3 (cb3 S_is_word (qb (v3 1) (qb (v3 0) qh))) [none,some 0]) qh))))
def UG (S_is_start:Sp3) (S_shifted:Sp3):TS3:=(qx (za (JB (tb3 (cb3 S_is_start (qb (v3 0) (qb (v3 1) (qb (v3 2) qh)))))) VH qw) (qD (cb3 S_shifted (qb (v3 1) (qb (v3 2) qh)))))
def ZZ (S_words_of:Sp3) (S_bank_in:Sp3):TS3:=(qD (lc3 (YQ (cb3 S_words_of (qb (v3 0) (qb (v3 1) (qb (v3 2) qh))))) (gn3 0) tt3 (cb3 S_bank_in (qb (v3 1) (qb (v3 0) qh))) [none,some 0]))
def KA (S_starts:Sp3) (S_banks_from:Sp3) (S_first_alike:Sp3):TS3:=(qx (XY (YQ (cb3 S_starts (qb (v3 0) (qb (v3 1) qh)))) (gn3 2) (qx (qG (cb3 S_first_alike (qb (cb3 S_banks_from (qb (v3 0) (qb (v3 1) (qb (v3 2) qh)))) qh)) (gn3 3)) (za (tb3 (o3 (YD true) (v3 3) (c3 .non))) (qD (qP (qb (v3 2) (qb (o3 ix3 (v3 3) (c3 (.int 0))) (qb (o3 ix3 (v3 3) (c3 (.int 1))) qh))))) qw))) (qD (c3 .non)))
def Z5 (S_law_size:Sp3) (S_law_cells:Sp3):TS3:=(qx (qG (cb3 S_law_size (qb (v3 0) qh)) (qN 3 (qj (gn3 2) (qj (gn3 3) (qj (gn3 4) qO))))) (qx (qG (cb3 S_law_cells (qb (v3 1) qh)) (gn3 5)) (qx (jU 6 7 (qb (lc3 (YQ (v3 5)) (qN 2 (qj (gn3 0) (qj (gn3 1) qO))) tt3 (v3 0) [none,none]) (qb (lc3 (YQ (v3 5)) (qN 2 (qj (gn3 0) (qj (gn3 1) qO))) tt3 (v3 1) [none,none]) qh))) (qx (qG (zM qh) (gn3 8)) (qx (XY (zE (qb (u3 QV (cb3 LH (qb (v3 6) qh))) (qb (o3 (iI (·-·)) (v3 2) (cb3 MT (qb (v3 6) qh))) qh))) (gn3 9) (zw (bm3 JF (v3 8) (qb (lc3 (zE (qb (u3 QV (cb3 LH (qb (v3 7) qh))) (qb (o3 (iI (·-·)) (v3 3) (cb3 MT (qb (v3 7) qh))) qh))) (gn3 0) tt3 (qP (qb (v3 1) (qb (v3 0) qh))) [none,some 9]) qh)))) (qD (v3 8)))))))
def UQ (S_law_cells:Sp3) (S_law_bank:Sp3):TS3:=(qD (lc3 (YQ (cb3 S_law_cells (qb (v3 1) qh))) (qN 2 (qj (gn3 0) (qj (gn3 1) qO))) tt3 (cb3 S_law_bank (qb (v3 2) (qb (o3 q0 (o3 ix3 (v3 3) (c3 (.int 0))) (v3 0)) (qb (o3 q0 (o3 ix3 (v3 3) (c3 (.int 1))) (v3 1)) qh)))) [none,none,some 0,some 2]))
def Y6 {G:Gp} {p:Addr} {xs:List T} (h:G p=some (.lst xs)):zo G p=some xs:=by unfold zo;rw [h]
def qib {xs:List T} {d:Int} (h0:0<=d) (h1:d<(xs.length:Int)):∃ z,L2.atI xs d=some z/\z∈xs:=by
 rw [jF h0 h1];have:d.toNat<xs.length:=by omega
 exact ⟨xs[d.toNat],getElem?_eq_getElem this,List.getElem_mem this⟩
inductive Wk where
 |line (k m:Nat)
 |block (h w:Nat)
 |step (d a:Int) (m:Nat)
 |cells (ps:List (Int×Int))
def JR:Nat->Str
 |0=>"row" |1=>"column" |2=>"slant" |_=>"back"
def lnD:Nat->Int
 |0=>0|_=>1
def lnA:Nat->Int
 |0=>1|1=>0|2=>1|_=>-1
def pT (p:Int×Int):T:=.tup [.int p.1,.int p.2]
def Wk.t:Wk->T
 |.line k m=>.tup [.str (JR k),.int m]
 |.block h w=>.tup [.str "block",.int h,.int w]
 |.step d a m=>.tup [.str "step",.int d,.int a,.int m]
 |.cells ps=>.tup [.str "cells",.tup (ps.map pT)]
def jy (d a:Int) (m:Nat):List (Int×Int):=(List.range m).map λ(t:Nat)=>((t:Int)*d,(t:Int)*a)
def jp (h w:Nat):List (Int×Int):=(List.range h).flatMap λ(p:Nat)=>(List.range w).map λ(q:Nat)=>((p:Int),(q:Int))
def Wk.pc:Wk->List (Int×Int)
 |.line k m=>jy (lnD k) (lnA k) m
 |.block h w=>jp h w
 |.step d a m=>jy d a m
 |.cells ps=>ps
def Wk.Ok:Wk->Prop
 |.line k m=>k<4/\1<=m/\m<=16
 |.block h w=>1<=h/\1<=w/\h<=16/\w<=16/\h*w<=16
 |.step d a m=>(-16<=d/\d<=16)/\(-16<=a/\a<=16)/\1<=m/\m<=16
 |.cells ps=>1<=ps.length/\ps.length<=16/\ps.Nodup/\∀ p∈ps,(-16<=p.1/\p.1<=16)/\(-16<=p.2/\p.2<=16)
def SR (h w:Nat):jp (h+1) w=jp h w++(List.range w).map λ(q:Nat)=>((h:Int),(q:Int)):=by
 simp [jp,List.range_succ]
def DC (h w:Nat):(jp h w).length=h*w:=by
 induction h with
 |zero=>simp [jp]
 |succ h ih=>rw [SR,length_append,ih,length_map,length_range,Nat.succ_mul]
def qcX {w:Wk} (ok:w.Ok):1<=w.pc.length/\w.pc.length<=16:=by
 cases w with
 |line k m=>simp only [Wk.pc,jy,length_map,length_range];exact ok.2
 |block h v=>
  obtain ⟨h1,h2,h3,h4,h5⟩:=ok;simp only [Wk.pc,DC];exact ⟨Nat.mul_le_mul h1 h2,h5⟩
 |step d a m=>simp only [Wk.pc,jy,length_map,length_range];exact ok.2.2
 |cells ps=>exact ⟨ok.1,ok.2.1⟩
def U9:Sp3:=λts G q=>∃ a n,ts=[.ref a]/\Lf G a n/\n<10000000/\∀ (m:Nat) G',1<=m->m<=16->Lf G' a (n+2)->Ext a G G'->q (.int m) G'
def NL:∀ ts G q,U9 ts G q->ts.length=1/\UD qF (RO q) (qm ["_law_left_here"] ts) G:=by
 rintro ts G q ⟨a,n,rfl,hL,hn,h⟩;refine ⟨rfl,?_⟩;simp only [UD,qD,o3,c3,cb3,qb,v3,qm,map_cons,List.map_nil,length_cons,length_nil,Nat.zero_add,Nat.sub_self,List.replicate_zero,List.append_nil,Nat.lt_add_one,getElem?_pos,getElem_cons_zero,zM,qh,Nat.reduceAdd,sizeLine_eq,Nat.reduceLeDiff,q0,ne_eq,true_and];intro p hp;have np:=hL.ne hp;refine qS (hL.new np) (by omega) (by omega) (by omega) λd G1 d0 d1 L1 E1=>?_;have g:=Y6 (E1 _ _ np qy);obtain ⟨z,hz,hm⟩:=qib (xs:=[T.int 5,.int 5,.int 5,.int 5,.int 5,.int 5,.int 8,.int 16]) d0 (by simpa using d1);simp only [L3.ixR,g,hz];have:∃ k:Int,z=.int k/\1<=k/\k<=16:=by
  simp only [mem_cons,not_mem_nil,or_false] at hm;rcases hm with rfl|rfl|rfl|rfl|rfl|rfl|rfl|rfl<;>exact ⟨_,rfl,by omega,by omega⟩
 obtain ⟨k,rfl,k1,k2⟩:=this;refine qS L1 (by omega) (by omega) (by omega) λe G2 e0 e1 L2' E2=>?_;simp;obtain ⟨e',rfl⟩:=Int.eq_ofNat_of_zero_le e0;have:=h (e'+1) G2 (by omega) (by omega) (L2'.mono (by omega)) ((zJ hp).trans (E1.trans E2));rw [show (1:Int)+(e':Int)=((e'+1:Nat):Int) by omega];exact this
def pD (p:Int×Int):PyData:=.tuple [.int p.1,.int p.2]
def ql3 (G:Gp) (p:Int×Int):Dp G (pT p) (pD p):=.tup (.cons (.int _) (.cons (.int _) .nil))
def qf5 (G:Gp):∀ ps:List (Int×Int),Dps G (ps.map pT) (ps.map pD)
 |[]=>.nil
 |p::ps=>.cons (ql3 G p) (qf5 G ps)
def qpz (p r:Int×Int):JC (pD p) (pD r)=some (decide (p=r)):=by
 obtain ⟨a,b⟩:=p;obtain ⟨c,d⟩:=r;simp only [pD,JC,U0];by_cases h:a=c<;>by_cases h':b=d<;>simp [h,h']
def pIn (r:Int×Int):∀ ps:List (Int×Int),qaQ (pD r) (ps.map pD)=some (decide (r∈ps))
 |[]=>by simp [qaQ]
 |p::ps=>by
  simp only [map_cons,qaQ,qpz,pIn r ps];by_cases h:p=r
  ·subst h;simp
  ·have h':¬ r=p:=λz=>h z.symm;simp [h,h']
def qlQ (p:Int×Int):dpt (pD p)<=40:=by simp [pD,dpt,qdF]
def Y7:Sp3:=λts G q=>∃ a n,ts=[.ref a]/\Lf G a n/\n<1000000/\∀ (w:Wk) G',w.Ok->Lf G' a (n+60)->Ext a G G'->q w.t G'
def NK:∀ ts G q,Y7 ts G q->ts.length=1/\UO qF U9 (RO q) (qm ["_law_left_here","_law_way","_law_lying","_law_high","_law_wide","_law_down","_law_along","_law_pairs","_law_far","_law_turn","_law_pair"] ts) G:=by
 rintro ts G q ⟨a,n,rfl,hL,hn,h⟩;refine ⟨rfl,?_⟩;unfold UO;refine jb λnx1 q1=>?_;simp only [qG,cb3,qb,v3,qm,map_cons,List.map_nil,length_cons,length_nil,Nat.zero_add,Nat.reduceAdd,Nat.add_one_sub_one,List.reduceReplicate,cons_append,List.nil_append,Nat.zero_lt_succ,getElem?_pos,getElem_cons_zero,c3,qh,gn3,set_cons_succ,set_cons_zero];refine qS hL (by omega) (by omega) (by omega) λway G1 w0 w1 L1 E1=>?_
 try simp
 rw [q1];clear q1;refine jb λnx2 q2=>?_;by_cases lt:way<4
 ·simp only [za,tb3,o3,v3,length_cons,length_nil,Nat.zero_add,Nat.reduceAdd,Nat.reduceLT,getElem?_pos,getElem_cons_succ,getElem_cons_zero,c3,iB,lt,decide_true,↓reduceIte,qD,qP,qb,zM,qh,sizeLine_eq,Nat.reduceLeDiff,cb3,Nat.zero_lt_succ,true_and,ixR];intro p hp;have np:=L1.ne hp;have L3':=L1.new np (ob:=.lst [.str "row",.str "column",.str "slant",.str "back"]);obtain ⟨k,rfl⟩:=Int.eq_ofNat_of_zero_le w0;have hk:k<4:=by omega
  have e1:L2.atI [T.str (Str.ofString "row"),.str (Str.ofString "column"),.str (Str.ofString "slant"),.str (Str.ofString "back")] (k:Int)=some (.str (JR k)):=by
   rcases k with _|_|_|_|k
   ·rfl
   ·rfl
   ·rfl
   ·rfl
   ·omega
  simp only [L3.ixR,Y6 qy,e1];refine ⟨a,_,rfl,L3',by omega,λm G2 m1 m2 L4 E4=>?_⟩;exact h (.line k m) _ ⟨hk,m1,m2⟩ (L4.mono (by omega)) (E1.trans ((zJ hp).trans E4))
 simp only [za,tb3,o3,v3,c3,iB,getElem?_cons_zero,getElem?_cons_succ,lt,decide_false,Bool.false_eq_true,if_false,qw];rw [q2];clear q2;refine jb λnx3 q3=>?_;by_cases lt6:way<6
 ·simp only [za,tb3,o3,v3,c3,iB,getElem?_cons_zero,getElem?_cons_succ,lt6,decide_true,if_true];refine jb λnx4 q4=>?_;simp only [jU,qb,cb3,v3,length_cons,length_nil,Nat.zero_add,Nat.reduceAdd,Nat.zero_lt_succ,getElem?_pos,getElem_cons_zero,c3,qh,o3,q0,ne_eq,sizeLine_eq,set_cons_succ,set_cons_zero];refine qS L1 (by omega) (by omega) (by omega) λly G2 y0 y1 L2' E2=>?_
  try simp
  refine qS L2' (by omega) (by omega) (by omega) λhi G3 h0 h1 L3' E3=>?_
  try simp
  rw [q4];clear q4;obtain ⟨hh,rfl⟩:=Int.eq_ofNat_of_zero_le h0;refine jb λnx5 q5=>?_;simp only [qG,o3,c3,cb3,qb,v3,length_cons,length_nil,Nat.zero_add,Nat.reduceAdd,Nat.zero_lt_succ,getElem?_pos,getElem_cons_zero,Nat.reduceLT,getElem_cons_succ,iC,qh,q0,ne_eq,sizeLine_eq,gn3,set_cons_succ,set_cons_zero];have dv:1<=(16:Int)/(1+(hh:Int))/\(16:Int)/(1+(hh:Int))<=16:=by
   have:hh=0\/hh=1\/hh=2\/hh=3:=by omega
   rcases this with rfl|rfl|rfl|rfl<;>decide
  refine ⟨⟨by omega,by omega⟩,qS L3' (by omega) (by omega) (by omega) λwi G4 u0 u1 L4 E4=>?_⟩
  try simp
  rw [q5];clear q5;obtain ⟨ww,rfl⟩:=Int.eq_ofNat_of_zero_le u0;have pr:(hh+1)*(ww+1)<=16:=by
   have:hh=0\/hh=1\/hh=2\/hh=3:=by omega
   rcases this with rfl|rfl|rfl|rfl<;>simp at u1<;>omega
  simp only [qD,o3,zM,qb,qP,c3,v3,length_cons,length_nil,Nat.zero_add,Nat.reduceAdd,Nat.reduceLT,getElem?_pos,getElem_cons_succ,getElem_cons_zero,qh,sizeLine_eq,Nat.reduceLeDiff,ixR,true_and];intro p hp;have np:=L4.ne hp;have X4:=E1.trans (E2.trans (E3.trans E4));have z1:(1:Int)+(hh:Int)=((hh+1:Nat):Int):=by omega
  have z2:(1:Int)+(ww:Int)=((ww+1:Nat):Int):=by omega
  rw [z1,z2];have hl:ly=0\/ly=1:=by omega
  rcases hl with rfl|rfl
  ·simp only [L3.ixR,Y6 qy,qbk];exact h (.block (hh+1) (ww+1)) _ ⟨by omega,by omega,by omega,by omega,pr⟩ ((L4.new np).mono (by omega)) (X4.trans (zJ hp))
  ·simp only [L3.ixR,Y6 qy,qc2];exact h (.block (ww+1) (hh+1)) _ ⟨by omega,by omega,by omega,by omega,by rw [Nat.mul_comm];exact pr⟩ ((L4.new np).mono (by omega)) (X4.trans (zJ hp))
 simp only [za,tb3,o3,v3,c3,iB,getElem?_cons_zero,getElem?_cons_succ,lt6,decide_false,Bool.false_eq_true,if_false,qw];rw [q3];clear q3;refine jb λnx4 q4=>?_;by_cases lt8:way<8
 ·simp only [za,tb3,o3,v3,c3,iB,getElem?_cons_zero,getElem?_cons_succ,lt8,decide_true,if_true];refine jb λnx5 q5=>?_;simp only [jU,qb,o3,cb3,v3,length_cons,length_nil,Nat.zero_add,Nat.reduceAdd,Nat.zero_lt_succ,getElem?_pos,getElem_cons_zero,c3,qh,iI,set_cons_succ,set_cons_zero];refine qS L1 (by omega) (by omega) (by omega) λd G2 d0 d1 L2' E2=>?_
  try simp
  refine qS L2' (by omega) (by omega) (by omega) λal G3 a0 a1 L3' E3=>?_
  try simp
  rw [q5];clear q5;obtain ⟨D,hD⟩:∃ D,D=d-3:=⟨_,rfl⟩
  obtain ⟨A,hA⟩:∃ A,A=al-4:=⟨_,rfl⟩
  rw [← hD,← hA];refine jb λnx6 q6=>?_;simp only [za,tb3,o3,cb3,qb,v3,length_cons,length_nil,Nat.zero_add,Nat.reduceAdd,Nat.zero_lt_succ,getElem?_pos,getElem_cons_zero,c3,qh,zh,qZ,Bool.false_eq_true,↓reduceIte,qD,qP,Nat.reduceLT,getElem_cons_succ,iC,zk,decide_eq_true_eq,ZW,q0,ne_eq,sizeLine_eq,Nat.reduceLeDiff,true_and,Int.add_zero,qw,exists_and_left,Bool.exists_bool];refine qS L3' (by omega) (by omega) (by omega) λsix G4 s0 s1 L4 E4=>?_;have X4:=E1.trans (E2.trans (E3.trans E4));by_cases k0:six=0
  ·subst k0;simp only [decide_true,↓reduceIte];refine ⟨cm (by omega) (by omega),cm (by omega) (by omega),?_⟩;have fin:∀ e:Int,0<=e->e<=1->qF [.ref a,.int 4] G4 λx G'=>(match T.int 1,x with|.int i,.int j=>q (.tup [.str (Str.ofString "step"),.int (5*D),.int (3*A+e),.int (i+j)]) G'|_,_=>False):=by
    intro e e0 e1;refine qS L4 (by omega) (by omega) (by omega) λm G5 m0 m1 L5 E5=>?_;obtain ⟨m',rfl⟩:=Int.eq_ofNat_of_zero_le m0;have:=h (.step (5*D) (3*A+e) (m'+1)) G5 ⟨⟨by omega,by omega⟩,⟨by omega,by omega⟩,by omega,by omega⟩ (L5.mono (by omega)) (X4.trans E5);simp only [Wk.t] at this;rw [show ((m'+1:Nat):Int)=1+(m':Int) by omega] at this;exact this
   by_cases hD0:D=0
   ·by_cases hA0:A=0
    ·have:=fin 1 (by omega) (by omega);simp only [hD0,Int.mul_zero,hA0,Int.zero_add,↓reduceIte] at this ⊢;exact this
    ·have:=fin 0 (by omega) (by omega);simp only [hD0,Int.mul_zero,Int.add_zero,↓reduceIte,hA0] at this ⊢;exact this
   ·have:=fin 0 (by omega) (by omega);simp only [Int.add_zero,hD0,↓reduceIte] at this ⊢;exact this
  ·simp [k0];rw [q6];clear q6;have fin:∀ e:Int,0<=e->e<=1->U9 [.ref a] G4 λx G'=>q (.tup [.str (Str.ofString "step"),.int D,.int (A+e),x]) G':=by
    intro e e0 e1;refine ⟨a,_,rfl,L4,by omega,λm G5 m0 m1 L5 E5=>?_⟩;exact h (.step D (A+e) m) G5 ⟨⟨by omega,by omega⟩,⟨by omega,by omega⟩,by omega,by omega⟩ (L5.mono (by omega)) (X4.trans E5)
   by_cases hD0:D=0
   ·by_cases hA0:A=0
    ·have:=fin 1 (by omega) (by omega);simp only [hD0,hA0,Int.zero_add,qD,qP,qb,c3,v3,length_cons,length_nil,Nat.zero_add,Nat.reduceAdd,Nat.reduceLT,getElem?_pos,getElem_cons_succ,getElem_cons_zero,o3,cb3,zk,zh,qZ,decide_true,Bool.false_eq_true,↓reduceIte,qh,ZW,q0,Nat.zero_lt_succ,sizeLine_eq,Nat.reduceLeDiff,true_and] at this ⊢;exact this
    ·have:=fin 0 (by omega) (by omega);simp only [hD0,Int.add_zero,qD,qP,qb,c3,v3,length_cons,length_nil,Nat.zero_add,Nat.reduceAdd,Nat.reduceLT,getElem?_pos,getElem_cons_succ,getElem_cons_zero,o3,cb3,zk,zh,qZ,decide_true,Bool.false_eq_true,↓reduceIte,hA0,decide_false,qh,ZW,q0,Nat.zero_lt_succ,sizeLine_eq,Nat.reduceLeDiff,true_and] at this ⊢;exact this
   ·have:=fin 0 (by omega) (by omega);simp only [Int.add_zero,qD,qP,qb,c3,v3,length_cons,length_nil,Nat.zero_add,Nat.reduceAdd,Nat.reduceLT,getElem?_pos,getElem_cons_succ,getElem_cons_zero,o3,cb3,zk,zh,qZ,hD0,decide_false,Bool.false_eq_true,↓reduceIte,qh,ZW,q0,Nat.zero_lt_succ,sizeLine_eq,Nat.reduceLeDiff,true_and] at this ⊢;exact this
 simp only [za,tb3,o3,v3,c3,iB,getElem?_cons_zero,getElem?_cons_succ,lt8,decide_false,Bool.false_eq_true,if_false,qw];rw [q4];clear q4;refine jb λnx5 q5=>?_;simp only [jU,qb,zM,qh,length_nil,sizeLine_eq,Nat.zero_le,o3,c3,cb3,v3,length_cons,Nat.zero_add,Nat.reduceAdd,Nat.zero_lt_succ,getElem?_pos,getElem_cons_zero,zh,qZ,ZW,iC,Bool.false_eq_true,↓reduceIte,q0,set_cons_succ,set_cons_zero,ne_eq,exists_and_left,Bool.exists_bool,Int.mul_zero,Int.add_zero,Int.mul_one,Int.reduceAdd,true_and];intro pp hpp;have npp:=L1.ne hpp;have Lp:=L1.new npp (ob:=.lst []);refine qS Lp (by omega) (by omega) (by omega) λfv G2 f0 f1 L2' E2=>?_;have gp2:=E2 _ _ npp qy;have X2:Ext a G G2:=E1.trans ((zJ hpp).trans E2);have hf:∃ far:Int,(far=1\/far=5)/\nx5=nx5:=⟨1,.inl rfl,rfl⟩
 clear hf;have fin:∀ far:Int,far=1\/far=5->nx5 [some (.ref a),some (.int way),none,none,none,none,none,some (.ref pp),some (.int far),none,none] G2:=by
  intro far hfar;rw [q5];clear q5;refine jb λnx6 q6=>?_;simp only [XY,zE,cb3,qb,qh,v3,getElem?_cons_zero,getElem?_cons_succ];refine ⟨a,_,rfl,L2',by omega,λm G3 m1 m2 L3' E3=>?_⟩;have gp3:=E3 _ _ npp gp2;refine ⟨⟨by omega,by omega⟩,?_⟩;rw [Int.toNat_natCast];refine VW _ (λi τ G'=>∃ ps:List (Int×Int),G' pp=some (.lst (ps.map pT))/\(1<=i->1<=ps.length)/\ps.length<=i/\ps.Nodup/\(∀ p∈ps,(-16<=p.1/\p.1<=16)/\(-16<=p.2/\p.2<=16))/\Lf G' a (n+5+2*i)/\Ext a G G'/\∃ x9 x10,τ=[some (.ref a),some (.int way),none,none,none,none,none,some (.ref pp),some (.int far),x9,x10])
   ⟨[],gp3,by omega,by simp,by simp,(by intro p hp;cases hp),by simpa using L3'.mono (by omega),X2.trans E3,none,none,rfl⟩ (λ_ _ _ _ _=>True.intro) ?_ ?_
  ·rintro i z τ G' nx hz ⟨ps,gp,i1,pl,nd,bd,L,E,x9,x10,rfl⟩ hnx;obtain ⟨hi,rfl⟩:=KW hz;simp only [gn3,set_cons_succ,set_cons_zero];refine jb λnx7 q7=>?_;simp only [qG,qP,qb,o3,v3,Int.zero_add,length_cons,length_nil,Nat.zero_add,Nat.reduceAdd,Nat.reduceLT,getElem?_pos,getElem_cons_succ,getElem_cons_zero,cb3,Nat.zero_lt_succ,c3,qh,iI,iC,sizeLine_eq,Nat.reduceLeDiff,gn3,set_cons_succ,set_cons_zero,true_and];refine qS L (by omega) (by omega) (by omega) λu G4 u0 u1 L4 E4=>?_
   try simp
   refine ⟨cm (by omega) (by omega),qS L4 (by omega) (by omega) (by omega) λv G5 v0 v1 L5 E5=>?_⟩
   try simp
   refine ⟨cm (by omega) (by omega),?_⟩;rw [q7];clear q7;have gp5:=E5 _ _ npp (E4 _ _ npp gp);have X5:=E.trans (E4.trans E5);have pe:T.tup [.int (far*(u-2)),.int (far*(v-2))]=pT (far*(u-2),far*(v-2)):=rfl;rw [pe];have pb:(-16<=far*(u-2)/\far*(u-2)<=16)/\(-16<=far*(v-2)/\far*(v-2)<=16):=by rcases hfar with rfl|rfl<;>omega
   generalize hP:(far*(u-2),far*(v-2))=P at *;have pb':(-16<=P.1/\P.1<=16)/\(-16<=P.2/\P.2<=16):=by rw [← hP];exact pb
   simp only [za,tb3,o3,v3,getElem?_cons_zero,getElem?_cons_succ];refine ⟨_,_,_,_,Y6 gp5,ql3 _ _,qf5 _ _,pIn _ _,λd hd=>?_,?_⟩
   ·obtain ⟨p,_,rfl⟩:=mem_map.mp hd;exact qlQ p
   ·by_cases hm:P∈ps
    ·simp only [↓reduceIte,hm,decide_true,Bool.not_true,Bool.false_eq_true,qw];exact hnx _ _ ⟨ps,gp5,λ_=>List.length_pos_of_mem hm,by omega,nd,bd,L5.mono (by omega),X5,_,_,rfl⟩
    ·simp only [↓reduceIte,hm,decide_false,Bool.not_false,zw,bm3,v3,length_cons,length_nil,Nat.zero_add,Nat.reduceAdd,Nat.reduceLT,getElem?_pos,getElem_cons_succ,getElem_cons_zero,qb,Nat.lt_add_one,qh,JG,gp5,length_map,sizeLine_eq];refine ⟨by rw [Y6 gp5];rfl,by omega,?_⟩;refine hnx _ _ ⟨ps++[P],by rw [qy];simp,λ_=>by simp,by simp;omega,?_,λp hp=>?_,L5.new npp |>.mono (by omega),λb o hb eb=>?_,_,_,rfl⟩
     ·rw [List.nodup_append];exact ⟨nd,by simp,λx hx y hy=>by simp at hy;subst hy;rintro rfl;exact hm hx⟩
     ·rcases List.mem_append.mp hp with hp|hp
      ·exact bd p hp
      ·simp at hp;subst hp;exact pb'
     ·have:b≠pp:=by
       rintro rfl;have:=E1 _ _ hb eb;rw [hpp] at this;cases this
      rw [jL this];exact X5 _ _ hb eb
  ·rintro τ G' ⟨ps,gp,i1,pl,nd,bd,L,E,x9,x10,rfl⟩;rw [ZC] at i1 pl L;show nx6 _ _;rw [q6];simp only [qD,qP,qb,c3,cb3,v3,length_cons,length_nil,Nat.zero_add,Nat.reduceAdd,Nat.reduceLT,getElem?_pos,getElem_cons_succ,getElem_cons_zero,qh,qI,Y6 gp,sizeLine_eq,Nat.reduceLeDiff,true_and];exact h (.cells ps) G' ⟨i1 m1,by omega,nd,bd⟩ (L.mono (by omega)) E
 by_cases k0:fv=0
 ·have:=fin 5 (.inr rfl);simp only [k0,decide_true,↓reduceIte,Int.mul_one,Int.reduceAdd];exact ⟨cm (by omega) (by omega),this⟩
 ·have:=fin 1 (.inl rfl);simp only [k0,decide_false,Bool.false_eq_true,↓reduceIte,Int.mul_zero,Int.add_zero];exact ⟨cm (by omega) (by omega),this⟩
def Un2 (ns:List Int) (i:Nat):Prop:=∀ a b,a<i->a<b->b<ns.length->ns[a]?≠ns[b]?
structure Fst (ns:List Int) (i j:Nat):Prop where
 ij:i<j
 jl:j<ns.length
 un:Un2 ns i
 nb:∀ b,i<b->b<j->ns[i]?≠ns[b]?
 eq:ns[i]?=ns[j]?
def Fst.uniq {ns:List Int} {i j i' j':Nat} (F:Fst ns i j) (F':Fst ns i' j'):i=i'/\j=j':=by
 have e:i=i':=by
  rcases Nat.lt_trichotomy i i' with z|z|z
  ·exact absurd F.eq (F'.un i j z F.ij F.jl)
  ·exact z
  ·exact absurd F'.eq (F.un i' j' z F'.ij F'.jl)
 subst e;refine ⟨rfl,?_⟩;rcases Nat.lt_trichotomy j j' with z|z|z
 ·exact absurd F.eq (F'.nb j F.ij z)
 ·exact z
 ·exact absurd F'.eq (F.nb j' F'.ij z)
open Classical in
def faO (ns:List Int):Option (Nat×Nat):=if h:∃ ij:Nat×Nat,Fst ns ij.1 ij.2 then some h.choose else none
def j8 {ns:List Int} {i j:Nat} (F:Fst ns i j):faO ns=some (i,j):=by
 have h:∃ ij:Nat×Nat,Fst ns ij.1 ij.2:=⟨(i,j),F⟩
 unfold faO;rw [dif_pos h];have:=h.choose_spec;obtain ⟨e1,e2⟩:=this.uniq F;exact congrArg some (Prod.ext e1 e2)
def QA {ns:List Int} (h:Un2 ns ns.length):faO ns=none:=by
 unfold faO;rw [dif_neg];rintro ⟨ij,F⟩;exact h ij.1 ij.2 (Nat.lt_trans F.ij F.jl) F.ij F.jl F.eq
def U1 {ns:List Int} (h:¬ Un2 ns ns.length):∃ i j,Fst ns i j:=by
 have key:∀ k,k<=ns.length->Un2 ns k\/∃ i j,Fst ns i j:=by
  intro k;induction k with
  |zero=>exact λ_=>.inl λa b ha=>by omega
  |succ k ih=>
   intro hk;rcases ih (by omega) with hu|he
   ·have inner:∀ n,(∀ b,k<b->b<k+1+n->b<ns.length->ns[k]?≠ns[b]?)\/∃ j,Fst ns k j:=by
     intro n;induction n with
     |zero=>exact .inl λb h1 h2=>by omega
     |succ n ihn=>
      rcases ihn with hn|he
      ·by_cases hb:k+1+n<ns.length/\ns[k]?=ns[k+1+n]?
       ·exact .inr ⟨k+1+n,by omega,hb.1,hu,λb h1 h2=>hn b h1 h2 (by omega),hb.2⟩
       ·refine .inl λb h1 h2 h3=>?_;by_cases e:b=k+1+n
        ·subst e;exact λz=>hb ⟨h3,z⟩
        ·exact hn b h1 (by omega) h3
      ·exact .inr he
    rcases inner ns.length with hn|⟨j,F⟩
    ·refine .inl λa b ha hab hb=>?_;by_cases e:a=k
     ·subst e;exact hn b hab (by omega) hb
     ·exact hu a b (by omega) hab hb
    ·exact .inr ⟨k,j,F⟩
   ·exact .inr he
 rcases key ns.length (Nat.le_refl _) with hu|he
 ·exact absurd hu h
 ·exact he
end Bk
namespace Pu
open PySem L2 L3
def cif {α:Type} (P:Prop) (a b:α):α:=@ite α P (Classical.propDecidable P) a b
def jt {α:Type} {P:Prop} {a b:α} (h:P):cif P a b=a:=@if_pos P (Classical.propDecidable P) h α a b
def NO {α:Type} {P:Prop} {a b:α} (h:¬ P):cif P a b=b:=@if_neg P (Classical.propDecidable P) h α a b
structure Tru (b:Bool):Prop where
 h:b=true
mutual
inductive Dq (G:Gp):T->PyData->Prop
 |non:Dq G .non .none
 |bl (b:Bool):Dq G (.bl b) (.bool b)
 |int (i:Int):Dq G (.int i) (.int i)
 |str (x:Str):Dq G (.str x) (.str x)
 |tup {xs:List T} {ds:List PyData}:Dqs G xs ds->Dq G (.tup xs) (.tuple ds)
 |lst {p:Addr} {xs:List T} {ds:List PyData}:G p=some (.lst xs)->Dqs G xs ds->Dq G (.ref p) (.list ds)
inductive Dqs (G:Gp):List T->List PyData->Prop
 |nil:Dqs G [] []
 |cons {x:T} {d:PyData} {xs:List T} {ds:List PyData}:Dq G x d->Dqs G xs ds->Dqs G (x::xs) (d::ds)
end
mutual
def Dq.up {G G':Gp} (e:Ex G G'):∀ {x:T} {d:PyData},Dq G x d->Dq G' x d
 |_,_,.non=>.non
 |_,_,.bl b=>.bl b
 |_,_,.int i=>.int i
 |_,_,.str x=>.str x
 |_,_,.tup h=>.tup (Dqs.up e h)
 |_,_,.lst h1 h2=>.lst (e _ _ h1) (Dqs.up e h2)
def Dqs.up {G G':Gp} (e:Ex G G'):∀ {x:List T} {d:List PyData},Dqs G x d->Dqs G' x d
 |_,_,.nil=>.nil
 |_,_,.cons a b=>.cons (Dq.up e a) (Dqs.up e b)
end
def j0 {G:Gp} {p:Addr} {xs:List T} (h:G p=some (.lst xs)):zo G p=some xs:=by unfold zo;rw [h]
mutual
def Dq.dp {G:Gp}:∀ {x:T} {d:PyData},Dq G x d->Dp G x d
 |_,_,.non=>.non
 |_,_,.bl b=>.bl b
 |_,_,.int i=>.int i
 |_,_,.str x=>.str x
 |_,_,.tup h=>.tup (Dqs.dp h)
 |_,_,.lst h1 h2=>.lst (j0 h1) (Dqs.dp h2)
def Dqs.dp {G:Gp}:∀ {x:List T} {d:List PyData},Dqs G x d->Dps G x d
 |_,_,.nil=>.nil
 |_,_,.cons a b=>.cons (Dq.dp a) (Dqs.dp b)
end
def Dqs.length {G:Gp}:∀ {xs:List T} {ds:List PyData},Dqs G xs ds->xs.length=ds.length
 |_,_,.nil=>rfl
 |_,_,.cons _ b=>by simp [Dqs.length b]
def Dqs.get {G:Gp}:∀ {xs:List T} {ds:List PyData} {i:Nat} {d:PyData},Dqs G xs ds->ds[i]?=some d->∃ x,xs[i]?=some x/\Dq G x d
 |_,_,_,_,.nil,e=>by simp at e
 |_,_,0,_,.cons r _,e=>by simp at e;subst e;exact ⟨_,rfl,r⟩
 |_,_,i+1,d,.cons _ t,e=>by
  obtain ⟨u,h1,h2⟩:=Dqs.get (i:=i) (d:=d) t (by simpa using e);exact ⟨u,by simpa using h1,h2⟩
def Dqs.append {G:Gp}:∀ {xs:List T} {ds:List PyData} {ys:List T} {es:List PyData},Dqs G xs ds->Dqs G ys es->Dqs G (xs++ys) (ds++es)
 |_,_,_,_,.nil,h=>h
 |_,_,_,_,.cons a b,h=>.cons a (Dqs.append b h)
def Dqs.drop {G:Gp}:∀ {xs:List T} {ds:List PyData} (n:Nat),Dqs G xs ds->Dqs G (xs.drop n) (ds.drop n)
 |_,_,0,h=>h
 |_,_,_+1,.nil=>.nil
 |_,_,n+1,.cons _ b=>Dqs.drop n b
def Dqs.take {G:Gp}:∀ {xs:List T} {ds:List PyData} (n:Nat),Dqs G xs ds->Dqs G (xs.take n) (ds.take n)
 |_,_,0,h=>by simp;exact .nil
 |_,_,_+1,.nil=>.nil
 |_,_,n+1,.cons a b=>.cons a (Dqs.take n b)
def Dqs.ints {G:Gp}:∀ {ns:List Int} {xs:List T},Dqs G xs (ns.map PyData.int)->xs=ns.map T.int
 |[],_,.nil=>rfl
 |n::ns,_,.cons a b=>by cases a;rw [Dqs.ints b];rfl
def Dqs.ofInts {G:Gp}:∀ (ns:List Int),Dqs G (ns.map T.int) (ns.map PyData.int)
 |[]=>.nil
 |n::r=>.cons (.int n) (Dqs.ofInts r)
def rs (D:Addr->Prop) (G:Gp):Gp:=λb=>cif (D b) none (G b)
def zc {D:Addr->Prop} {G:Gp} {b:Addr} {o:O} (h:rs D G b=some o):¬ D b/\G b=some o:=by
 unfold rs cif at h;split at h
 ·cases h
 ·rename_i n;exact ⟨n,h⟩
def QZ {D:Addr->Prop} {G:Gp} {b:Addr} (n:¬ D b):rs D G b=G b:=by unfold rs;exact NO n
def UW {D:Addr->Prop} {G:Gp}:Ex (rs D G) G:=λb o h=>(zc h).2
def Q6 {D:Addr->Prop} {G G':Gp} (e:Ex G G'):Ex (rs D G) (rs D G'):=λb o h=>by
 obtain ⟨n,h⟩:=zc h;rw [QZ n];exact e _ _ h
def jQ {D D':Addr->Prop} {G:Gp} (h:∀ b,D' b->D b):Ex (rs D G) (rs D' G):=λb o e=>by
 obtain ⟨n,e⟩:=zc e;rw [QZ λz=>n (h b z)];exact e
def Dom (D:Addr->Prop) (G:Gp):Prop:=∀ b,D b->G b≠none
def Dom.up {D:Addr->Prop} {G G':Gp} (h:Dom D G) (e:Ex G G'):Dom D G':=λb d z=>by
 cases g:G b with
 |none=>exact h b d g
 |some o=>rw [e _ _ g] at z;cases z
def qkr {D:Addr->Prop} {G:Gp} {p:Addr} {o:O} (hd:Dom D G) (hp:G p=none):rs D (gu G p o) p=some o:=by
 rw [QZ λz=>hd p z hp,qy]
inductive Sl where
 |un|sh (d:PyData)|ow (ds:List PyData)
abbrev Rho:=List Sl
def Sl.d:Sl->Option PyData
 |.un=>none|.sh d=>some d|.ow ds=>some (.list ds)
def vw (ρ:Rho) (i:Nat):Option PyData:=(ρ[i]?).bind Sl.d
def SO (fv:List Nat) (D:Addr->Prop) (G:Gp) (τ:St3) (ρ:Rho):Prop:=∀ i∈fv,∀ d,vw ρ i=some d->∃ t,τ[i]?=some (some t)/\Dq (rs D G) t d
def SO.up {fv:List Nat} {D:Addr->Prop} {G G':Gp} {τ:St3} {ρ:Rho} (h:SO fv D G τ ρ) (e:Ex G G'):SO fv D G' τ ρ:=λi hi d hd=>
 let ⟨t,a,b⟩:=h i hi d hd;⟨t,a,b.up (Q6 e)⟩
def SO.l {fv gv:List Nat} {D:Addr->Prop} {G:Gp} {τ:St3} {ρ:Rho} (h:SO (fv++gv) D G τ ρ):SO fv D G τ ρ:=λi hi=>h i (by simp [hi])
def SO.r {fv gv:List Nat} {D:Addr->Prop} {G:Gp} {τ:St3} {ρ:Rho} (h:SO (fv++gv) D G τ ρ):SO gv D G τ ρ:=λi hi=>h i (by simp [hi])
def Nw (D:Addr->Prop) (G G':Gp) (x:T) (d:PyData):Prop:=d=.none\/∃ p xs ds,x=.ref p/\d=.list ds/\G p=none/\G' p=some (.lst xs)/\Dqs (rs (λb=>D b\/b=p) G') xs ds
def Nw.back {D:Addr->Prop} {G0 G G':Gp} {x:T} {d:PyData} (h:Nw D G G' x d) (e:Ex G0 G):Nw D G0 G' x d:=by
 rcases h with h|⟨p,xs,ds,a,b,c,r⟩
 ·exact .inl h
 refine .inr ⟨p,xs,ds,a,b,?_,r⟩;cases z:G0 p with
 |none=>rfl
 |some o=>rw [e _ _ z] at c;cases c
structure PuE (t:TE3) where
 f:Rho->Option PyData
 fv:List Nat
 nw:Bool
 ok:∀ {D τ ρ G} {q:Q3} {d},SO fv D G τ ρ->Dom D G->f ρ=some d->(∀ x G',Ex G G'->Dq (rs D G') x d->(nw=true->Nw D G G' x d)->q x G')->t τ G q
structure PuC (t:TT3) where
 f:Rho->Option Bool
 fv:List Nat
 ok:∀ {D τ ρ G} {q:Bool->Gp->Prop} {k},SO fv D G τ ρ->Dom D G->f ρ=some k->(∀ G',Ex G G'->q k G')->t τ G q
structure PuA (t:TA3) where
 f:Rho->Option (List PyData)
 fv:List Nat
 n:Nat
 ln:∀ {ρ d},f ρ=some d->d.length=n
 ok:∀ {D τ ρ G} {q:List T->Gp->Prop} {d},SO fv D G τ ρ->Dom D G->f ρ=some d->(∀ x G',Ex G G'->Dqs (rs D G') x d->q x G')->t τ G q
structure PuO (t:TO3) where
 f:Rho->Option (Option Int)
 fv:List Nat
 ok:∀ {D τ ρ G} {q:Option Int->Gp->Prop} {k},SO fv D G τ ρ->Dom D G->f ρ=some k->(∀ G',Ex G G'->q k G')->t τ G q
structure PuI (t:TI3) where
 f:Rho->Option (List PyData)
 fv:List Nat
 /-- numbers alone -/
 nm:Bool
 ok:∀ {D τ ρ G} {r:List T->(Gp->Prop)->Gp->Prop} {ds},SO fv D G τ ρ->Dom D G->f ρ=some ds ->
  (∀ items stay G',Ex G G'->Dqs (rs D G') items ds->(∀ G'',(nm=true\/Ex (rs D G') G'')->stay G'')->(nm=true->∃ ns:List Int,ds=ns.map PyData.int)->r items stay G')->t τ G r
structure OpD (r:R3) where
 f:PyData->PyData->Option PyData
 nw:Bool
 ok:∀ {D G x y d e v} {q:Q3},Dq (rs D G) x d->Dq (rs D G) y e->Dom D G->f d e=some v->(∀ z G',Ex G G'->Dq (rs D G') z v->(nw=true->Nw D G G' z v)->q z G')->r x y G q
structure FnD (r:List T->Gp->Q3->Prop) where
 f:List PyData->Option PyData
 nw:Bool
 ok:∀ {D G xs ds v} {q:Q3},Dqs (rs D G) xs ds->Dom D G->f ds=some v->(∀ z G',Ex G G'->Dq (rs D G') z v->(nw=true->Nw D G G' z v)->q z G')->r xs G q
def bV (i:Nat):PuE (v3 i):=⟨λρ=>vw ρ i,[i],false,λhv hd hf k=>by
 obtain ⟨t,e,h⟩:=hv i (by simp) _ hf;unfold v3;rw [e];exact k t _ Ex.refl h (λz=>by cases z)⟩
def j4 (i:Int):PuE (c3 (.int i)):=⟨λ_=>some (.int i),[],false,λhv hd hf k=>by cases hf;exact k _ _ Ex.refl (.int i) (λz=>by cases z)⟩
def bBl (i:Bool):PuE (c3 (.bl i)):=⟨λ_=>some (.bool i),[],false,λhv hd hf k=>by cases hf;exact k _ _ Ex.refl (.bl i) (λz=>by cases z)⟩
def qiX (i:Str):PuE (c3 (.str i)):=⟨λ_=>some (.str i),[],false,λhv hd hf k=>by cases hf;exact k _ _ Ex.refl (.str i) (λz=>by cases z)⟩
def qiw:PuE (c3 .non):=⟨λ_=>some .none,[],false,λhv hd hf k=>by cases hf;exact k _ _ Ex.refl .non (λz=>by cases z)⟩
def bO {r:R3} {ta tb:TE3} (R:OpD r) (a:PuE ta) (b:PuE tb):PuE (o3 r ta tb):=
 ⟨λρ=>(a.f ρ).bind λx=>(b.f ρ).bind λy=>R.f x y,a.fv++b.fv,R.nw,λhv hd hf k=>by
  obtain ⟨x,e1,hf⟩:=obb hf;obtain ⟨y,e2,hf⟩:=obb hf;exact a.ok hv.l hd e1 λx' G1 E1 D1 _=>b.ok (hv.r.up E1) (hd.up E1) e2 λy' G2 E2 D2 _=>R.ok (D1.up (Q6 E2)) D2 ((hd.up E1).up E2) hf λz G3 E3 D3 N3=>k z G3 ((E1.trans E2).trans E3) D3 λh=>(N3 h).back (E1.trans E2)⟩
def qW:PuA qh:=⟨λ_=>some [],[],0,(λh=>by cases h;rfl),λhv hd hf k=>by cases hf;exact k _ _ Ex.refl .nil⟩
def qi {ta:TE3} {tr:TA3} (a:PuE ta) (r:PuA tr):PuA (qb ta tr):=
 ⟨λρ=>(a.f ρ).bind λx=>(r.f ρ).bind λxs=>some (x::xs),a.fv++r.fv,r.n+1,(λhf=>by
  obtain ⟨x,e1,hf⟩:=obb hf;obtain ⟨xs,e2,hf⟩:=obb hf;cases hf;simp [r.ln e2]),λhv hd hf k=>by
  obtain ⟨x,e1,hf⟩:=obb hf;obtain ⟨xs,e2,hf⟩:=obb hf;cases hf;exact a.ok hv.l hd e1 λx' G1 E1 D1 _=>r.ok (hv.r.up E1) (hd.up E1) e2 λy' G2 E2 D2=>k _ G2 (E1.trans E2) (.cons (D1.up (Q6 E2)) D2)⟩
def few {n:Nat} (h:Tru (Nat.ble n 1000)):n<=sizeLine:=Nat.le_trans (Nat.le_of_ble_eq_true h.h) (by rw [sizeLine_eq];omega)
def UZ {t:TA3} (a:PuA t) (hn:Tru (Nat.ble a.n 1000)):PuE (qP t):=⟨λρ=>(a.f ρ).map .tuple,a.fv,false,λhv hd hf k=>by
 obtain ⟨xs,e1,rfl⟩:=Option.map_eq_some_iff.mp hf;exact a.ok hv hd e1 λx G1 E1 D1=>⟨by rw [D1.length,a.ln e1];exact few hn,k _ _ E1 (.tup D1) (λz=>by cases z)⟩⟩
def K8 {D:Addr->Prop} {G:Gp} {p:Addr} {xs:List T} {ds:List PyData} (hp:G p=none) (h:Dqs (rs D G) xs ds):Nw D G (gu G p (.lst xs)) (.ref p) (.list ds):=
 .inr ⟨p,xs,ds,rfl,rfl,hp,qy,h.up λb o e=>by
  obtain ⟨n,e⟩:=zc e;have:b≠p:=by rintro rfl;rw [hp] at e;cases e
  rw [QZ (by rintro (z|z);exact n z;exact this z),jL this];exact e⟩
def RJ {D:Addr->Prop} {G:Gp} {p:Addr} {xs:List T} {ds:List PyData} (hd:Dom D G) (hp:G p=none) (h:Dqs (rs D G) xs ds):Dq (rs D (gu G p (.lst xs))) (.ref p) (.list ds):=
 .lst (qkr hd hp) (h.up (Q6 (ZP hp)))
def qdB {t:TA3} (a:PuA t) (hn:Tru (Nat.ble a.n 1000)):PuE (zM t):=⟨λρ=>(a.f ρ).map .list,a.fv,true,λhv hd hf k=>by
 obtain ⟨xs,e1,rfl⟩:=Option.map_eq_some_iff.mp hf;exact a.ok hv hd e1 λx G1 E1 D1=>⟨by rw [D1.length,a.ln e1];exact few hn,λp hp=>k _ _ (E1.trans (ZP hp)) (RJ (hd.up E1) hp D1) λ_=>(K8 hp D1).back E1⟩⟩
def qV {r:List T->Gp->Q3->Prop} {t:TA3} (R:FnD r) (a:PuA t):PuE (cb3 r t):=
 ⟨λρ=>(a.f ρ).bind R.f,a.fv,R.nw,λhv hd hf k=>by
  obtain ⟨x,e1,hf⟩:=obb hf;exact a.ok hv hd e1 λx' G1 E1 D1=>R.ok D1 (hd.up E1) hf λz G3 E3 D3 N3=>k z G3 (E1.trans E3) D3 λh=>(N3 h).back E1⟩
def asB:PyData->Option Bool
 |.bool b=>some b
 |_=>none
def asI:PyData->Option Int
 |.int b=>some b
 |_=>none
def qaz {d:PyData} {b:Bool} (h:asB d=some b):d=.bool b:=by cases d<;>simp [asB] at h;subst h;rfl
def qfs {d:PyData} {b:Int} (h:asI d=some b):d=.int b:=by cases d<;>simp [asI] at h;subst h;rfl
def bTb {t:TE3} (a:PuE t):PuC (tb3 t):=⟨λρ=>(a.f ρ).bind asB,a.fv,λhv hd hf k=>by
 obtain ⟨x,e1,hf⟩:=obb hf;have:=qaz hf;subst this;exact a.ok hv hd e1 λx' G1 E1 D1 _=>by cases D1;exact k G1 E1⟩
def qqo {t u:TT3} (a:PuC t) (b:PuC u):PuC (VB t u):=⟨λρ=>(a.f ρ).bind λk=>if k then b.f ρ else some false,a.fv++b.fv,λhv hd hf k=>by
 obtain ⟨x,e1,hf⟩:=obb hf;refine a.ok hv.l hd e1 λG1 E1=>?_;cases x with
 |true=>exact b.ok (hv.r.up E1) (hd.up E1) hf λG2 E2=>k G2 (E1.trans E2)
 |false=>cases hf;exact k G1 E1⟩
def bOr {t u:TT3} (a:PuC t) (b:PuC u):PuC (or3 t u):=⟨λρ=>(a.f ρ).bind λk=>if k then some true else b.f ρ,a.fv++b.fv,λhv hd hf k=>by
 obtain ⟨x,e1,hf⟩:=obb hf;refine a.ok hv.l hd e1 λG1 E1=>?_;cases x with
 |false=>exact b.ok (hv.r.up E1) (hd.up E1) hf λG2 E2=>k G2 (E1.trans E2)
 |true=>cases hf;exact k G1 E1⟩
def qiq {t:TT3} (a:PuC t):PuC (JB t):=⟨λρ=>(a.f ρ).map (! ·),a.fv,λhv hd hf k=>by
 obtain ⟨x,e1,hf⟩:=Option.map_eq_some_iff.mp hf;subst hf;exact a.ok hv hd e1 λG1 E1=>k G1 E1⟩
def bTt:PuC tt3:=⟨λ_=>some true,[],λhv hd hf k=>by cases hf;exact k _ Ex.refl⟩
def RH {ta tb:TE3} (a:PuE ta) (b:PuE tb):PuE (zk ta tb):=⟨λρ=>((a.f ρ).bind asB).bind λk=>if k then b.f ρ else some (.bool false),a.fv++b.fv,false,λhv hd hf k=>by
 obtain ⟨x,e1,hf⟩:=obb hf;obtain ⟨y,e1,e2⟩:=obb e1;have:=qaz e2;subst this;refine a.ok hv.l hd e1 λx' G1 E1 D1 _=>?_;cases D1;cases x with
 |true=>exact b.ok (hv.r.up E1) (hd.up E1) hf λz G2 E2 D2 _=>k z G2 (E1.trans E2) D2 (λz=>by cases z)
 |false=>cases hf;exact k _ G1 E1 (.bl false) (λz=>by cases z)⟩
def qmN {ta:TE3} (a:PuE ta):PuE (ja ta):=⟨λρ=>((a.f ρ).bind asB).map λk=>.bool (!k),a.fv,false,λhv hd hf k=>by
 obtain ⟨x,e1,hf⟩:=Option.map_eq_some_iff.mp hf;obtain ⟨y,e1,e2⟩:=obb e1;have:=qaz e2;subst this;subst hf;refine a.ok hv hd e1 λx' G1 E1 D1 _=>?_;cases D1;exact k _ G1 E1 (.bl _) (λz=>by cases z)⟩
def qdA {ta:TE3} (a:PuE ta):PuE (u3 QV ta):=⟨λρ=>((a.f ρ).bind asI).map λi=>.int (-i),a.fv,false,λhv hd hf k=>by
 obtain ⟨x,e1,hf⟩:=Option.map_eq_some_iff.mp hf;obtain ⟨y,e1,e2⟩:=obb e1;have:=qfs e2;subst this;subst hf;refine a.ok hv hd e1 λx' G1 E1 D1 _=>?_;cases D1;exact k _ G1 E1 (.int _) (λz=>by cases z)⟩
def bCh {r r':R3} {ta tb tc:TE3} (R:OpD r) (R':OpD r') (a:PuE ta) (b:PuE tb) (c:PuE tc):PuE (ch3 r r' ta tb tc):=
 ⟨λρ=>(a.f ρ).bind λx=>(b.f ρ).bind λy=>((R.f x y).bind asB).bind λk=>if k then (c.f ρ).bind λz=>R'.f y z else some (.bool false),a.fv++(b.fv++c.fv),false,λ{D τ ρ G q d} hv hd hf k=>by
  obtain ⟨x,e1,hf⟩:=obb hf;obtain ⟨y,e2,hf⟩:=obb hf;obtain ⟨j,e3,hf⟩:=obb hf;obtain ⟨v,e3,e4⟩:=obb e3;have:=qaz e4;subst this;refine a.ok hv.l hd e1 λx' G1 E1 D1 _=>b.ok (hv.r.l.up E1) (hd.up E1) e2 λy' G2 E2 D2 _=>R.ok (D1.up (Q6 E2)) D2 ((hd.up E1).up E2) e3 λz G3 E3 D3 _=>?_;cases D3;have E:=(E1.trans E2).trans E3;cases j with
  |true=>
   obtain ⟨w,e5,hf⟩:=obb hf;exact c.ok (hv.r.r.up E) (hd.up E) e5 λw' G4 E4 D4 _=>R'.ok ((D2.up (Q6 E3)).up (Q6 E4)) D4 ((hd.up E).up E4) hf λu G5 E5 D5 _=>k u G5 ((E.trans E4).trans E5) D5 (λz=>by cases z)
  |false=>cases hf;exact k _ G3 E (.bl false) (λz=>by cases z)⟩
def tyD:PyData->Option String
 |.none=>some "NoneType" |.bool _=>some "bool" |.int _=>some "int" |.str _=>some "str" |.tuple _=>some "tuple" |.list _=>some "list" |.dict _=>none
def qiW {ta:TE3} (g:String->Bool) (a:PuE ta):PuE (JH g ta):=⟨λρ=>(a.f ρ).bind λd=>(tyD d).map λt=>.bool (g t),a.fv,false,λhv hd hf k=>by
 obtain ⟨x,e1,hf⟩:=obb hf;obtain ⟨y,e2,hf⟩:=Option.map_eq_some_iff.mp hf;subst hf;refine a.ok hv hd e1 λx' G1 E1 D1 _=>?_;have:tyT G1 x'=some y:=by
  cases D1 with
  |lst h _=>have g:=j0 (zc h).2;simp [tyT,g];simpa [tyD] using e2
  |_=>simpa [tyT,tyD] using e2
 simp only [this];exact k _ G1 E1 (.bl _) (λz=>by cases z)⟩
def bSp {t:TE3} (a:PuE t):PuO (sp3 t):=⟨λρ=>((a.f ρ).bind asI).map some,a.fv,λhv hd hf k=>by
 obtain ⟨x,e1,hf⟩:=Option.map_eq_some_iff.mp hf;obtain ⟨y,e1,e2⟩:=obb e1;have:=qfs e2;subst this;subst hf;refine a.ok hv hd e1 λx' G1 E1 D1 _=>?_;cases D1;exact k G1 E1⟩
def Dqs.cut {G:Gp} {xs:List T} {ds:List PyData} (h:Dqs G xs ds) (lo hi:Option Int):Dqs G (Z4 xs lo hi) (Z4 ds lo hi):=by
 unfold Z4;rw [h.length];exact (h.drop _).take _
def slD (d:PyData) (lo hi:Option Int):Option PyData:=match d with
 |.tuple xs=>cif (HT.sIx xs.length 0 lo=0/\HT.sIx xs.length xs.length hi=xs.length) none (some (.tuple (Z4 xs lo hi)))
 |.list xs=>some (.list (Z4 xs lo hi))
 |_=>none
def bSl {te:TE3} {tl th:TO3} (a:PuE te) (l:PuO tl) (h:PuO th):PuE (JX te tl th):=⟨λρ=>(a.f ρ).bind λd=>(l.f ρ).bind λlo=>(h.f ρ).bind λhi=>slD d lo hi,a.fv++(l.fv++h.fv),false,λhv hd hf k=>by
 obtain ⟨d,e1,hf⟩:=obb hf;obtain ⟨lo,e2,hf⟩:=obb hf;obtain ⟨hi,e3,hf⟩:=obb hf;refine a.ok hv.l hd e1 λx' G1 E1 D1 _=>l.ok (hv.r.l.up E1) (hd.up E1) e2 λG2 E2=>h.ok (hv.r.r.up (E1.trans E2)) (hd.up (E1.trans E2)) e3 λG3 E3=>?_;have E:=(E1.trans E2).trans E3;have D3:=(D1.up (Q6 E2)).up (Q6 E3);unfold slD at hf;cases D3 with
 |tup hs=>
  simp only [cif] at hf;split at hf
  ·cases hf
  ·rename_i n;cases hf;exact ⟨by rw [hs.length];exact n,k _ _ E (.tup (hs.cut _ _)) (λz=>by cases z)⟩
 |lst g hs=>
  simp only at hf;cases hf;simp only [sl3,j0 (zc g).2];intro p hp;exact k _ _ (E.trans (ZP hp)) (RJ (hd.up E) hp (hs.cut _ _)) (λz=>by cases z)
 |_=>simp at hf⟩
def D7:List PyData->Option (List Int)
 |[]=>some []
 |.int i::r=>(D7 r).map (i::·)
 |_=>none
def L9 (ns:List Int):D7 (ns.map PyData.int)=some ns:=by
 induction ns with
 |nil=>rfl
 |cons n r ih=>simp [D7,ih]
def T7:∀ {xs:List PyData} {ns:List Int},D7 xs=some ns->xs=ns.map PyData.int
 |[],_,h=>by simp [D7] at h;subst h;rfl
 |.int i::r,ns,h=>by
  simp only [D7] at h;obtain ⟨ms,e,rfl⟩:=Option.map_eq_some_iff.mp h;rw [T7 e];rfl
 |.none::r,ns,h=>by simp [D7] at h
 |.bool _::r,ns,h=>by simp [D7] at h
 |.str _::r,ns,h=>by simp [D7] at h
 |.list _::r,ns,h=>by simp [D7] at h
 |.tuple _::r,ns,h=>by simp [D7] at h
 |.dict _::r,ns,h=>by simp [D7] at h
def opI (g:Int->Int->Int):OpD (iI g):=⟨λd e=>match d,e with|.int i,.int j=>some (.int (g i j))|_,_=>none,false,λ{D G x y d e v q} hx hy hd hf k=>by
 cases hx<;>try (simp at hf;done)
 cases hy<;>try (simp at hf;done)
 cases hf;exact k _ _ Ex.refl (.int _) (λz=>by cases z)⟩
def cI (C:Int->Int->Prop) (g:Int->Int->Int) (d e:PyData):Option PyData:=match d,e with|.int i,.int j=>cif (C i j) (some (.int (g i j))) none|_,_=>none
def opC (C:Int->Int->Prop) (g:Int->Int->Int):OpD (iC C g):=⟨cI C g,false,λ{D G x y d e v q} hx hy hd hf k=>by
 unfold cI at hf;cases hx<;>try (simp at hf;done)
 cases hy<;>try (simp at hf;done)
 simp only [cif] at hf;split at hf
 ·rename_i c;cases hf;exact ⟨c,k _ _ Ex.refl (.int _) (λz=>by cases z)⟩
 ·cases hf⟩
def opB (g:Int->Int->Bool):OpD (iB g):=⟨λd e=>match d,e with|.int i,.int j=>some (.bool (g i j))|_,_=>none,false,λ{D G x y d e v q} hx hy hd hf k=>by
 cases hx<;>try (simp at hf;done)
 cases hy<;>try (simp at hf;done)
 cases hf;exact k _ _ Ex.refl (.bl _) (λz=>by cases z)⟩
def qd4:PyData->PyData->Option Bool
 |.none,.none=>some true|.none,.int _=>some false|.int _,.none=>some false|.none,.bool _=>some false|.bool _,.none=>some false|.none,.str _=>some false|.str _,.none=>some false
 |.int i,.int j=>some (decide (i=j))|.bool i,.bool j=>some (decide (i=j))|.str i,.str j=>some (decide (i=j))
 |.int _,.str _=>some false|.str _,.int _=>some false|.bool _,.str _=>some false|.str _,.bool _=>some false
 |_,_=>none
def qdp {G:Gp} {x y:T} {d e:PyData} (hx:Dq G x d) (hy:Dq G y e):qZ x y=qd4 d e:=by
 cases hx<;>cases hy<;>rfl
def eqD (neg:Bool) (d e:PyData):Option PyData:=match qd4 d e with
 |some k=>some (.bool (if neg then !k else k))
 |none=>cif (dpt d<=40/\dpt d≠0) ((JC d e).map λb=>.bool (if neg then !b else b)) none
def qav (neg:Bool):OpD (zh neg):=⟨eqD neg,false,λ{D G x y d e v q} hx hy hd hf k=>by
 unfold zh;rw [qdp hx hy];unfold eqD at hf;cases h:qd4 d e with
 |some b=>rw [h] at hf;cases hf;exact k _ _ Ex.refl (.bl _) (λz=>by cases z)
 |none=>
  rw [h] at hf;simp only [cif] at hf ⊢;split at hf
  ·rename_i c;obtain ⟨b,e1,rfl⟩:=Option.map_eq_some_iff.mp hf;exact ⟨d,e,b,(hx.up UW).dp,(hy.up UW).dp,e1,c.1,c.2,k _ _ Ex.refl (.bl _) (λz=>by cases z)⟩
  ·cases hf⟩
def qnE (neg:Bool) (d e:PyData):Option PyData:=match e with|.none=>some (.bool (match d with|.none=>!neg|_=>neg))|_=>none
def qil (neg:Bool):OpD (YD neg):=⟨qnE neg,false,λ{D G x y d e v q} hx hy hd hf k=>by
 unfold qnE at hf;cases hy<;>try (simp at hf;done)
 cases hf;unfold YD;cases hx<;>exact k _ _ Ex.refl (.bl _) (λz=>by cases z)⟩
def qod (neg:Bool) (d e:PyData):Option PyData:=match d,e with|.bool i,.bool j=>some (.bool (if neg then i != j else i==j))|_,_=>none
def qiQ (neg:Bool):OpD (qi4 neg):=⟨qod neg,false,λ{D G x y d e v q} hx hy hd hf k=>by
 unfold qod at hf;cases hx<;>try (simp at hf;done)
 cases hy<;>try (simp at hf;done)
 cases hf;exact k _ _ Ex.refl (.bl _) (λz=>by cases z)⟩
def ixD (d e:PyData):Option PyData:=match d,e with
 |.tuple xs,.int i=>atI xs i
 |.list xs,.int i=>atI xs i
 |_,_=>none
def Dqs.atI {G:Gp} {xs:List T} {ds:List PyData} {i:Int} {d:PyData} (h:Dqs G xs ds) (e:L2.atI ds i=some d):∃ x,L2.atI xs i=some x/\Dq G x d:=by
 unfold L2.atI at e ⊢;rw [h.length];obtain ⟨j,e1,e2⟩:=obb e;obtain ⟨x,hx,r⟩:=h.get e2;exact ⟨x,by rw [e1];exact hx,r⟩
def VJ:OpD ix3:=⟨ixD,false,λ{D G x y d e v q} hx hy hd hf k=>by
 unfold ixD at hf;cases hx with
 |tup hs=>
  cases hy<;>try (simp at hf;done)
  obtain ⟨x,e1,r⟩:=hs.atI hf;simp only [ix3,e1];exact k _ _ Ex.refl r (λz=>by cases z)
 |lst g hs=>
  cases hy<;>try (simp at hf;done)
  obtain ⟨x,e1,r⟩:=hs.atI hf;simp only [ix3,j0 (zc g).2,e1];exact k _ _ Ex.refl r (λz=>by cases z)
 |_=>simp at hf⟩
def qiN (d e:PyData):Option PyData:=match d,e with
 |.tuple xs,.tuple ys=>cif (xs≠[]/\xs.length+ys.length<=sizeLine) (some (.tuple (xs++ys))) none
 |.list xs,.list ys=>cif (xs.length+ys.length<=sizeLine) (some (.list (xs++ys))) none
 |.int i,.int j=>some (.int (i+j))
 |_,_=>none
def KJ:OpD q0:=⟨qiN,false,λ{D G x y d e v q} hx hy hd hf k=>by
  unfold qiN at hf;cases hx with
  | int i => cases hy <;> try (simp at hf;done)
             cases hf;exact k _ _ Ex.refl (.int _) (λz=>by cases z)
  |tup hs=>
    cases hy<;>try (simp at hf;done)
    rename_i hs2;simp only [cif] at hf;split at hf
    · rename_i c;cases hf;refine ⟨?_,by rw [hs.length,hs2.length];exact c.2,k _ _ Ex.refl (.tup (hs.append hs2)) (λz=>by cases z)⟩;rintro rfl;cases hs;exact c.1 rfl
    · cases hf
  |lst g hs=>
    cases hy<;>try (simp at hf;done)
    rename_i g2 hs2;simp only [cif] at hf;split at hf
    · rename_i c;cases hf;simp only [q0,(zc g).2,(zc g2).2];exact ⟨by rw [hs.length,hs2.length];exact c,λp hp=>k _ _ (ZP hp) (RJ hd hp (hs.append hs2)) (λz=>by cases z)⟩
    · cases hf
  |_=>simp at hf⟩
def qnO (d e:PyData):Option PyData:=match d,e with
 |.list xs,.list ys=>cif (xs.length+ys.length<=sizeLine) (some (.list (xs++ys))) none
 |_,_=>none
def qck:OpD q0:=⟨qnO,true,λ{D G x y d e v q} hx hy hd hf k=>by
 unfold qnO at hf;cases hx with
 |lst g hs=>
  cases hy<;>try (simp at hf;done)
  rename_i g2 hs2;simp only [cif] at hf;split at hf
  ·rename_i c;cases hf;simp only [q0,(zc g).2,(zc g2).2];exact ⟨by rw [hs.length,hs2.length];exact c,λp hp=>k _ _ (ZP hp) (RJ hd hp (hs.append hs2)) λ_=>K8 hp (hs.append hs2)⟩
  ·cases hf
 |_=>simp at hf⟩
def qoc (neg:Bool) (d e:PyData):Option PyData:=match e with
 |.tuple ys=>cif (∀ y∈ys,dpt y<=40) ((qaQ d ys).map λb=>.bool (if neg then !b else b)) none
 |.list ys=>cif (∀ y∈ys,dpt y<=40) ((qaQ d ys).map λb=>.bool (if neg then !b else b)) none
 |_=>none
def qmu (neg:Bool):OpD (qoh neg):=⟨qoc neg,false,λ{D G x y d e v q} hx hy hd hf k=>by
 unfold qoc at hf;cases hy with
 |tup hs=>
  simp only [cif] at hf;split at hf
  ·rename_i c;obtain ⟨b,e1,rfl⟩:=Option.map_eq_some_iff.mp hf;exact ⟨_,d,_,b,rfl,(hx.up UW).dp,(hs.up UW).dp,e1,c,k _ _ Ex.refl (.bl _) (λz=>by cases z)⟩
  ·cases hf
 |lst g hs=>
  simp only [cif] at hf;split at hf
  ·rename_i c;obtain ⟨b,e1,rfl⟩:=Option.map_eq_some_iff.mp hf;exact ⟨_,d,_,b,j0 (zc g).2,(hx.up UW).dp,(hs.up UW).dp,e1,c,k _ _ Ex.refl (.bl _) (λz=>by cases z)⟩
  ·cases hf
 |_=>simp at hf⟩
def qic:List PyData->Option PyData
 |[.tuple xs]=>some (.int xs.length)
 |[.list xs]=>some (.int xs.length)
 |_=>none
def NP:FnD jE:=⟨qic,false,λ{D G xs ds v q} hx hd hf k=>by
 unfold qic at hf;split at hf
 ·cases hx with
  |cons a b=>cases b;cases a;rename_i hs;cases hf;simp only [jE];rw [hs.length];exact k _ _ Ex.refl (.int _) (λz=>by cases z)
 ·cases hx with
  |cons a b=>cases b;cases a;rename_i g hs;cases hf;simp only [jE,j0 (zc g).2];rw [hs.length];exact k _ _ Ex.refl (.int _) (λz=>by cases z)
 ·cases hf⟩
def qop:List PyData->Option PyData
 |[.int i]=>some (.int i)
 |[.bool k]=>some (.int (if k then 1 else 0))
 |_=>none
def qqs:FnD ZW:=⟨qop,false,λ{D G xs ds v q} hx hd hf k=>by
 unfold qop at hf;split at hf
 ·cases hx with
  |cons a b=>cases b;cases a;cases hf;exact k _ _ Ex.refl (.int _) (λz=>by cases z)
 ·cases hx with
  |cons a b=>cases b;cases a;cases hf;exact k _ _ Ex.refl (.int _) (λz=>by cases z)
 ·cases hf⟩
def qn8:List PyData->Option PyData
 |[.tuple xs]=>some (.list xs)
 |[.list xs]=>some (.list xs)
 |_=>none
def qon:FnD zT:=⟨qn8,true,λ{D G xs ds v q} hx hd hf k=>by
 unfold qn8 at hf;split at hf
 ·cases hx with
  |cons a b=>cases b;cases a;rename_i hs;cases hf;exact λp hp=>k _ _ (ZP hp) (RJ hd hp hs) λ_=>K8 hp hs
 ·cases hx with
  |cons a b=>cases b;cases a;rename_i g hs;cases hf;simp only [zT,j0 (zc g).2];exact λp hp=>k _ _ (ZP hp) (RJ hd hp hs) λ_=>K8 hp hs
 ·cases hf⟩
def qbe:List PyData->Option (List Bool)
 |[]=>some []
 |.bool i::r=>(qbe r).map (i::·)
 |_=>none
def qep (ns:List Bool):qbe (ns.map PyData.bool)=some ns:=by
 induction ns with
 |nil=>rfl
 |cons n r ih=>simp [qbe,ih]
def qdk {G:Gp}:∀ {xs:List T} {ds:List PyData} {ns:List Bool},Dqs G xs ds->qbe ds=some ns->qi5 xs=some (ns.all id)/\qoj xs=some (ns.any id)
 |_,_,_,.nil,h=>by simp [qbe] at h;subst h;exact ⟨rfl,rfl⟩
 |_,.bool i::r,ns,.cons a b,h=>by
  simp only [qbe] at h;obtain ⟨ms,e,rfl⟩:=Option.map_eq_some_iff.mp h;obtain ⟨h1,h2⟩:=qdk b e;cases a;simp [qi5,qoj,h1,h2]
 |_,.int _::r,ns,_,h=>by simp [qbe] at h
 |_,.none::r,ns,_,h=>by simp [qbe] at h
 |_,.str _::r,ns,_,h=>by simp [qbe] at h
 |_,.list _::r,ns,_,h=>by simp [qbe] at h
 |_,.tuple _::r,ns,_,h=>by simp [qbe] at h
 |_,.dict _::r,ns,_,h=>by simp [qbe] at h
def qkE:List PyData->Option PyData
 |[.list xs]=>(qbe xs).map λns=>.bool (ns.all id)
 |_=>none
def qqL:FnD Y8:=⟨qkE,false,λ{D G xs ds v q} hx hd hf k=>by
 unfold qkE at hf;split at hf
 ·obtain ⟨ns,e,rfl⟩:=Option.map_eq_some_iff.mp hf;cases hx with
  |cons a b=>cases b;cases a;rename_i g hs;simp only [Y8,j0 (zc g).2,(qdk hs e).1];exact k _ _ Ex.refl (.bl _) (λz=>by cases z)
 ·cases hf⟩
def mn:List Int->Int
 |[]=>0|[a]=>a|a::b::r=>min a (mn (b::r))
def mx:List Int->Int
 |[]=>0|[a]=>a|a::b::r=>max a (mx (b::r))
def qbr:∀ {ns:List Int} {m:Int},m∈ns->mn ns<=m
 |[a],m,h=>by simp at h;subst h;exact Int.le_refl _
 |a::b::r,m,h=>by
  unfold mn;rcases mem_cons.mp h with rfl|h
  ·omega
  ·have:=qbr h;omega
def qaM:∀ {ns:List Int},ns≠[]->mn ns∈ns
 |[a],_=>by simp [mn]
 |a::b::r,_=>by
  unfold mn;have:=qaM (ns:=b::r) (by simp);rcases Int.le_total a (mn (b::r)) with h|h
  ·rw [Int.min_eq_left h];simp
  ·rw [Int.min_eq_right h];exact List.mem_cons_of_mem _ this
def qeo:∀ {ns:List Int} {m:Int},m∈ns->m<=mx ns
 |[a],m,h=>by simp at h;subst h;exact Int.le_refl _
 |a::b::r,m,h=>by
  unfold mx;rcases mem_cons.mp h with rfl|h
  ·omega
  ·have:=qeo h;omega
def qaq:∀ {ns:List Int},ns≠[]->mx ns∈ns
 |[a],_=>by simp [mx]
 |a::b::r,_=>by
  unfold mx;have:=qaq (ns:=b::r) (by simp);rcases Int.le_total a (mx (b::r)) with h|h
  ·rw [Int.max_eq_right h];exact List.mem_cons_of_mem _ this
  ·rw [Int.max_eq_left h];simp
def mnD:List PyData->Option PyData
 |[.list xs]=>(D7 xs).bind λns=>cif (ns≠[]) (some (.int (mn ns))) none
 |_=>none
def qbX:FnD LH:=⟨mnD,false,λ{D G xs ds v q} hx hd hf k=>by
 unfold mnD at hf;split at hf
 ·obtain ⟨ns,e,hf⟩:=obb hf;unfold cif at hf;split at hf
  ·rename_i c;cases hf;cases hx with
   |cons a b=>
    cases b;cases a;rename_i g hs;have:=T7 e;subst this;have:=hs.ints;subst this;simp only [LH,j0 (zc g).2,DJ];refine ⟨c,λm hm hl=>?_⟩;have:m=mn ns:=Int.le_antisymm (hl _ (qaM c)) (qbr hm);subst this;exact k _ _ Ex.refl (.int _) (λz=>by cases z)
  ·cases hf
 ·cases hf⟩
def mxD:List PyData->Option PyData
 |[.list xs]=>(D7 xs).bind λns=>cif (ns≠[]) (some (.int (mx ns))) none
 |_=>none
def qcM:FnD MT:=⟨mxD,false,λ{D G xs ds v q} hx hd hf k=>by
 unfold mxD at hf;split at hf
 ·obtain ⟨ns,e,hf⟩:=obb hf;unfold cif at hf;split at hf
  ·rename_i c;cases hf;cases hx with
   |cons a b=>
    cases b;cases a;rename_i g hs;have:=T7 e;subst this;have:=hs.ints;subst this;simp only [MT,j0 (zc g).2,DJ];refine ⟨c,λm hm hl=>?_⟩;have:m=mx ns:=Int.le_antisymm (qeo hm) (hl _ (qaq c));subst this;exact k _ _ Ex.refl (.int _) (λz=>by cases z)
  ·cases hf
 ·cases hf⟩
def PSp (F:List PyData->Option PyData) (fr:Bool):Sp3:=λts G q=>∃ (D:Addr->Prop) (ds:List PyData) (d:PyData),Dqs (rs D G) ts ds/\Dom D G/\F ds=some d/\∀ x G',Ex G G'->Dq (rs D G') x d->(fr=true->Nw D G G' x d)->q x G'
def ju (F:List PyData->Option PyData) (fr:Bool):FnD (PSp F fr):=⟨F,fr,λ{D G xs ds v q} hx hd hf k=>⟨D,ds,v,hx,hd,hf,k⟩⟩
def qol:PyData->Option (List PyData)
 |.tuple xs=>some xs
 |.list xs=>some xs
 |_=>none
def qbd {t:TE3} (a:PuE t):PuI (YQ t):=⟨λρ=>(a.f ρ).bind qol,a.fv,false,λ{D τ ρ G r ds} hv hd hf k=>by
 obtain ⟨d,e1,hf⟩:=obb hf;refine a.ok hv hd e1 λx G1 E1 D1 _=>?_;unfold qol at hf;cases D1 with
 |tup hs=>cases hf;exact k _ _ _ E1 hs (λ_ _=>trivial) (λz=>by cases z)
 |lst g hs=>
  cases hf;simp only [j0 (zc g).2];refine k _ _ _ E1 hs (λG2 h=>?_) (λz=>by cases z);rcases h with h|h
  ·cases h
  ·exact j0 (h _ _ g)
 |_=>simp at hf⟩
def jY (lo:Int) (n:Nat):List Int:=(List.range n).map λ(i:Nat)=>lo+(i:Int)
def qf8 (lo:Int) (n:Nat):qaJ lo n=(jY lo n).map T.int:=by simp [qaJ,jY,map_map,Function.comp_def]
def qhl:List PyData->Option (List PyData)
 |[.int j]=>cif (-(2 ^ 62)<=j/\j<2 ^ 62) (some ((jY 0 j.toNat).map PyData.int)) none
 |[.int i,.int j]=>cif (-(2 ^ 62)<=i/\i<2 ^ 62/\-(2 ^ 62)<=j/\j<2 ^ 62) (some ((jY i (j-i).toNat).map PyData.int)) none
 |_=>none
def LN {t:TA3} (a:PuA t):PuI (zE t):=⟨λρ=>(a.f ρ).bind qhl,a.fv,true,λ{D τ ρ G r ds} hv hd hf k=>by
 obtain ⟨d,e1,hf⟩:=obb hf;refine a.ok hv hd e1 λx G1 E1 D1=>?_;unfold qhl at hf;split at hf
 ·unfold cif at hf;split at hf
  ·rename_i c;cases hf;cases D1 with
   |cons a b=>cases b;cases a;simp only;rw [qf8];exact ⟨c,k _ _ _ E1 (Dqs.ofInts _) (λ_ _=>trivial) λ_=>⟨_,rfl⟩⟩
  ·cases hf
 ·unfold cif at hf;split at hf
  ·rename_i c;cases hf;cases D1 with
   |cons a b=>cases b with
    |cons b c'=>cases c';cases a;cases b;simp only;rw [qf8];exact ⟨c,k _ _ _ E1 (Dqs.ofInts _) (λ_ _=>trivial) λ_=>⟨_,rfl⟩⟩
  ·cases hf
 ·cases hf⟩
def qpI (us vs:List PyData):List PyData:=(us.zip vs).map λp=>.tuple [p.1,p.2]
def Dqs.zip {G:Gp}:∀ {xs:List T} {ds:List PyData} {ys:List T} {es:List PyData},Dqs G xs ds->Dqs G ys es->Dqs G (qdG xs ys) (qpI ds es)
 |_,_,_,_,.nil,_=>by simp [qdG,qpI];exact .nil
 |_,_,_,_,.cons _ _,.nil=>by simp [qdG,qpI];exact .nil
 |_,_,_,_,.cons a b,.cons c d=>.cons (.tup (.cons a (.cons c .nil))) (Dqs.zip b d)
inductive Bd (H:Gp):List (Nat×T)->List (Nat×PyData)->Prop
 |nil:Bd H [] []
 |cons {i:Nat} {x:T} {d:PyData} {ts:List (Nat×T)} {bs:List (Nat×PyData)}:Dq H x d->Bd H ts bs->Bd H ((i,x)::ts) ((i,d)::bs)
def Bd.append {H:Gp}:∀ {ts:List (Nat×T)} {bs:List (Nat×PyData)} {us:List (Nat×T)} {cs:List (Nat×PyData)},Bd H ts bs->Bd H us cs->Bd H (ts++us) (bs++cs)
 |_,_,_,_,.nil,h=>h
 |_,_,_,_,.cons a b,h=>.cons a (Bd.append b h)
def Bd.up {H H':Gp} (e:Ex H H'):∀ {ts:List (Nat×T)} {bs:List (Nat×PyData)},Bd H ts bs->Bd H' ts bs
 |_,_,.nil=>.nil
 |_,_,.cons a b=>.cons (a.up e) (Bd.up e b)
def sets:St3->List (Nat×T)->St3
 |τ,[]=>τ
 |τ,p::r=>sets (τ.set p.1 (some p.2)) r
def ZG:Rho->List (Nat×PyData)->Rho
 |ρ,[]=>ρ
 |ρ,p::r=>ZG (ρ.set p.1 (.sh p.2)) r
def qax:∀ (τ:St3) (a b:List (Nat×T)),sets τ (a++b)=sets (sets τ a) b
 |τ,[],b=>rfl
 |τ,p::a,b=>by simp only [cons_append,sets];exact qax _ a b
structure PuG (g:TG3) where
 f:PyData->Option (List (Nat×PyData))
 tg:List Nat
 at':∀ {d bs},f d=some bs->∀ p∈bs,p.1∈tg
 ok:∀ {H x d bs},Dq H x d->f d=some bs->∃ ts,Bd H ts bs/\∀ τ G (q:St3->Gp->Prop),q (sets τ ts) G->g x τ G q
structure PuGs (g:M2) where
 f:List PyData->Option (List (Nat×PyData))
 tg:List Nat
 at':∀ {d bs},f d=some bs->∀ p∈bs,p.1∈tg
 ok:∀ {H x d bs},Dqs H x d->f d=some bs->∃ ts,Bd H ts bs/\∀ τ G (q:St3->Gp->Prop),q (sets τ ts) G->g x τ G q
def gN (i:Nat):PuG (gn3 i):=⟨λd=>some [(i,d)],[i],λh p hp=>by cases h;simp at hp;subst hp;simp,λhx h=>by cases h;exact ⟨_,.cons hx .nil,λτ G q hq=>hq⟩⟩
def K3:PuGs qO:=⟨λds=>match ds with|[]=>some []|_=>none,[],(λh p hp=>by split at h;cases h;cases hp;cases h),λhx h=>by
 split at h
 ·cases h;cases hx;exact ⟨[],.nil,λτ G q hq=>hq⟩
 ·cases h⟩
def jk {t:TG3} {u:M2} (a:PuG t) (b:PuGs u):PuGs (qj t u):=⟨λds=>match ds with|d::r=>(a.f d).bind λx=>(b.f r).map λy=>x++y|[]=>none,a.tg++b.tg,(λh p hp=>by
 split at h
 ·obtain ⟨x,e1,h⟩:=obb h;obtain ⟨y,e2,rfl⟩:=Option.map_eq_some_iff.mp h;rcases List.mem_append.mp hp with z|z
  ·exact List.mem_append.mpr (.inl (a.at' e1 p z))
  ·exact List.mem_append.mpr (.inr (b.at' e2 p z))
 ·cases h),λhx h=>by
 split at h
 ·obtain ⟨x,e1,h⟩:=obb h;obtain ⟨y,e2,rfl⟩:=Option.map_eq_some_iff.mp h;cases hx with
  |cons hx hr=>
   obtain ⟨ts,b1,k1⟩:=a.ok hx e1;obtain ⟨us,b2,k2⟩:=b.ok hr e2;refine ⟨ts++us,b1.append b2,λτ G q hq=>k1 τ G _ (k2 _ G q ?_)⟩;rw [← qax];exact hq
 ·cases h⟩
def LW {u:M2} (n:Nat) (b:PuGs u):PuG (qN n u):=⟨λd=>match d with|.tuple ds=>if ds.length=n then b.f ds else none|_=>none,b.tg,(λh p hp=>by
 split at h
 ·split at h
  ·exact b.at' h p hp
  ·cases h
 ·cases h),λhx h=>by
 split at h
 ·split at h
  ·rename_i c;cases hx with
   |tup hs=>
    obtain ⟨ts,b1,k1⟩:=b.ok hs h;exact ⟨ts,b1,λτ G q hq=>⟨by rw [hs.length];exact c,k1 τ G q hq⟩⟩
  ·cases h
 ·cases h⟩
structure VA (D:Addr->Prop) (G:Gp) (τ:St3) (ρ:Rho):Prop where
 len:ρ.length=τ.length
 vw:∀ i d,vw ρ i=some d->∃ t,τ[i]?=some (some t)/\Dq (rs D G) t d
def VA.view {D:Addr->Prop} {G:Gp} {τ:St3} {ρ:Rho} (h:VA D G τ ρ) (fv:List Nat):SO fv D G τ ρ:=λi _ d e=>h.vw i d e
def VA.upx {D:Addr->Prop} {G G':Gp} {τ:St3} {ρ:Rho} (h:VA D G τ ρ) (e:Ex (rs D G) (rs D G')):VA D G' τ ρ:=⟨h.len,λi d hd=>let ⟨t,a,b⟩:=h.vw i d hd;⟨t,a,b.up e⟩⟩
def VA.up {D:Addr->Prop} {G G':Gp} {τ:St3} {ρ:Rho} (h:VA D G τ ρ) (e:Ex G G'):VA D G' τ ρ:=h.upx (Q6 e)
def qfh {ρ:Rho} {i j:Nat} {s:Sl}:vw (ρ.set i s) j=if i=j then (if i<ρ.length then s.d else none) else vw ρ j:=by
 unfold vw;rw [getElem?_set];split
 ·subst j;split
  ·rfl
  ·rfl
 ·rfl
def VA.set {D:Addr->Prop} {G:Gp} {τ:St3} {ρ:Rho} (h:VA D G τ ρ) {i:Nat} {x:T} {d:PyData} (hx:Dq (rs D G) x d):VA D G (τ.set i (some x)) (ρ.set i (.sh d)):=by
 refine ⟨by simp [h.len],λj e he=>?_⟩;rw [qfh] at he;split at he
 ·subst j;split at he
  ·rename_i l;cases he;refine ⟨x,?_,hx⟩;rw [getElem?_set,if_pos rfl,if_pos (by rw [← h.len];exact l)]
  ·cases he
 ·rename_i n;obtain ⟨t,a,b⟩:=h.vw j e he;exact ⟨t,by rw [getElem?_set,if_neg n];exact a,b⟩
def VA.sets {D:Addr->Prop} {G:Gp}:∀ {ts:List (Nat×T)} {bs:List (Nat×PyData)} {τ:St3} {ρ:Rho},VA D G τ ρ->Bd (rs D G) ts bs->VA D G (Pu.sets τ ts) (ZG ρ bs)
 |_,_,_,_,h,.nil=>h
 |_,_,_,_,h,.cons a b=>by unfold Pu.sets ZG;exact VA.sets (h.set a) b
def VA.keep {D:Addr->Prop} {G:Gp} {ρ:Rho}:∀ {ts:List (Nat×T)} {τ:St3},VA D G τ ρ->(∀ p∈ts,Pu.vw ρ p.1=none)->VA D G (Pu.sets τ ts) ρ
 |[],_,h,_=>h
 |p::r,τ,h,hn=>VA.keep (ts:=r) ⟨by rw [List.length_set];exact h.len,λj d hd=>by
   have:p.1≠j:=by rintro rfl;rw [hn p (by simp)] at hd;cases hd
   obtain ⟨t,a,b⟩:=h.vw j d hd;exact ⟨t,by rw [getElem?_set,if_neg this];exact a,b⟩⟩ λq hq=>hn q (by simp [hq])
def M1 (m:List (Option Nat)) (ρ:Rho):Rho:=m.map λo=>match o with|some j=>(match vw ρ j with|some d=>.sh d|none=>.un)|none=>.un
def VA.cap {m:List (Option Nat)} {D:Addr->Prop} {G:Gp} {τ:St3} {ρ:Rho} (h:SO (m.filterMap id) D G τ ρ):VA D G (L3.cap m τ) (M1 m ρ):=by
 refine ⟨by simp [M1,L3.cap],λi d hd=>?_⟩;unfold Pu.vw M1 at hd;rw [getElem?_map] at hd;cases e:m[i]? with
 |none=>rw [e] at hd;cases hd
 |some o=>
  rw [e] at hd;cases o with
  |none=>cases hd
  |some j=>
   simp only [Option.map_some,Option.bind_some] at hd;cases e2:Pu.vw ρ j with
   |none=>rw [e2] at hd;cases hd
   |some d'=>
    rw [e2] at hd;have hd':d'=d:=by simpa [Sl.d] using hd
    subst hd';obtain ⟨t,a,b⟩:=h j (List.mem_filterMap.mpr ⟨some j,mem_of_getElem? e,rfl⟩) d' e2;refine ⟨t,?_,b⟩;unfold L3.cap;rw [getElem?_map,e];simp [a]
def ND {m:List (Option Nat)} {ρ:Rho} {i:Nat} (h:m[i]?=some none):vw (M1 m ρ) i=none:=by
 unfold vw M1;rw [getElem?_map,h];rfl
def lcP (h:PyData->Option (Option PyData)):List PyData->Option (List PyData)
 |[]=>some []
 |d::r=>(h d).bind λo=>(lcP h r).bind λys=>some (match o with|some y=>y::ys|none=>ys)
def lcH (gf:PyData->Option (List (Nat×PyData))) (cf:Rho->Option Bool) (ef:Rho->Option PyData) (ρ:Rho) (d:PyData):Option (Option PyData):=
 (gf d).bind λbs=>(cf (ZG ρ bs)).bind λk=>if k then (ef (ZG ρ bs)).map some else some none
def jv {h:PyData->Option (Option PyData)} {α:Type} {g:α->PyData} {k:α->PyData} {xs:List α} (hh:∀ a∈xs,h (g a)=some (some (k a))):lcP h (xs.map g)=some (xs.map k):=by
 induction xs with
 |nil=>rfl
 |cons a r ih=>simp only [map_cons,lcP,hh a (by simp),Option.bind_some,ih λb hb=>hh b (by simp [hb])]
def qbf {h:PyData->Option (Option PyData)} {α:Type} {g:α->PyData} {k:α->PyData} {c:α->Bool} {xs:List α} (hh:∀ a∈xs,h (g a)=some (if c a then some (k a) else none)):lcP h (xs.map g)=some ((xs.filter c).map k):=by
 induction xs with
 |nil=>rfl
 |cons a r ih=>
  simp only [map_cons,lcP,hh a (by simp),Option.bind_some,ih λb hb=>hh b (by simp [hb])];cases e:c a with
  |true=>simp [e]
  |false=>simp [e]
def qeE {H:Gp}:∀ {ts:List (Nat×T)} {bs:List (Nat×PyData)},Bd H ts bs->∀ p∈ts,∃ q∈bs,q.1=p.1
 |_,_,.nil,p,hp=>by cases hp
 |_,_,.cons a b,p,hp=>by
  rcases mem_cons.mp hp with rfl|hp
  ·exact ⟨_,List.mem_cons_self,rfl⟩
  ·obtain ⟨q,hq,e⟩:=qeE b p hp;exact ⟨q,by simp [hq],e⟩
def qie {stay:Gp->Prop} {g:TG3} {tif:TT3} {te:TE3} {q:Q3} (pg:PuG g) (pc:PuC tif) (pe:PuE te) {D:Addr->Prop} {ρ0:Rho} {G0:Gp} (hs:∀ G,Ex G0 G->stay G) (hm:∀ i∈pg.tg,vw ρ0 i=none) (fin:List PyData) (hfin:fin.length<=sizeLine)
  (k:∀ G ys,Ex G0 G->Dqs (rs D G) ys fin->∀ p,G p=none->q (.ref p) (gu G p (.lst ys))) :
  ∀ (ds:List PyData) (items ys:List T) (es fs:List PyData) (τ:St3) (G:Gp),Dqs (rs D G0) items ds->VA D G τ ρ0->Ex G0 G->Dom D G->Dqs (rs D G) ys es->lcP (lcH pg.f pc.f pe.f ρ0) ds=some fs->es++fs=fin->SB stay g tif te q items ys τ G
 |_,_,ys,es,fs,τ,G,.nil,va,E,hd,hy,hf,hl=>by
  cases hf;rw [List.append_nil] at hl;subst hl;exact ⟨hs G E,k G ys E hy⟩
 |d::ds,x::items,ys,es,fs,τ,G,.cons hx hr,va,E,hd,hy,hf,hl=>by
  unfold lcP at hf;obtain ⟨o,e1,hf⟩:=obb hf;obtain ⟨ZY,e2,hf⟩:=obb hf;unfold lcH at e1;obtain ⟨bs,e3,e1⟩:=obb e1;obtain ⟨c,e4,e1⟩:=obb e1;obtain ⟨ts,bd,kg⟩:=pg.ok (hx.up (Q6 E)) e3;refine ⟨hs G E,kg τ G _ ?_⟩;have va1:=va.sets bd;have va2:=va.keep (ts:=ts) λp hp=>by
   obtain ⟨q,hq,e⟩:=qeE bd p hp;rw [← e];exact hm _ (pg.at' e3 q hq)
  refine pc.ok (va1.view _) hd e4 λG1 E1=>?_;cases c with
  |true=>
   rw [if_pos rfl];rw [if_pos rfl] at e1;obtain ⟨y,e5,rfl⟩:=Option.map_eq_some_iff.mp e1;simp only [Option.some.injEq] at hf;subst hf;refine pe.ok ((va1.up E1).view _) (hd.up E1) e5 λz G2 E2 D2 _=>⟨?_,?_⟩
   ·rw [hy.length];rw [← hl] at hfin;simp at hfin;omega
   ·refine qie pg pc pe hs hm fin hfin k ds items (ys++[z]) (es++[y]) ZY _ G2 hr ((va2.up E1).up E2) (E.trans (E1.trans E2)) ((hd.up E1).up E2) (((hy.up (Q6 E1)).up (Q6 E2)).append (.cons D2 .nil)) e2 ?_;rw [← hl];simp
  |false=>
   rw [if_neg Bool.false_ne_true];simp at e1;subst e1;simp only [Option.some.injEq] at hf;subst hf;exact qie pg pc pe hs hm fin hfin k ds items ys es ZY _ G1 hr (va2.up E1) (E.trans E1) (hd.up E1) (hy.up (Q6 E1)) e2 hl
def lcF (pi:Rho->Option (List PyData)) (h:Rho->PyData->Option (Option PyData)) (m:List (Option Nat)) (ρ:Rho):Option PyData:=
 (pi ρ).bind λds=>(lcP (h (M1 m ρ)) ds).bind λfs=>cif (fs.length<=sizeLine) (some (.list fs)) none
def bLc {wi:TI3} {g:TG3} {tif:TT3} {te:TE3} (pi:PuI wi) (pg:PuG g) (pc:PuC tif) (pe:PuE te) (m:List (Option Nat)) (hm:Tru (pg.tg.all λi=>m[i]?==some none)):PuE (lc3 wi g tif te m):=
 ⟨lcF pi.f (lcH pg.f pc.f pe.f) m,pi.fv++m.filterMap id,true,λ{D τ ρ G q d} hv hd hf k=>by
  unfold lcF at hf;obtain ⟨ds,e1,hf⟩:=obb hf;obtain ⟨fs,e2,hf⟩:=obb hf;unfold cif at hf;split at hf
  ·rename_i hl;cases hf;refine pi.ok hv.l hd e1 λitems stay G1 E1 D1 hs _=>?_;have va:=(VA.cap (m:=m) hv.r).up E1;refine qie pg pc pe (D:=D) (ρ0:=M1 m ρ) (G0:=G1) (λG2 E2=>hs G2 (.inr (UW.trans E2))) (λi hi=>ND ?_) fs hl (λG2 ys E2 D2 p hp=>?_) ds items [] [] fs _ G1 D1 va Ex.refl (hd.up E1) .nil e2 (by simp)
   ·have:=List.all_eq_true.mp hm.h i hi;simpa using this
   ·exact k _ _ ((E1.trans E2).trans (ZP hp)) (RJ ((hd.up E1).up E2) hp D2) λ_=>(K8 hp D2).back (E1.trans E2)
  ·cases hf⟩
def E0 (p:Addr) (G G':Gp):Prop:=∀ b o,b≠p->G b=some o->G' b=some o
def E0.refl {p:Addr} {G:Gp}:E0 p G G:=λ_ _ _ e=>e
def E0.trans {p:Addr} {G G1 G2:Gp} (a:E0 p G G1) (b:E0 p G1 G2):E0 p G G2:=λx o n e=>b x o n (a x o n e)
def E0.of {p:Addr} {G G1:Gp} (a:Ex G G1):E0 p G G1:=λx o _ e=>a x o e
def E0.wr {p:Addr} {G:Gp} {o:O}:E0 p G (gu G p o):=λb ob n e=>by rw [jL n];exact e
def E0.rs {p:Addr} {D:Addr->Prop} {G G1:Gp} (a:E0 p G G1):Ex (rs (λb=>D b\/b=p) G) (rs (λb=>D b\/b=p) G1):=λb o h=>by
 obtain ⟨n,h⟩:=zc h;rw [QZ n];exact a b o (λz=>n (.inr z)) h
def qlD {D:Addr->Prop} {G:Gp} {p:Addr} {o:O} (h:Dom D G):Dom D (gu G p o):=λb d z=>by
 by_cases e:b=p
 ·subst e;rw [qy] at z;cases z
 ·rw [jL e] at z;exact h b d z
def qha {p:Addr} {stay:Gp->Prop} {g:TG3} {tif:TT3} {te:TE3} {N:St3->Gp->Prop} (pg:PuG g) (pc:PuC tif) (pe:PuE te) {D:Addr->Prop} {ρ0:Rho} {G0:Gp} (hs:∀ G,Ex (rs (λb=>D b\/b=p) G0) G->stay G) (hm:∀ i∈pg.tg,vw ρ0 i=none) (fin:List PyData) (hfin:fin.length<=sizeLine)
  (k:∀ τ G ys,VA (λb=>D b\/b=p) G τ ρ0->E0 p G0 G->Dom (λb=>D b\/b=p) G->G p=some (.lst ys)->Dqs (rs (λb=>D b\/b=p) G) ys fin->N τ G) :
  ∀ (ds:List PyData) (items ys:List T) (es fs:List PyData) (τ:St3) (G:Gp),Dqs (rs (λb=>D b\/b=p) G0) items ds->VA (λb=>D b\/b=p) G τ ρ0->E0 p G0 G->Dom (λb=>D b\/b=p) G->G p=some (.lst ys)->Dqs (rs (λb=>D b\/b=p) G) ys es->lcP (lcH pg.f pc.f pe.f ρ0) ds=some fs->es++fs=fin->qi1 p stay g tif te N items τ G
 |_,_,ys,es,fs,τ,G,.nil,va,E,hd,gp,hy,hf,hl=>by
  cases hf;rw [List.append_nil] at hl;subst hl;exact ⟨hs G (E.rs.trans UW),k τ G ys va E hd gp hy⟩
 |d::ds,x::items,ys,es,fs,τ,G,.cons hx hr,va,E,hd,gp,hy,hf,hl=>by
  unfold lcP at hf;obtain ⟨o,e1,hf⟩:=obb hf;obtain ⟨ZY,e2,hf⟩:=obb hf;unfold lcH at e1;obtain ⟨bs,e3,e1⟩:=obb e1;obtain ⟨c,e4,e1⟩:=obb e1;obtain ⟨ts,bd,kg⟩:=pg.ok (hx.up E.rs) e3;refine ⟨hs G (E.rs.trans UW),kg τ G _ ?_⟩;have va1:=va.sets bd;have va2:=va.keep (ts:=ts) λp hp=>by
   obtain ⟨q,hq,e⟩:=qeE bd p hp;rw [← e];exact hm _ (pg.at' e3 q hq)
  refine pc.ok (va1.view _) hd e4 λG1 E1=>?_;cases c with
  |true=>
   rw [if_pos rfl];rw [if_pos rfl] at e1;obtain ⟨y,e5,rfl⟩:=Option.map_eq_some_iff.mp e1;simp only [Option.some.injEq] at hf;subst hf;refine pe.ok ((va1.up E1).view _) (hd.up E1) e5 λz G2 E2 D2 _=>?_;simp only [E2 _ _ (E1 _ _ gp)];have W:E0 p G2 (gu G2 p (.lst (ys++[z]))):=E0.wr;refine ⟨?_,?_⟩
   ·rw [hy.length];rw [← hl] at hfin;simp at hfin;omega
   ·refine qha pg pc pe hs hm fin hfin k ds items (ys++[z]) (es++[y]) ZY _ _ hr (((va2.up E1).up E2).upx W.rs) ((E.trans (E0.of (E1.trans E2))).trans W) (qlD ((hd.up E1).up E2)) qy ((((hy.up (Q6 E1)).up (Q6 E2)).append (.cons D2 .nil)).up W.rs) e2 ?_;rw [← hl];simp
  |false=>
   rw [if_neg Bool.false_ne_true];simp at e1;subst e1;simp only [Option.some.injEq] at hf;subst hf;exact qha pg pc pe hs hm fin hfin k ds items ys es ZY _ G1 hr (va2.up E1) (E.trans (E0.of E1)) (hd.up E1) (E1 _ _ gp) (hy.up (Q6 E1)) e2 hl
def qhX (h:PyData->Option (Option (List PyData))):List PyData->Option (List PyData)
 |[]=>some []
 |d::r=>(h d).bind λo=>(qhX h r).bind λys=>some (match o with|some y=>y++ys|none=>ys)
def qnS (gf:PyData->Option (List (Nat×PyData))) (cf:Rho->Option Bool) (it:Rho->Option (List PyData)) (h:Rho->PyData->Option (Option PyData)) (ρ:Rho) (d:PyData):Option (Option (List PyData)):=
 (gf d).bind λbs=>(cf (ZG ρ bs)).bind λk=>if k then ((it (ZG ρ bs)).bind λds=>lcP (h (ZG ρ bs)) ds).map some else some none
def qag:∀ {bs:List (Nat×PyData)} {ρ:Rho} {i:Nat},(∀ p∈bs,p.1≠i)->vw (ZG ρ bs) i=vw ρ i
 |[],_,_,_=>rfl
 |p::r,ρ,i,h=>by
  unfold ZG;rw [qag (λq hq=>h q (by simp [hq])),qfh,if_neg (h p (by simp))]
def qaK:∀ (bs:List (Nat×PyData)) (ρ:Rho),(ZG ρ bs).length=ρ.length
 |[],τ=>rfl
 |p::r,τ=>by unfold ZG;rw [qaK r];simp
def qc9 {p:Addr} {stay:Gp->Prop} {g g2:TG3} {tif tif2:TT3} {wi2:TI3} {te:TE3} {q:Q3} (pg:PuG g) (pc:PuC tif) (pi2:PuI wi2) (pg2:PuG g2) (pc2:PuC tif2) (pe:PuE te) {D:Addr->Prop} {ρ0:Rho} {G0:Gp} (hs:∀ G,Ex (rs (λb=>D b\/b=p) G0) G->stay G) (hm:∀ i∈pg.tg,vw ρ0 i=none) (hm2:∀ i∈pg2.tg,vw ρ0 i=none) (hdj:∀ i∈pg2.tg,i∉pg.tg) (fin:List PyData) (hfin:fin.length<=sizeLine)
  (k:∀ G ys,E0 p G0 G->G p=some (.lst ys)->Dqs (rs (λb=>D b\/b=p) G) ys fin->q (.ref p) G) :
  ∀ (ds:List PyData) (items ys:List T) (es fs:List PyData) (τ:St3) (G:Gp),Dqs (rs (λb=>D b\/b=p) G0) items ds->VA (λb=>D b\/b=p) G τ ρ0->E0 p G0 G->Dom (λb=>D b\/b=p) G->G p=some (.lst ys)->Dqs (rs (λb=>D b\/b=p) G) ys es->qhX (qnS pg.f pc.f pi2.f (lcH pg2.f pc2.f pe.f) ρ0) ds=some fs->es++fs=fin->qcz p stay g tif wi2 g2 tif2 te q items τ G
 |_,_,ys,es,fs,τ,G,.nil,va,E,hd,gp,hy,hf,hl=>by
  cases hf;rw [List.append_nil] at hl;subst hl;exact ⟨hs G (E.rs.trans UW),k G ys E gp hy⟩
 |d::ds,x::items,ys,es,fs,τ,G,.cons hx hr,va,E,hd,gp,hy,hf,hl=>by
  unfold qhX at hf;obtain ⟨o,e1,hf⟩:=obb hf;obtain ⟨ZY,e2,hf⟩:=obb hf;unfold qnS at e1;obtain ⟨bs,e3,e1⟩:=obb e1;obtain ⟨c,e4,e1⟩:=obb e1;obtain ⟨ts,bd,kg⟩:=pg.ok (hx.up E.rs) e3;refine ⟨hs G (E.rs.trans UW),kg τ G _ ?_⟩;have va1:=va.sets bd;have va2:=va.keep (ts:=ts) λp hp=>by
   obtain ⟨q,hq,e⟩:=qeE bd p hp;rw [← e];exact hm _ (pg.at' e3 q hq)
  refine pc.ok (va1.view _) hd e4 λG1 E1=>?_;cases c with
  |true=>
   rw [if_pos rfl];rw [if_pos rfl] at e1;obtain ⟨y,e5,rfl⟩:=Option.map_eq_some_iff.mp e1;obtain ⟨ds2,e6,e5⟩:=obb e5;simp only [Option.some.injEq] at hf;subst hf;refine pi2.ok ((va1.up E1).view _) (hd.up E1) e6 λitems2 stay2 G2 E2 D2 hs2 _=>?_;have l2:(es++y).length<=sizeLine:=by
    rw [← hl] at hfin;simp at hfin ⊢;omega
   refine qha pg2 pc2 pe (ρ0:=ZG ρ0 bs) (G0:=G2) (λG3 E3=>hs2 G3 (.inr E3)) (λi hi=>?_) (es++y) l2 (λτ3 G3 zs va3 E3 hd3 gp3 hz=>?_) ds2 items2 ys es y _ G2 D2 ((va1.up E1).up E2) E0.refl ((hd.up E1).up E2) (E2 _ _ (E1 _ _ gp)) ((hy.up (Q6 E1)).up (Q6 E2)) e5 rfl
   ·rw [qag λq hq e=>hdj i hi (by rw [← e];exact pg.at' e3 q hq)];exact hm2 i hi
   ·have E4:E0 p G G3:=(E0.of (E1.trans E2)).trans E3;have va4:VA (λb=>D b\/b=p) G3 τ3 ρ0:=⟨by rw [← va3.len,qaK],λi d' hd'=>va3.vw i d' (by
     rw [qag λq hq e=>?_];exact hd';rw [← e,hm _ (pg.at' e3 q hq)] at hd';cases hd')⟩
    exact qc9 pg pc pi2 pg2 pc2 pe hs hm hm2 hdj fin hfin k ds items zs (es++y) ZY τ3 G3 hr va4 (E.trans E4) hd3 gp3 hz e2 (by rw [← hl];simp)
  |false=>
   rw [if_neg Bool.false_ne_true];simp at e1;subst e1;simp only [Option.some.injEq] at hf;subst hf;exact qc9 pg pc pi2 pg2 pc2 pe hs hm hm2 hdj fin hfin k ds items ys es ZY _ G1 hr (va2.up E1) (E.trans (E0.of E1)) (hd.up E1) (E1 _ _ gp) (hy.up (Q6 E1)) e2 hl
def qkA (pi:Rho->Option (List PyData)) (h:Rho->PyData->Option (Option (List PyData))) (m:List (Option Nat)) (ρ:Rho):Option PyData:=
 (pi ρ).bind λds=>(qhX (h (M1 m ρ)) ds).bind λfs=>cif (fs.length<=sizeLine) (some (.list fs)) none
def qak {h:PyData->Option (Option (List PyData))} {α:Type} {g:α->PyData} {k:α->List PyData} {xs:List α} (hh:∀ a∈xs,h (g a)=some (some (k a))):qhX h (xs.map g)=some (xs.flatMap k):=by
 induction xs with
 |nil=>rfl
 |cons a r ih=>simp only [map_cons,qhX,hh a (by simp),Option.bind_some,ih λb hb=>hh b (by simp [hb]),List.flatMap_cons]
def qn6 {wi wi2:TI3} {g g2:TG3} {tif tif2:TT3} {te:TE3} (pi:PuI wi) (pg:PuG g) (pc:PuC tif) (pi2:PuI wi2) (pg2:PuG g2) (pc2:PuC tif2) (pe:PuE te) (m:List (Option Nat)) (hm:Tru (pg.tg.all λi=>m[i]?==some none)) (hm2:Tru (pg2.tg.all λi=>m[i]?==some none)) (hdj:Tru (pg2.tg.all λi=>!pg.tg.contains i)):PuE (qmc wi g tif wi2 g2 tif2 te m):=
 ⟨qkA pi.f (qnS pg.f pc.f pi2.f (lcH pg2.f pc2.f pe.f)) m,pi.fv++m.filterMap id,true,λ{D τ ρ G q d} hv hd hf k=>by
  unfold qkA at hf;obtain ⟨ds,e1,hf⟩:=obb hf;obtain ⟨fs,e2,hf⟩:=obb hf;unfold cif at hf;split at hf
  ·rename_i hl;cases hf;refine pi.ok hv.l hd e1 λitems stay G1 E1 D1 hs _ p hp=>?_;have va:=(VA.cap (m:=m) hv.r).up E1;have np:∀ {b o},G1 b=some o->b≠p:=λe=>by rintro rfl;rw [hp] at e;cases e
   have X1:Ex (rs D G1) (rs (λb=>D b\/b=p) (gu G1 p (.lst []))):=λb o e=>by
    obtain ⟨n,e⟩:=zc e;rw [QZ (by rintro (z|z);exact n z;exact np e z),jL (np e)];exact e
   refine qc9 pg pc pi2 pg2 pc2 pe (D:=D) (ρ0:=M1 m ρ) (G0:=gu G1 p (.lst [])) (p:=p) (λG2 E2=>hs G2 (.inr (X1.trans E2))) (λi hi=>ND ?_) (λi hi=>ND ?_) (λi hi hj=>?_) fs hl (λG2 ys E2 gp D2=>?_) ds items [] [] fs _ _ (D1.up X1) ⟨va.len,λi d hd=>let ⟨t,a,b⟩:=va.vw i d hd;⟨t,a,b.up X1⟩⟩ E0.refl ?_ qy .nil e2 (by simp)
   ·simpa using List.all_eq_true.mp hm.h i hi
   ·simpa using List.all_eq_true.mp hm2.h i hi
   ·have:=List.all_eq_true.mp hdj.h i hi;simp at this;exact this hj
   ·have EE:Ex G1 G2:=λb o e=>E2 b o (np e) (by rw [jL (np e)];exact e);have hdp:¬ D p:=λz=>(hd.up E1) p z hp;refine k _ _ (E1.trans EE) (.lst (by rw [QZ hdp];exact gp) (D2.up (jQ λb z=>.inl z))) λ_=>Nw.back (.inr ⟨p,ys,fs,rfl,rfl,hp,gp,D2⟩) E1
   ·intro b hb z;by_cases e:b=p
    ·subst e;rw [qy] at z;cases z
    ·rw [jL e] at z;rcases hb with hb|hb
     ·exact (hd.up E1) b hb z
     ·exact e hb
  ·cases hf⟩
def AD (D:Addr->Prop) (A:Nat->Option Addr) (b:Addr):Prop:=D b\/∃ i,A i=some b
structure RS (D:Addr->Prop) (G0:Gp) (A:Nat->Option Addr) (τ:St3) (ρ:Rho) (G:Gp):Prop where
 ex:Ex G0 G
 dm:Dom D G0
 fr:∀ i p,A i=some p->G0 p=none
 da:∀ i p,A i=some p->G p≠none
 inj:∀ i j p,A i=some p->A j=some p->i=j
 len:ρ.length=τ.length
 sh:∀ (i:Nat) (d:PyData),ρ[i]?=some (Sl.sh d)->∃ t,τ[i]?=some (some t)/\Dq (rs (AD D A) G) t d
 ow:∀ (i:Nat) (ds:List PyData),ρ[i]?=some (Sl.ow ds)->∃ p xs,A i=some p/\τ[i]?=some (some (.ref p))/\G p=some (.lst xs)/\Dqs (rs (AD D A) G) xs ds
section
variable {D:Addr->Prop} {G0 G G':Gp} {A A':Nat->Option Addr} {τ:St3} {ρ:Rho}
def RS.nd (h:RS D G0 A τ ρ G) {i:Nat} {p:Addr} (e:A i=some p):¬ D p:=λz=>h.dm p z (h.fr i p e)
def RS.dom (h:RS D G0 A τ ρ G):Dom (AD D A) G:=λb hb=>by
 rcases hb with hb|⟨i,hi⟩
 ·exact (h.dm.up h.ex) b hb
 ·exact h.da i b hi
def RS.domD (h:RS D G0 A τ ρ G):Dom D G:=h.dm.up h.ex
def RS.up (h:RS D G0 A τ ρ G) (e:Ex G G'):RS D G0 A τ ρ G':=
 ⟨h.ex.trans e,h.dm,h.fr,λi p a z=>(h.da i p a) (by
  cases g:G p with
  |none=>rfl
  |some o=>rw [e _ _ g] at z;cases z),h.inj,h.len,λi d a=>let ⟨t,b,c⟩:=h.sh i d a;⟨t,b,c.up (Q6 e)⟩,λi ds a=>let ⟨p,xs,b,c,d,f⟩:=h.ow i ds a;⟨p,xs,b,c,e _ _ d,f.up (Q6 e)⟩⟩
def RS.viewAll (h:RS D G0 A τ ρ G) (fv:List Nat):SO fv D G τ ρ:=λi _ d hd=>by
 unfold vw at hd;obtain ⟨s,e,hd⟩:=obb hd;have less:Ex (rs (AD D A) G) (rs D G):=jQ λb z=>.inl z;cases s with
 |un=>cases hd
 |sh d'=>
  cases hd;obtain ⟨t,b,c⟩:=h.sh i _ e;exact ⟨t,b,c.up less⟩
 |ow ds=>
  cases hd;obtain ⟨p,xs,b,c,g,f⟩:=h.ow i _ e;exact ⟨_,c,.lst (by rw [QZ (h.nd b)];exact g) (f.up less)⟩
def RS.view (h:RS D G0 A τ ρ G) {fv:List Nat} (hn:∀ i∈fv,A i=none):SO fv (AD D A) G τ ρ:=λi hi d hd=>by
 unfold vw at hd;obtain ⟨s,e,hd⟩:=obb hd;cases s with
 |un=>cases hd
 |sh d'=>
  cases hd;exact h.sh i _ e
 |ow ds=>
  obtain ⟨p,xs,b,_⟩:=h.ow i _ e;rw [hn i hi] at b;cases b
def Sl.dem:Sl->Sl
 |.ow ds=>.sh (.list ds)
 |s=>s
def dm:List Bool->Rho->Rho
 |b::m,s::r=>(match b with|true=>s.dem|false=>s)::dm m r
 |_,r=>r
def mkb (m:List Bool) (i:Nat):Bool:=(m[i]?).getD false
def qbM:∀ (m:List Bool) (ρ:Rho) (i:Nat),(dm m ρ)[i]?=(ρ[i]?).map λs=>if mkb m i=true then s.dem else s
 |[],ρ,i=>by simp [dm,mkb]
 |b::m,[],i=>by simp [dm]
 |b::m,s::r,0=>by cases b<;>simp [dm,mkb]
 |b::m,s::r,i+1=>by
  have:=qbM m r i;simp only [dm,getElem?_cons_succ,mkb] at this ⊢;exact this
def qnV (s:Sl):s.dem.d=s.d:=by cases s<;>rfl
def qpM (m:List Bool) (ρ:Rho) (i:Nat):vw (dm m ρ) i=vw ρ i:=by
 unfold vw;rw [qbM];cases ρ[i]? with
 |none=>rfl
 |some s=>
  simp only [Option.map_some,Option.bind_some];split
  ·exact qnV s
  ·rfl
def qfu:∀ (m:List Bool) (ρ:Rho),(dm m ρ).length=ρ.length
 |[],ρ=>rfl
 |b::m,[]=>rfl
 |b::m,s::r=>by simp [dm,qfu m r]
def Ad (m:List Bool) (A:Nat->Option Addr):Nat->Option Addr:=λi=>if mkb m i=true then none else A i
def RN {m:List Bool} {i:Nat} {p:Addr} (h:Ad m A i=some p):A i=some p/\mkb m i=false:=by
 unfold Ad at h;split at h
 ·cases h
 ·rename_i n;exact ⟨h,by simpa using n⟩
def RS.dem (h:RS D G0 A τ ρ G) (m:List Bool):RS D G0 (Ad m A) τ (Pu.dm m ρ) G:=by
 have less:Ex (rs (AD D A) G) (rs (AD D (Ad m A)) G):=jQ λb z=>by
  rcases z with z|⟨i,z⟩
  ·exact .inl z
  ·exact .inr ⟨i,(RN z).1⟩
 refine ⟨h.ex,h.dm,λi p e=>h.fr i p (RN e).1,λi p e=>h.da i p (RN e).1,λi j p a b=>h.inj i j p (RN a).1 (RN b).1,by rw [qfu];exact h.len,λi d e=>?_,λi ds e=>?_⟩
 ·rw [qbM] at e;obtain ⟨s,e1,e2⟩:=Option.map_eq_some_iff.mp e;cases s with
  |un=>split at e2<;>cases e2
  |sh d'=>
   have:d'=d:=by split at e2<;>(cases e2;rfl)
   subst this;obtain ⟨t,b,c⟩:=h.sh i _ e1;exact ⟨t,b,c.up less⟩
  |ow ds=>
   split at e2
   ·rename_i hm;cases e2;obtain ⟨p,xs,b,c,g,f⟩:=h.ow i _ e1;refine ⟨_,c,.lst ?_ (f.up less)⟩;rw [QZ]
    ·exact g
    ·rintro (z|⟨j,z⟩)
     ·exact h.nd b z
     ·have:=h.inj i j p b (RN z).1;subst this;rw [(RN z).2] at hm;cases hm
   ·cases e2
 ·rw [qbM] at e;obtain ⟨s,e1,e2⟩:=Option.map_eq_some_iff.mp e;cases s with
  |un=>split at e2<;>cases e2
  |sh d'=>split at e2<;>cases e2
  |ow ds'=>
   split at e2
   ·cases e2
   ·rename_i hm;cases e2;obtain ⟨p,xs,b,c,g,f⟩:=h.ow i _ e1;exact ⟨p,xs,by unfold Ad;rw [if_neg hm];exact b,c,g,f.up less⟩
def RS.viewD (h:RS D G0 A τ ρ G) {m:List Bool} {fv:List Nat} (hm:Tru (fv.all (mkb m))):SO fv (AD D (Ad m A)) G τ ρ:=by
 have:=(h.dem m).view (fv:=fv) λi hi=>by unfold Ad;rw [if_pos (List.all_eq_true.mp hm.h i hi)]
 intro i hi d hd;exact this i hi d (by rw [qpM];exact hd)
def Er (A:Nat->Option Addr) (i:Nat):Nat->Option Addr:=λj=>if j=i then none else A j
def RE {i j:Nat} {p:Addr} (h:Er A i j=some p):A j=some p/\j≠i:=by
 unfold Er at h;split at h
 ·cases h
 ·rename_i n;exact ⟨h,n⟩
def RS.put (h:RS D G0 A τ ρ G) (i:Nat) {x:T} {d:PyData} (hx:Dq (rs (AD D A) G) x d):RS D G0 (Er A i) (τ.set i (some x)) (ρ.set i (.sh d)) G:=by
 have less:Ex (rs (AD D A) G) (rs (AD D (Er A i)) G):=jQ λb z=>by
  rcases z with z|⟨j,z⟩
  ·exact .inl z
  ·exact .inr ⟨j,(RE z).1⟩
 refine ⟨h.ex,h.dm,λj p e=>h.fr j p (RE e).1,λj p e=>h.da j p (RE e).1,λj k p a b=>h.inj j k p (RE a).1 (RE b).1,by simp [h.len],λj e he=>?_,λj ds e=>?_⟩
 ·rw [getElem?_set] at he ⊢;split at he
  ·rename_i hj;rw [if_pos hj];split at he
   ·rename_i hl;cases he;exact ⟨x,by rw [if_pos (by rw [← h.len];exact hl)],hx.up less⟩
   ·cases he
  ·rename_i hj;rw [if_neg hj];obtain ⟨t,b,c⟩:=h.sh j _ he;exact ⟨t,b,c.up less⟩
 ·rw [getElem?_set] at e ⊢;split at e
  ·split at e<;>cases e
  ·rename_i hj;rw [if_neg hj];obtain ⟨p,xs,b,c,g,f⟩:=h.ow j _ e;exact ⟨p,xs,by unfold Er;rw [if_neg (λz=>hj z.symm)];exact b,c,g,f.up less⟩
def RS.puts:∀ {ts:List (Nat×T)} {bs:List (Nat×PyData)} {A:Nat->Option Addr} {τ:St3} {ρ:Rho},RS D G0 A τ ρ G->Bd (rs (AD D A) G) ts bs->∃ A',RS D G0 A' (sets τ ts) (ZG ρ bs) G
 |_,_,A,_,_,h,.nil=>⟨A,h⟩
 |_,_,A,_,_,h,.cons (i:=i) a b=>by
  unfold sets ZG;exact RS.puts (h.put i a) (b.up (jQ λb z=>by
   rcases z with z|⟨j,z⟩
   ·exact .inl z
   ·exact .inr ⟨j,(RE z).1⟩))
def RS.putN (h:RS D G0 A τ ρ G) (i:Nat) {x:T} {d:PyData} {ds:List PyData} (hd:d=.list ds) (E:Ex G G') (hx:Nw (AD D A) G G' x d):RS D G0 (λj=>if j=i then (match x with|.ref p=>some p|_=>none) else A j) (τ.set i (some x)) (ρ.set i (.ow ds)) G':=by
 rcases hx with hx|⟨p,xs,ds',rfl,e',gp,gp',hs⟩
 ·rw [hd] at hx;cases hx
 rw [hd] at e';cases e';have np:∀ {j q},A j=some q->q≠p:=λe=>by rintro rfl;exact h.da _ _ e gp
 have X1:Ex (rs (AD D A) G) (rs (AD D (λj=>if j=i then some p else A j)) G'):=λb o e=>by
  obtain ⟨n,e⟩:=zc e;rw [QZ]
  ·exact E _ _ e
  ·rintro (z|⟨j,z⟩)
   ·exact n (.inl z)
   ·simp only at z;split at z
    ·cases z;rw [gp] at e;cases e
    ·exact n (.inr ⟨j,z⟩)
 refine ⟨h.ex.trans E,h.dm,λj q e=>?_,λj q e=>?_,λj k q a b=>?_,by simp [h.len],λj e he=>?_,λj es e=>?_⟩
 ·simp only at e;split at e
  ·cases e;cases z:G0 p with
   |none=>rfl
   |some o=>rw [h.ex _ _ z] at gp;cases gp
  ·exact h.fr j q e
 ·simp only at e;split at e
  ·cases e;rw [gp'];simp
  ·exact (h.up E).da j q e
 ·simp only at a b;split at a
  ·cases a;split at b
   ·rename_i h1 h2;rw [h1,h2]
   ·exact absurd rfl (np b)
  ·split at b
   ·cases b;exact absurd rfl (np a)
   ·exact h.inj j k q a b
 ·rw [getElem?_set] at he ⊢;split at he
  ·split at he<;>cases he
  ·rename_i hj;rw [if_neg hj];obtain ⟨t,b,c⟩:=h.sh j _ he;exact ⟨t,b,c.up X1⟩
 ·rw [getElem?_set] at e ⊢;split at e
  ·rename_i hj;subst hj;split at e
   ·rename_i hl;cases e;refine ⟨p,xs,by simp,by rw [if_pos rfl,if_pos (by rw [← h.len];exact hl)],gp',hs.up (jQ λb z=>?_)⟩;rcases z with z|⟨j,z⟩
    ·exact .inl (.inl z)
    ·simp only at z;split at z
     ·cases z;exact .inr rfl
     ·exact .inl (.inr ⟨j,z⟩)
   ·cases e
  ·rename_i hj;rw [if_neg hj];obtain ⟨q,ys,b,c,g,f⟩:=h.ow j _ e;exact ⟨q,ys,by rw [if_neg (λz=>hj z.symm)];exact b,c,E _ _ g,f.up X1⟩
def RS.wr (h:RS D G0 A τ ρ G) {i:Nat} {p:Addr} {xs:List T} {ds:List PyData} (hi:A i=some p) (ht:τ[i]?=some (some (.ref p))) (hs:Dqs (rs (AD D A) G) xs ds):RS D G0 A τ (ρ.set i (.ow ds)) (gu G p (.lst xs)):=by
 have X1:Ex (rs (AD D A) G) (rs (AD D A) (gu G p (.lst xs))):=λb o e=>by
  obtain ⟨n,e⟩:=zc e;rw [QZ n,jL (by rintro rfl;exact n (.inr ⟨i,hi⟩))];exact e
 refine ⟨λb o e=>?_,h.dm,h.fr,λj q e=>?_,h.inj,by simp [h.len],λj e he=>?_,λj es e=>?_⟩
 ·rw [jL (by rintro rfl;rw [h.fr i _ hi] at e;cases e)];exact h.ex _ _ e
 ·by_cases z:q=p
  ·subst z;rw [qy];simp
  ·rw [jL z];exact h.da j q e
 ·rw [getElem?_set] at he;split at he
  ·split at he<;>cases he
  ·obtain ⟨t,b,c⟩:=h.sh j _ he;exact ⟨t,b,c.up X1⟩
 ·rw [getElem?_set] at e;split at e
  ·rename_i hj;subst hj;split at e
   ·cases e;exact ⟨p,xs,hi,ht,qy,hs.up X1⟩
   ·cases e
  ·rename_i hj;obtain ⟨q,ys,b,c,g,f⟩:=h.ow j _ e;exact ⟨q,ys,b,c,by rw [jL (by rintro rfl;exact hj (h.inj i j _ hi b))];exact g,f.up X1⟩
def RS.base {Gb:Gp} (h:RS D Gb A τ ρ G) (e:Ex G0 Gb) (hd:Dom D G0):RS D G0 A τ ρ G:=
 ⟨e.trans h.ex,hd,(λi p a=>by
  cases z:G0 p with
  |none=>rfl
  |some o=>have:=h.fr i p a;rw [e _ _ z] at this;cases this),h.da,h.inj,h.len,h.sh,h.ow⟩
end
inductive Ot where
 |nx (ρ:Rho)|bk (ρ:Rho)|ct (ρ:Rho)|rt (d:PyData) (fr:Bool)
def qjx (D:Addr->Prop) (G0:Gp) (e:Ends3):Ot->Prop
 |.nx ρ=>∀ A τ G,RS D G0 A τ ρ G->e.nx τ G
 |.bk ρ=>∀ A τ G,RS D G0 A τ ρ G->e.bk τ G
 |.ct ρ=>∀ A τ G,RS D G0 A τ ρ G->e.ct τ G
 |.rt d fr=>∀ x G,Ex G0 G->Dq (rs D G) x d->(fr=true->Nw D G0 G x d)->e.rt x G
def qjx.base {D:Addr->Prop} {G0 Gb:Gp} {e:Ends3} {o:Ot} (h:qjx D G0 e o) (x:Ex G0 Gb) (hd:Dom D G0):qjx D Gb e o:=by
 cases o with
 |nx ρ=>exact λA τ G r=>h A τ G (r.base x hd)
 |bk ρ=>exact λA τ G r=>h A τ G (r.base x hd)
 |ct ρ=>exact λA τ G r=>h A τ G (r.base x hd)
 |rt d fr=>exact λy G a b c=>h y G (x.trans a) b λz=>(c z).back x
structure PuS (t:TS3) where
 f:Nat->Rho->Option Ot
 ok:∀ {D G0 A τ ρ G n o} {e:Ends3},RS D G0 A τ ρ G->f n ρ=some o->qjx D G0 e o->t e τ G
def XZ:PuS qw:=⟨λ_ ρ=>some (.nx ρ),λh hf k=>by cases hf;exact k _ _ _ h⟩
def qrm:PuS VH:=⟨λ_ ρ=>none,λh hf k=>by cases hf⟩
def qn5 (a b:Nat->Rho->Option Ot) (n:Nat) (ρ:Rho):Option Ot:=(a n ρ).bind λo=>match o with|.nx ρ'=>b n ρ'|o=>some o
def EF {t u:TS3} (a:PuS t) (b:PuS u):PuS (qx t u):=⟨qn5 a.f b.f,λ{D G0 A τ ρ G n o e} h hf k=>by
 unfold qn5 at hf;obtain ⟨o1,e1,hf⟩:=obb hf;refine a.ok h e1 ?_;cases o1 with
 |nx ρ'=>exact λA' τ' G' h'=>b.ok h' hf k
 |bk ρ'=>cases hf;exact k
 |ct ρ'=>cases hf;exact k
 |rt d fr=>cases hf;exact k⟩
def sIf {c:TT3} {t u:TS3} (pc:PuC c) (a:PuS t) (b:PuS u):PuS (za c t u):=⟨λn ρ=>(pc.f ρ).bind λk=>if k then a.f n ρ else b.f n ρ,λh hf k=>by
 obtain ⟨o1,e1,hf⟩:=obb hf;refine pc.ok (h.viewAll _) h.domD e1 λG1 E1=>?_;cases o1 with
 |true=>exact a.ok (h.up E1) hf k
 |false=>exact b.ok (h.up E1) hf k⟩
def WX {t:TE3} (a:PuE t):PuS (qD t):=⟨λ_ ρ=>(a.f ρ).map λd=>.rt d a.nw,λh hf k=>by
 obtain ⟨d,e1,rfl⟩:=Option.map_eq_some_iff.mp hf;exact a.ok (h.viewAll _) h.domD e1 λx G1 E1 D1 N1=>k x G1 (h.ex.trans E1) D1 λz=>(N1 z).back h.ex⟩
def qi2 (ρ:Rho) (i:Nat):Option Ot:=match ρ[i]? with|some (.ow ds)=>some (.rt (.list ds) true)|some (.sh d)=>some (.rt d false)|_=>none
def qdP (i:Nat):PuS (qD (v3 i)):=⟨λ_ ρ=>qi2 ρ i,λh hf k=>by
 unfold qi2 at hf;split at hf
 ·rename_i ds e;cases hf;obtain ⟨p,xs,b,c,g,f⟩:=h.ow i _ e;simp only [qD,v3,c];refine k _ _ h.ex (.lst (by rw [QZ (h.nd b)];exact g) (f.up (jQ λb z=>.inl z))) λ_=>.inr ⟨p,xs,ds,rfl,rfl,h.fr i p b,g,f.up (jQ λq z=>?_)⟩;rcases z with z|z
  ·exact .inl z
  ·subst z;exact .inr ⟨i,b⟩
 ·rename_i d e;cases hf;obtain ⟨t,b,c⟩:=h.sh i _ e;simp only [qD,v3,b];exact k _ _ h.ex (c.up (jQ λb z=>.inl z)) (λz=>by cases z)
 ·cases hf⟩
def qfm:PyData->Bool
 |.none=>true|.bool _=>true|.int _=>true|.str _=>true|_=>false
def XR {H H':Gp} {x:T} {d:PyData} (h:Dq H x d) (s:qfm d=true):Dq H' x d:=by
 cases h<;>first|(constructor;done)|(simp [qfm] at s;done)
def qq6:PyData->Sl
 |.list ds=>.ow ds
 |d=>.sh d
def qbA (m:List Bool) (nw:Bool) (i:Nat) (d:PyData) (ρ:Rho):Rho:=if qfm d then ρ.set i (.sh d) else (dm m ρ).set i (if nw then qq6 d else .sh d)
def qdD {t:TE3} (a:PuE t) (i:Nat) (m:List Bool) (hm:Tru (a.fv.all (mkb m))):PuS (qG t (gn3 i)):=⟨λ_ ρ=>(a.f ρ).map λd=>.nx (qbA m a.nw i d ρ),λ{D G0 A τ ρ G n o e} h hf k=>by
 obtain ⟨d,e1,rfl⟩:=Option.map_eq_some_iff.mp hf;refine a.ok (h.viewD hm) (h.dem m).dom e1 λx G1 E1 D1 N1=>?_;unfold qbA at k;show e.nx (τ.set i (some x)) G1;split at k
 ·rename_i hs;exact k _ _ _ ((h.up E1).put i (XR D1 hs))
 ·split at k
  ·rename_i hn;have N:=N1 hn;rcases id N with h2|⟨p,xs,ds,h1,h2,_⟩
   ·subst h2;rename_i hs;exact absurd rfl hs
   subst h2;exact k _ _ _ ((h.dem m).putN i rfl E1 N)
  ·exact k _ _ _ (((h.dem m).up E1).put i D1)⟩
def N7 {t:TE3} {g:TG3} (a:PuE t) (pg:PuG g) (m:List Bool) (hm:Tru (a.fv.all (mkb m))):PuS (qG t g):=⟨λ_ ρ=>(a.f ρ).bind λd=>(pg.f d).map λbs=>.nx (ZG (dm m ρ) bs),λ{D G0 A τ ρ G n o e} h hf k=>by
 obtain ⟨d,e1,hf⟩:=obb hf;obtain ⟨bs,e2,rfl⟩:=Option.map_eq_some_iff.mp hf;refine a.ok (h.viewD hm) (h.dem m).dom e1 λx G1 E1 D1 N1=>?_;obtain ⟨ts,bd,kg⟩:=pg.ok D1 e2;refine kg _ _ _ ?_;obtain ⟨A',h'⟩:=((h.dem m).up E1).puts bd;exact k _ _ _ h'⟩
def qeh (i j:Nat) (m:List Bool) (ds:List PyData) (ρ:Rho):Option Ot:=match ds with
 |[d,e]=>if qfm d&&qfm e then some (.nx ((ρ.set i (.sh d)).set j (.sh e))) else some (.nx (((dm m ρ).set i (.sh d)).set j (.sh e)))
 |_=>none
def qiR {D:Addr->Prop} {A:Nat->Option Addr} {G:Gp} {i:Nat}:Ex (rs (AD D A) G) (rs (AD D (Er A i)) G):=jQ λb z=>by
 rcases z with z|⟨j,z⟩
 ·exact .inl z
 ·exact .inr ⟨j,(RE z).1⟩
def qqe {t:TA3} (a:PuA t) (i j:Nat) (m:List Bool) (hm:Tru (a.fv.all (mkb m))):PuS (jU i j t):=⟨λ_ ρ=>(a.f ρ).bind λds=>qeh i j m ds ρ,λ{D G0 A τ ρ G n o e} h hf k=>by
 obtain ⟨ds,e1,hf⟩:=obb hf;refine a.ok (h.viewD hm) (h.dem m).dom e1 λx G1 E1 D1=>?_;unfold qeh at hf;split at hf
 ·cases D1 with
  |cons a b=>cases b with
   |cons b c=>
    cases c;split at hf
    ·rename_i hs;cases hf;rw [Bool.and_eq_true] at hs;exact k _ _ _ (((h.up E1).put i (XR a hs.1)).put j (XR b hs.2))
    ·cases hf;exact k _ _ _ ((((h.dem m).up E1).put i a).put j (b.up qiR))
 ·cases hf⟩
def slot (ρ:Rho) (i:Nat):Option (List PyData):=match ρ[i]? with|some (.ow ds)=>some ds|_=>none
def qhf {ρ:Rho} {i:Nat} {ds:List PyData} (h:slot ρ i=some ds):ρ[i]?=some (.ow ds):=by
 unfold slot at h;split at h
 ·rename_i e;cases h;exact e
 ·cases h
def dmS (m:List Bool) (d:PyData) (ρ:Rho):Rho:=if qfm d then ρ else dm m ρ
def RS.evalS {D:Addr->Prop} {G0 G:Gp} {A:Nat->Option Addr} {τ:St3} {ρ:Rho} (h:RS D G0 A τ ρ G) {t:TE3} (a:PuE t) (m:List Bool) (hm:Tru (a.fv.all (mkb m))) {d:PyData} (hf:a.f ρ=some d):∃ A1,RS D G0 A1 τ (dmS m d ρ) G/\∀ q:Q3,(∀ x G',Ex G G'->Dq (rs (AD D A1) G') x d->q x G')->t τ G q:=by
 unfold dmS;by_cases hs:qfm d=true
 ·rw [if_pos hs];exact ⟨A,h,λq k=>a.ok (h.viewAll _) h.domD hf λx G1 E1 D1 _=>k x G1 E1 (XR D1 hs)⟩
 ·rw [if_neg hs];exact ⟨Ad m A,h.dem m,λq k=>a.ok (h.viewD hm) (h.dem m).dom hf λx G1 E1 D1 _=>k x G1 E1 D1⟩
def ql2 (i:Nat) (d:PyData) (ρ:Rho):Option Ot:=match d with|.list es=>(slot ρ i).bind λds=>cif (ds.length+es.length<=sizeLine) (some (.nx (ρ.set i (.ow (ds++es))))) none|_=>none
def qn4 {t:TE3} (a:PuE t) (i:Nat) (m:List Bool) (hm:Tru (a.fv.all (mkb m))):PuS (zw (bm3 JF (v3 i) (qb t qh))):=⟨λ_ ρ=>(a.f ρ).bind λd=>ql2 i d (dmS m d ρ),λ{D G0 A τ ρ G n o e} h hf k=>by
 obtain ⟨d,e1,hf⟩:=obb hf;obtain ⟨A1,h1,ev⟩:=h.evalS a m hm e1;unfold ql2 at hf;split at hf
 ·obtain ⟨ds,e2,hf⟩:=obb hf;unfold cif at hf;split at hf
  ·rename_i hl;cases hf;obtain ⟨p,xs,b,c,g,f⟩:=h1.ow i _ (qhf e2);simp only [zw,bm3,v3,c,j0 g];refine ⟨rfl,ev _ λx G1 E1 D1=>?_⟩;cases D1 with
   |lst g2 hs2=>
    simp only [qh,JF,E1 _ _ g,(zc g2).2];exact ⟨by rw [f.length,hs2.length];exact hl,k _ _ _ ((h1.up E1).wr b c ((f.up (Q6 E1)).append hs2))⟩
  ·cases hf
 ·cases hf⟩
def X9 (gf:PyData->Option (List (Nat×PyData))) (bf:Rho->Option Ot):List PyData->Rho->Option Ot
 |[],ρ=>some (.nx ρ)
 |d::r,ρ=>(gf d).bind λbs=>(bf (ZG ρ bs)).bind λo=>match o with
  |.nx ρ'=>X9 gf bf r ρ'
  |.ct ρ'=>X9 gf bf r ρ'
  |.bk ρ'=>some (.nx ρ')
  |.rt d b=>some (.rt d b)
def qat {stay:Gp->Prop} {g:TG3} {tb:TS3} {e:Ends3} (pg:PuG g) (pb:PuS tb) {D:Addr->Prop} {G0:Gp} {n:Nat} {o:Ot} {items0:List T} (hs:∀ A τ ρ G,RS D G0 A τ ρ G->stay G) (k:qjx D G0 e o) :
  ∀ (ds:List PyData) (items:List T),(∀ A τ ρ G,RS D G0 A τ ρ G->Dqs (rs (AD D A) G) items ds)->∀ A τ ρ G,RS D G0 A τ ρ G->X9 pg.f (pb.f n) ds ρ=some o->KT stay g tb e items τ G
 |[],items,hi,A,τ,ρ,G,h,hf=>by
  cases hf;have:=hi _ _ _ _ h;cases this;exact ⟨hs _ _ _ _ h,k _ _ _ h⟩
 |d::ds,items,hi,A,τ,ρ,G,h,hf=>by
  have hh:=hi _ _ _ _ h;cases hh with
  |cons hx hr=>
   rename_i x items;unfold X9 at hf;obtain ⟨bs,e1,hf⟩:=obb hf;obtain ⟨o1,e2,hf⟩:=obb hf;obtain ⟨ts,bd,kg⟩:=pg.ok hx e1;refine ⟨hs _ _ _ _ h,kg _ _ _ ?_⟩;obtain ⟨A',h'⟩:=h.puts bd;refine pb.ok h' e2 ?_;have hi':∀ A τ ρ G,RS D G0 A τ ρ G->Dqs (rs (AD D A) G) items ds:=λA τ ρ G h=>by
    have:=hi _ _ _ _ h;cases this with
    |cons a b=>exact b
   cases o1 with
   |nx ρ'=>exact λA2 τ2 G2 h2=>qat (items0:=items0) pg pb hs k ds items hi' _ _ _ _ h2 hf
   |ct ρ'=>exact λA2 τ2 G2 h2=>qat (items0:=items0) pg pb hs k ds items hi' _ _ _ _ h2 hf
   |bk ρ'=>cases hf;exact k
   |rt d fr=>cases hf;exact k
def qns (pi:Rho->Option (List PyData)) (nm:Bool) (m:List Bool) (gf:PyData->Option (List (Nat×PyData))) (bf:Nat->Rho->Option Ot) (n:Nat) (ρ:Rho):Option Ot:=(pi ρ).bind λds=>X9 gf (bf n) ds (if nm then ρ else dm m ρ)
def qhR {wi:TI3} {g:TG3} {tb:TS3} (pi:PuI wi) (pg:PuG g) (pb:PuS tb) (m:List Bool) (hm:Tru (pi.fv.all (mkb m))):PuS (XY wi g tb):=⟨qns pi.f pi.nm m pg.f pb.f,λ{D G0 A τ ρ G n o e} h hf k=>by
 unfold qns at hf;obtain ⟨ds,e1,hf⟩:=obb hf;refine pi.ok (h.viewD hm) (h.dem m).dom e1 λitems stay G1 E1 D1 hs hnm=>?_;cases hb:pi.nm with
 |true=>
  rw [hb,if_pos rfl] at hf;obtain ⟨ns,rfl⟩:=hnm hb;have:=D1.ints;subst this;exact qat (items0:=[]) pg pb (λ_ _ _ _ _=>hs _ (.inl hb)) k _ _ (λA τ ρ G _=>Dqs.ofInts _) _ _ _ _ (h.up E1) hf
 |false=>
  rw [hb,if_neg Bool.false_ne_true] at hf;have h1:=(h.dem m).up E1;have b1:Ex G0 (rs (λb=>∃ i,Ad m A i=some b) G1):=λb o e=>by
   rw [QZ]
   ·exact h1.ex _ _ e
   ·rintro ⟨i,z⟩;rw [h1.fr i _ z] at e;cases e
  have h2:RS D (rs (λb=>∃ i,Ad m A i=some b) G1) (Ad m A) τ (dm m ρ) G1:=⟨UW,h.dm.up b1,λi p z=>by unfold rs;exact jt ⟨i,z⟩,h1.da,h1.inj,h1.len,h1.sh,h1.ow⟩
  have X:∀ A2 τ2 ρ2 G2,RS D (rs (λb=>∃ i,Ad m A i=some b) G1) A2 τ2 ρ2 G2->Ex (rs (AD D (Ad m A)) G1) (rs (AD D A2) G2):=λA2 τ2 ρ2 G2 r b o e=>by
   obtain ⟨n1,e⟩:=zc e;have eb:rs (λb=>∃ i,Ad m A i=some b) G1 b=some o:=by rw [QZ (λz=>n1 (.inr z))];exact e
   rw [QZ]
   ·exact r.ex _ _ eb
   ·rintro (z|⟨i,z⟩)
    ·exact n1 (.inl z)
    ·rw [r.fr i _ z] at eb;cases eb
  exact qat (items0:=[]) pg pb (λA2 τ2 ρ2 G2 r=>hs _ (.inr ((X _ _ _ _ r).trans UW))) (k.base b1 h.dm) _ _ (λA2 τ2 ρ2 G2 r=>D1.up (X _ _ _ _ r)) _ _ _ _ h2 hf⟩
def ER (fr:Bool):Option Ot->Option PyData
 |some (.rt d b)=>if fr=true/\b=false then (match d with|.none=>some .none|_=>none) else some d
 |some (.nx _)=>if fr then none else some .none
 |_=>none
def st (ds:List PyData) (N:Nat):Rho:=ds.map Sl.sh++List.replicate (N-ds.length) .un
def run (f:Nat->Rho->Option Ot) (k N n:Nat) (fr:Bool) (ds:List PyData):Option PyData:=if ds.length=k then ER fr (f n (st ds N)) else none
def zS {t:TS3} (b:PuS t) (N:List Str) (k n:Nat) (fr:Bool):∀ ts G q,PSp (run b.f k N.length n fr) fr ts G q->ts.length=k/\t { nx:=λ_ G'=>q .non G',rt:=q } (qm N ts) G:=by
 rintro ts G q ⟨D,ds,d,hs,hd,hf,h⟩;unfold run at hf;split at hf
 ·rename_i hk;refine ⟨by rw [hs.length];exact hk,?_⟩;have r:RS D G (λ_=>none) (qm N ts) (st ds N.length) G:=by
   refine ⟨Ex.refl,hd,(λi p e=>by cases e),(λi p e=>by cases e),(λi j p e=>by cases e),(by simp [st,qm,hs.length]),λi d' e=>?_,λi es e=>?_⟩
   ·unfold st at e;unfold qm;by_cases hi:i<ds.length
    ·rw [List.getElem?_append_left (by simpa using hi),getElem?_map] at e;obtain ⟨d2,e3,e4⟩:=Option.map_eq_some_iff.mp e;cases e4;obtain ⟨x,e5,hx⟩:=hs.get e3;refine ⟨x,?_,hx.up (jQ λb z=>?_)⟩
     ·rw [List.getElem?_append_left (by simp [hs.length];exact hi),getElem?_map,e5];rfl
     ·rcases z with z|⟨i,z⟩
      ·exact z
      ·cases z
    ·rw [List.getElem?_append_right (by simpa using hi),List.getElem?_replicate] at e;split at e<;>cases e
   ·unfold st at e;by_cases hi:i<ds.length
    ·rw [List.getElem?_append_left (by simpa using hi),getElem?_map] at e;obtain ⟨d2,e3,e4⟩:=Option.map_eq_some_iff.mp e;cases e4
    ·rw [List.getElem?_append_right (by simpa using hi),List.getElem?_replicate] at e;split at e<;>cases e
  unfold ER at hf;split at hf
  ·rename_i d' b' e;split at hf
   ·split at hf
    ·cases hf;exact b.ok r e λx G' a c z=>h x G' a c λ_=>.inl rfl
    ·cases hf
   ·rename_i hb;cases hf;exact b.ok r e λx G' a c z=>h x G' a c λw=>z (by
     cases b' with
     |true=>rfl
     |false=>exact absurd ⟨w,rfl⟩ hb)
  ·rename_i ρ' e;split at hf
   ·cases hf
   ·rename_i hb;cases hf;exact b.ok r e λA τ G' r'=>h .non G' r'.ex .non λw=>absurd w hb
  ·cases hf
 ·cases hf
mutual
def tD:T->Option PyData
 |.non=>some .none|.bl b=>some (.bool b)|.int i=>some (.int i)|.str x=>some (.str x)|.tup xs=>(tDs xs).map .tuple|.ref _=>none
def tDs:List T->Option (List PyData)
 |[]=>some []
 |x::r=>(tD x).bind λd=>(tDs r).map (d::·)
end
mutual
def qlj {G:Gp}:∀ (t:T) {d:PyData},tD t=some d->Dq G t d
 |.non,_,h=>by cases h;exact .non
 |.bl b,_,h=>by cases h;exact .bl b
 |.int b,_,h=>by cases h;exact .int b
 |.str b,_,h=>by cases h;exact .str b
 |.tup xs,_,h=>by
  unfold tD at h;obtain ⟨ds,e,rfl⟩:=Option.map_eq_some_iff.mp h;exact .tup (qgu xs e)
 |.ref _,_,h=>by cases h
def qgu {G:Gp}:∀ (t:List T) {d:List PyData},tDs t=some d->Dqs G t d
 |[],_,h=>by cases h;exact .nil
 |x::r,_,h=>by
  unfold tDs at h;obtain ⟨d,e,h⟩:=obb h;obtain ⟨ds,e2,rfl⟩:=Option.map_eq_some_iff.mp h;exact .cons (qlj x e) (qgu r e2)
end
def asS:PyData->Option Str
 |.str s=>some s
 |_=>none
def qeO {d:PyData} {b:Str} (h:asS d=some b):d=.str b:=by cases d<;>simp [asS] at h;subst h;rfl
def qjG (tab:List (Str×T)) {te:TE3} (a:PuE te):PuE (qew tab te):=⟨λρ=>((a.f ρ).bind asS).bind λs=>(jW tab s).bind tD,a.fv,false,λhv hd hf k=>by
 obtain ⟨s,e1,hf⟩:=obb hf;obtain ⟨d,e1,e2⟩:=obb e1;have:=qeO e2;subst this;obtain ⟨t,e3,hf⟩:=obb hf;refine a.ok hv hd e1 λx' G1 E1 D1 _=>?_;cases D1;simp only [e3];exact k _ _ E1 (qlj t hf) (λz=>by cases z)⟩
def qdY:List Str->List PyData->Str->Option PyData
 |k::ks,x::xs,s=>if k=s then some x else qdY ks xs s
 |_,_,_=>none
def qct {G:Gp}:∀ (ks:List Str) {xs:List T} {ds:List PyData} {s:Str} {d:PyData},Dqs G xs ds->qdY ks ds s=some d->∃ x,jW (ks.zip xs) s=some x/\Dq G x d
 |[],_,_,_,_,_,h=>by simp [qdY] at h
 |k::ks,_,_,_,_,.nil,h=>by simp [qdY] at h
 |k::ks,_,_,s,d,.cons a b,h=>by
  unfold qdY at h;simp only [List.zip_cons_cons,jW];split at h
  ·rename_i e;cases h;exact ⟨_,by rw [if_pos e],a⟩
  ·rename_i e;obtain ⟨x,h1,h2⟩:=qct ks b h;exact ⟨x,by rw [if_neg e];exact h1,h2⟩
def qlJ (ks:List Str) {t:TA3} {te:TE3} (a:PuA t) (b:PuE te):PuE (qhI ks t te):=⟨λρ=>(a.f ρ).bind λds=>((b.f ρ).bind asS).bind λs=>qdY ks ds s,a.fv++b.fv,false,λhv hd hf k=>by
 obtain ⟨ds,e1,hf⟩:=obb hf;obtain ⟨s,e2,hf⟩:=obb hf;obtain ⟨d,e2,e3⟩:=obb e2;have:=qeO e3;subst this;refine a.ok hv.l hd e1 λxs G1 E1 D1=>b.ok (hv.r.up E1) (hd.up E1) e2 λy G2 E2 D2 _=>?_;cases D2;obtain ⟨x,h1,h2⟩:=qct ks (D1.up (Q6 E2)) hf;simp only [h1];exact k _ _ (E1.trans E2) h2 (λz=>by cases z)⟩
def qqa {i:Nat}:(bV i).f=λρ=>vw ρ i:=id rfl
def qgW {i:Int}:(j4 i).f=λ_=>some (.int i):=id rfl
def qjX {i:Bool}:(bBl i).f=λ_=>some (.bool i):=id rfl
def qeM {i:Str}:(qiX i).f=λ_=>some (.str i):=id rfl
def qfa:qiw.f=λ_=>some .none:=id rfl
def qqv {r:R3} {ta tb:TE3} {R:OpD r} {a:PuE ta} {b:PuE tb}:(bO R a b).f=λρ=>(a.f ρ).bind λx=>(b.f ρ).bind λy=>R.f x y:=id rfl
def qfJ:qW.f=λ_=>some []:=id rfl
def qdn {ta:TE3} {tr:TA3} {a:PuE ta} {r:PuA tr}:(qi a r).f=λρ=>(a.f ρ).bind λx=>(r.f ρ).bind λxs=>some (x::xs):=id rfl
def qf2 {t:TA3} {a:PuA t} {hn:Tru (Nat.ble a.n 1000)}:(UZ a hn).f=λρ=>(a.f ρ).map .tuple:=id rfl
def qgv {t:TA3} {a:PuA t} {hn:Tru (Nat.ble a.n 1000)}:(qdB a hn).f=λρ=>(a.f ρ).map .list:=id rfl
def qbG {r:List T->Gp->Q3->Prop} {t:TA3} {R:FnD r} {a:PuA t}:(qV R a).f=λρ=>(a.f ρ).bind R.f:=id rfl
def qjd {t:TE3} {a:PuE t}:(bTb a).f=λρ=>(a.f ρ).bind asB:=id rfl
def qeP {t u:TT3} {a:PuC t} {b:PuC u}:(qqo a b).f=λρ=>(a.f ρ).bind λk=>if k then b.f ρ else some false:=id rfl
def qlz {t u:TT3} {a:PuC t} {b:PuC u}:(bOr a b).f=λρ=>(a.f ρ).bind λk=>if k then some true else b.f ρ:=id rfl
def qgs {t:TT3} {a:PuC t}:(qiq a).f=λρ=>(a.f ρ).map (! ·):=id rfl
def qmP:bTt.f=λ_=>some true:=id rfl
def qbE {ta tb:TE3} {a:PuE ta} {b:PuE tb}:(RH a b).f=λρ=>((a.f ρ).bind asB).bind λk=>if k then b.f ρ else some (.bool false):=id rfl
def qcl {ta:TE3} {a:PuE ta}:(qmN a).f=λρ=>((a.f ρ).bind asB).map λk=>.bool (!k):=id rfl
def qe0 {ta:TE3} {a:PuE ta}:(qdA a).f=λρ=>((a.f ρ).bind asI).map λi=>.int (-i):=id rfl
def qlm {r r':R3} {ta tb tc:TE3} {R:OpD r} {R':OpD r'} {a:PuE ta} {b:PuE tb} {c:PuE tc}:(bCh R R' a b c).f=λρ=>(a.f ρ).bind λx=>(b.f ρ).bind λy=>((R.f x y).bind asB).bind λk=>if k then (c.f ρ).bind λz=>R'.f y z else some (.bool false):=id rfl
def qeW {ta:TE3} {g:String->Bool} {a:PuE ta}:(qiW g a).f=λρ=>(a.f ρ).bind λd=>(tyD d).map λt=>.bool (g t):=id rfl
def qjf {t:TE3} {a:PuE t}:(bSp a).f=λρ=>((a.f ρ).bind asI).map some:=id rfl
def qjO {te:TE3} {tl th:TO3} {a:PuE te} {l:PuO tl} {h:PuO th}:(bSl a l h).f=λρ=>(a.f ρ).bind λd=>(l.f ρ).bind λlo=>(h.f ρ).bind λhi=>slD d lo hi:=id rfl
def qb8 {tab:List (Str×T)} {te:TE3} {a:PuE te}:(qjG tab a).f=λρ=>((a.f ρ).bind asS).bind λs=>(jW tab s).bind tD:=id rfl
def qcV {ks:List Str} {t:TA3} {te:TE3} {a:PuA t} {b:PuE te}:(qlJ ks a b).f=λρ=>(a.f ρ).bind λds=>((b.f ρ).bind asS).bind λs=>qdY ks ds s:=id rfl
def qjB {wi:TI3} {g:TG3} {tif:TT3} {te:TE3} {pi:PuI wi} {pg:PuG g} {pc:PuC tif} {pe:PuE te} {m:List (Option Nat)} {hm:Tru (pg.tg.all λi=>m[i]?==some none)}:(bLc pi pg pc pe m hm).f=lcF pi.f (lcH pg.f pc.f pe.f) m:=id rfl
def qgO {wi wi2:TI3} {g g2:TG3} {tif tif2:TT3} {te:TE3} {pi:PuI wi} {pg:PuG g} {pc:PuC tif} {pi2:PuI wi2} {pg2:PuG g2} {pc2:PuC tif2} {pe:PuE te} {m:List (Option Nat)} {hm:Tru (pg.tg.all λi=>m[i]?==some none)} {hm2:Tru (pg2.tg.all λi=>m[i]?==some none)} {hdj:Tru (pg2.tg.all λi=>!pg.tg.contains i)}:(qn6 pi pg pc pi2 pg2 pc2 pe m hm hm2 hdj).f=qkA pi.f (qnS pg.f pc.f pi2.f (lcH pg2.f pc2.f pe.f)) m:=id rfl
def qeL:NP.f=qic:=id rfl
def qft:qqs.f=qop:=id rfl
def qgp:qon.f=qn8:=id rfl
def qgN:qqL.f=qkE:=id rfl
def qdo:qbX.f=mnD:=id rfl
def qb1:qcM.f=mxD:=id rfl
def qbO {F:List PyData->Option PyData} {fr:Bool}:(ju F fr).f=F:=id rfl
def qlv {g:Int->Int->Int} {i j:Int}:(opI g).f (.int i) (.int j)=some (.int (g i j)):=id rfl
def qlB {g:Int->Int->Bool} {i j:Int}:(opB g).f (.int i) (.int j)=some (.bool (g i j)):=id rfl
def qn2 {C:Int->Int->Prop} {g:Int->Int->Int}:(opC C g).f=cI C g:=id rfl
def qfc {n:Bool}:(qav n).f=eqD n:=id rfl
def qbQ {n:Bool}:(qil n).f=qnE n:=id rfl
def qcA {n:Bool}:(qiQ n).f=qod n:=id rfl
def qc5 {n:Bool}:(qmu n).f=qoc n:=id rfl
def qeQ:VJ.f=ixD:=id rfl
def qdw:KJ.f=qiN:=id rfl
def qaI:qck.f=qnO:=id rfl
def qfU {t:TE3} {a:PuE t}:(qbd a).f=λρ=>(a.f ρ).bind qol:=id rfl
def qfl {t:TA3} {a:PuA t}:(LN a).f=λρ=>(a.f ρ).bind qhl:=id rfl
def qcq {t:TE3} {a:PuE t}:(qbd a).nm=false:=id rfl
def qco {t:TA3} {a:PuA t}:(LN a).nm=true:=id rfl
def qqr {i:Nat}:(gN i).f=λd=>some [(i,d)]:=id rfl
def qfS:K3.f []=some []:=id rfl
def qcE {t:TG3} {u:M2} {a:PuG t} {b:PuGs u} {d:PyData} {r:List PyData}:(jk a b).f (d::r)=(a.f d).bind λx=>(b.f r).map λy=>x++y:=id rfl
def qe1 {u:M2} {n:Nat} {b:PuGs u} {ds:List PyData}:(LW n b).f (.tuple ds)=if ds.length=n then b.f ds else none:=id rfl
def qdy:XZ.f=λ_ ρ=>some (.nx ρ):=id rfl
def qfn {t u:TS3} {a:PuS t} {b:PuS u}:(EF a b).f=qn5 a.f b.f:=id rfl
def qnu {c:TT3} {t u:TS3} {pc:PuC c} {a:PuS t} {b:PuS u}:(sIf pc a b).f=λn ρ=>(pc.f ρ).bind λk=>if k then a.f n ρ else b.f n ρ:=id rfl
def qga {t:TE3} {a:PuE t}:(WX a).f=λ_ ρ=>(a.f ρ).map λd=>.rt d a.nw:=id rfl
def qbH {i:Nat}:(qdP i).f=λ_ ρ=>qi2 ρ i:=id rfl
def qgo {t:TE3} {a:PuE t} {i:Nat} {m:List Bool} {hm:Tru (a.fv.all (mkb m))}:(qdD a i m hm).f=λ_ ρ=>(a.f ρ).map λd=>.nx (qbA m a.nw i d ρ):=id rfl
def qb5 {t:TE3} {g:TG3} {a:PuE t} {pg:PuG g} {m:List Bool} {hm:Tru (a.fv.all (mkb m))}:(N7 a pg m hm).f=λ_ ρ=>(a.f ρ).bind λd=>(pg.f d).map λbs=>.nx (ZG (dm m ρ) bs):=id rfl
def qfv {t:TA3} {a:PuA t} {i j:Nat} {m:List Bool} {hm:Tru (a.fv.all (mkb m))}:(qqe a i j m hm).f=λ_ ρ=>(a.f ρ).bind λds=>qeh i j m ds ρ:=id rfl
def qgf {t:TE3} {a:PuE t} {i:Nat} {m:List Bool} {hm:Tru (a.fv.all (mkb m))}:(qn4 a i m hm).f=λ_ ρ=>(a.f ρ).bind λd=>ql2 i d (dmS m d ρ):=id rfl
def qfT {wi:TI3} {g:TG3} {tb:TS3} {pi:PuI wi} {pg:PuG g} {pb:PuS tb} {m:List Bool} {hm:Tru (pi.fv.all (mkb m))}:(qhR pi pg pb m hm).f=qns pi.f pi.nm m pg.f pb.f:=id rfl
def qgA {i:Bool}:(bBl i).nw=false:=id rfl
def qbI:qiw.nw=false:=id rfl
def qmS {r:R3} {ta tb:TE3} {R:OpD r} {a:PuE ta} {b:PuE tb}:(bO R a b).nw=R.nw:=id rfl
def qdq {t:TA3} {a:PuA t} {hn:Tru (Nat.ble a.n 1000)}:(UZ a hn).nw=false:=id rfl
def qcN {t:TA3} {a:PuA t} {hn:Tru (Nat.ble a.n 1000)}:(qdB a hn).nw=true:=id rfl
def qaZ {r:List T->Gp->Q3->Prop} {t:TA3} {R:FnD r} {a:PuA t}:(qV R a).nw=R.nw:=id rfl
def qaA {F:List PyData->Option PyData} {fr:Bool}:(ju F fr).nw=fr:=id rfl
def qan {ta tb:TE3} {a:PuE ta} {b:PuE tb}:(RH a b).nw=false:=id rfl
def qfI {wi:TI3} {g:TG3} {tif:TT3} {te:TE3} {pi:PuI wi} {pg:PuG g} {pc:PuC tif} {pe:PuE te} {m:List (Option Nat)} {hm:Tru (pg.tg.all λi=>m[i]?==some none)}:(bLc pi pg pc pe m hm).nw=true:=id rfl
def qcp {wi wi2:TI3} {g g2:TG3} {tif tif2:TT3} {te:TE3} {pi:PuI wi} {pg:PuG g} {pc:PuC tif} {pi2:PuI wi2} {pg2:PuG g2} {pc2:PuC tif2} {pe:PuE te} {m:List (Option Nat)} {hm:Tru (pg.tg.all λi=>m[i]?==some none)} {hm2:Tru (pg2.tg.all λi=>m[i]?==some none)} {hdj:Tru (pg2.tg.all λi=>!pg.tg.contains i)}:(qn6 pi pg pc pi2 pg2 pc2 pe m hm hm2 hdj).nw=true:=id rfl
def qcg:qon.nw=true:=id rfl
def qcn:VJ.nw=false:=id rfl
def qap:KJ.nw=false:=id rfl
def MN:qck.nw=true:=id rfl
def qqh {s:Sl} {r:Rho}:vw (s::r) 0=s.d:=id rfl
def qqm {s:Sl} {r:Rho} {i:Nat}:vw (s::r) (i+1)=vw r i:=id rfl
def qnX {d:PyData}:(Sl.sh d).d=some d:=id rfl
def qm7 {ds:List PyData}:(Sl.ow ds).d=some (.list ds):=id rfl
def qcU {r:Rho} {ds:List PyData}:qi2 (.ow ds::r) 0=some (.rt (.list ds) true):=id rfl
def qfo {s:Sl} {r:Rho} {i:Nat}:qi2 (s::r) (i+1)=qi2 r i:=id rfl
def qnL {xs:List PyData} {i:Int}:ixD (.tuple xs) (.int i)=L2.atI xs i:=id rfl
def qke {xs:List PyData} {i:Int}:ixD (.list xs) (.int i)=L2.atI xs i:=id rfl
def at0 {α:Type} {a:α} {r:List α}:L2.atI (a::r) 0=some a:=by simp [L2.atI,ixN]
def at1 {α:Type} {a b:α} {r:List α}:L2.atI (a::b::r) 1=some b:=by
 have h:ixN (a::b::r).length 1=some 1:=by unfold ixN;rw [if_pos (by omega),if_pos (by simp;omega)];rfl
 unfold L2.atI;rw [h];rfl
def at2 {α:Type} {a b c:α} {r:List α}:L2.atI (a::b::c::r) 2=some c:=by
 have h:ixN (a::b::c::r).length 2=some 2:=by unfold ixN;rw [if_pos (by omega),if_pos (by simp;omega)];rfl
 unfold L2.atI;rw [h];rfl
def at3 {α:Type} {a b c d:α} {r:List α}:L2.atI (a::b::c::d::r) 3=some d:=by
 have h:ixN (a::b::c::d::r).length 3=some 3:=by unfold ixN;rw [if_pos (by omega),if_pos (by simp;omega)];rfl
 unfold L2.atI;rw [h];rfl
def atN {α:Type} {xs:List α} {k:Nat} (h:k<xs.length):L2.atI xs (k:Int)=xs[k]?:=by
 have e:ixN xs.length (k:Int)=some k:=by unfold ixN;rw [if_pos (by omega),if_pos (by omega)];rfl
 unfold L2.atI;rw [e];rfl
def eqS {n:Bool} {a b:Str}:eqD n (.str a) (.str b)=some (.bool (if n then !decide (a=b) else decide (a=b))):=id rfl
def eqI {n:Bool} {a b:Int}:eqD n (.int a) (.int b)=some (.bool (if n then !decide (a=b) else decide (a=b))):=id rfl
def eqB {n:Bool} {a b:Bool}:eqD n (.bool a) (.bool b)=some (.bool (if n then !decide (a=b) else decide (a=b))):=id rfl
def qnj {n:Bool}:qnE n .none .none=some (.bool !n):=id rfl
def qlr {n:Bool} {xs:List PyData}:qnE n (.tuple xs) .none=some (.bool n):=id rfl
def qnt {C:Int->Int->Prop} {g:Int->Int->Int} {i j:Int} (h:C i j):cI C g (.int i) (.int j)=some (.int (g i j)):=by simp only [cI];exact jt h
def qlA {i j:Int} (h:-1000000<j/\j<1000000):cI Q7 (·*·) (.int i) (.int j)=some (.int (i*j)):=qnt (.inr ⟨by omega,by omega⟩)
def KQ {i j:Int} (h:-1000000<i/\i<1000000):cI Q7 (·*·) (.int i) (.int j)=some (.int (i*j)):=qnt (.inl ⟨by omega,by omega⟩)
def qqG {i j:Int}:qiN (.int i) (.int j)=some (.int (i+j)):=id rfl
def qbB {j:Int} (h:-1000000000<=j/\j<1000000000):qhl [.int j]=some ((jY 0 j.toNat).map PyData.int):=by simp only [qhl];exact jt ⟨by omega,by omega⟩
def qiE {i j:Int} (h:-1000000000<=i/\i<1000000000/\-1000000000<=j/\j<1000000000):qhl [.int i,.int j]=some ((jY i (j-i).toNat).map PyData.int):=by simp only [qhl];exact jt ⟨by omega,by omega,by omega,by omega⟩
def ZQ {pi:Rho->Option (List PyData)} {h:Rho->PyData->Option (Option PyData)} {m:List (Option Nat)} {ρ:Rho} {ds fs:List PyData} (h1:pi ρ=some ds) (h2:lcP (h (M1 m ρ)) ds=some fs) (h3:fs.length<=16777216):lcF pi h m ρ=some (.list fs):=by unfold lcF;rw [h1];simp only [Option.bind_some,h2];exact jt h3
def qcc {pi:Rho->Option (List PyData)} {h:Rho->PyData->Option (Option (List PyData))} {m:List (Option Nat)} {ρ:Rho} {ds fs:List PyData} (h1:pi ρ=some ds) (h2:qhX (h (M1 m ρ)) ds=some fs) (h3:fs.length<=16777216):qkA pi h m ρ=some (.list fs):=by unfold qkA;rw [h1];simp only [Option.bind_some,h2];exact jt h3
def qd2 {gf:PyData->Option (List (Nat×PyData))} {bf:Rho->Option Ot} {α:Type} {g:α->PyData} (xs:List α) (I:Nat->Rho->Prop) {ρ:Rho} (h0:I 0 ρ)
  (hs:∀ i x ρ,xs[i]?=some x->I i ρ->∃ bs ρ',gf (g x)=some bs/\(bf (ZG ρ bs)=some (.nx ρ')\/bf (ZG ρ bs)=some (.ct ρ'))/\I (i+1) ρ'):∃ ρ',X9 gf bf (xs.map g) ρ=some (.nx ρ')/\I xs.length ρ':=by
 have key:∀ (r:List α) (i:Nat) (ρ:Rho),xs.drop i=r->i<=xs.length->I i ρ->∃ ρ',X9 gf bf (r.map g) ρ=some (.nx ρ')/\I xs.length ρ':=by
  intro r;induction r with
  |nil=>
   intro i ρ e hi h;have:i=xs.length:=by
    have:=congrArg List.length e;simp at this;omega
   subst this;exact ⟨ρ,rfl,h⟩
  |cons x r ih=>
   intro i ρ e hi h;have hl:i<xs.length:=by
    have:=congrArg List.length e;simp at this;omega
   have e':=List.drop_eq_getElem_cons hl;rw [e] at e';injection e' with e1 e2;obtain ⟨bs,ρ',h1,h2,h3⟩:=hs i x ρ (by rw [getElem?_eq_getElem hl,e1]) h;obtain ⟨ρ2,h4,h5⟩:=ih (i+1) ρ' e2.symm hl h3;refine ⟨ρ2,?_,h5⟩;simp only [map_cons,X9,h1,Option.bind_some];rcases h2 with h2|h2<;>(rw [h2];exact h4)
 exact key xs 0 ρ (by simp) (Nat.zero_le _) h0
def qbT {gf:PyData->Option (List (Nat×PyData))} {bf:Rho->Option Ot} {α:Type} {g:α->PyData} (xs:List α) (n:Nat) (x:α) (hn:xs[n]?=some x) (I:Nat->Rho->Prop) {ρ:Rho} {o:Ot} (h0:I 0 ρ)
  (hs:∀ i x ρ,i<n->xs[i]?=some x->I i ρ->∃ bs ρ',gf (g x)=some bs/\(bf (ZG ρ bs)=some (.nx ρ')\/bf (ZG ρ bs)=some (.ct ρ'))/\I (i+1) ρ')
  (he:∀ ρ,I n ρ->∃ bs,gf (g x)=some bs/\((∃ d b,o=.rt d b/\bf (ZG ρ bs)=some (.rt d b))\/∃ ρ',o=.nx ρ'/\bf (ZG ρ bs)=some (.bk ρ'))):X9 gf bf (xs.map g) ρ=some o:=by
 have hl:=(List.getElem?_eq_some_iff.mp hn).1;have key:∀ (k i:Nat) (ρ:Rho),i+k=n->I i ρ->X9 gf bf ((xs.drop i).map g) ρ=some o:=by
  intro k;induction k with
  |zero=>
   intro i ρ e h;have:i=n:=by omega
   subst this;obtain ⟨bs,h1,h2⟩:=he ρ h;rw [List.drop_eq_getElem_cons hl];have ex:xs[i]=x:=by
    rw [getElem?_eq_getElem hl] at hn;exact Option.some.inj hn
   rw [ex];simp only [map_cons,X9,h1,Option.bind_some];rcases h2 with ⟨d,b,rfl,h2⟩|⟨ρ',rfl,h2⟩<;>(rw [h2];rfl)
  |succ k ih=>
   intro i ρ e h;have hi:i<xs.length:=by omega
   obtain ⟨bs,ρ',h1,h2,h3⟩:=hs i xs[i] ρ (by omega) (getElem?_eq_getElem hi) h;rw [List.drop_eq_getElem_cons hi];simp only [map_cons,X9,h1,Option.bind_some];rcases h2 with h2|h2<;>(rw [h2];exact ih (i+1) ρ' (by omega) h3)
 exact key n 0 ρ (by omega) h0
def sqk (b:Nat->Rho->Option Ot) (n:Nat) (o:Ot):Option Ot:=match o with|.nx ρ'=>b n ρ'|o=>some o
def qgi {a b:Nat->Rho->Option Ot} {n:Nat} {ρ:Rho}:qn5 a b n ρ=(a n ρ).bind (sqk b n):=id rfl
def qgq {b:Nat->Rho->Option Ot} {n:Nat} {ρ:Rho}:sqk b n (.nx ρ)=b n ρ:=id rfl
def qfq {b:Nat->Rho->Option Ot} {n:Nat} {d:PyData} {f:Bool}:sqk b n (.rt d f)=some (.rt d f):=id rfl
def qc4 {d:PyData}:ER true (some (.rt d true))=some d:=id rfl
def qgD {d:PyData} {b:Bool}:ER false (some (.rt d b))=some d:=by simp [ER]
def qmX {b:Bool}:asB (.bool b)=some b:=id rfl
def qjc {b:Int}:asI (.int b)=some b:=id rfl
def qmG {b:Str}:asS (.str b)=some b:=id rfl
def qfM {xs:List PyData}:qic [.tuple xs]=some (.int xs.length):=id rfl
def qeK {xs:List PyData}:qic [.list xs]=some (.int xs.length):=id rfl
def qeV {i:Bool}:qop [.bool i]=some (.int (if i then 1 else 0)):=id rfl
def qe3 {xs:List PyData}:qn8 [.tuple xs]=some (.list xs):=id rfl
def qbJ {xs:List Bool}:qkE [.list (xs.map PyData.bool)]=some (.bool (xs.all id)):=by simp only [qkE,qep,Option.map_some]
def qec {xs:List Int} (h:xs≠[]):mnD [.list (xs.map PyData.int)]=some (.int (mn xs)):=by simp only [mnD,L9,Option.bind_some];exact jt h
def qd6 {xs:List Int} (h:xs≠[]):mxD [.list (xs.map PyData.int)]=some (.int (mx xs)):=by simp only [mxD,L9,Option.bind_some];exact jt h
def qf1 {xs:List PyData}:qol (.list xs)=some xs:=id rfl
def qnN {i:Int}:tyD (.int i)=some "int" := id rfl
def qj2 {i:Bool}:tyD (.bool i)=some "bool" := id rfl
def qkl:tyD .none=some "NoneType" := id rfl
def qmO {i:List PyData}:tyD (.tuple i)=some "tuple" := id rfl
def qf3 {n a b:Bool}:qod n (.bool a) (.bool b)=some (.bool (if n then a != b else a==b)):=id rfl
def qnw {m:List Bool} {nw:Bool} {i:Nat} {v:Bool} {ρ:Rho}:qbA m nw i (.bool v) ρ=ρ.set i (.sh (.bool v)):=id rfl
def qmb {m:List Bool} {nw:Bool} {i:Nat} {v:Str} {ρ:Rho}:qbA m nw i (.str v) ρ=ρ.set i (.sh (.str v)):=id rfl
def qja {m:List Bool} {nw:Bool} {i:Nat} {ρ:Rho}:qbA m nw i .none ρ=ρ.set i (.sh .none):=id rfl
def qnH {m:List Bool} {nw:Bool} {i:Nat} {v:List PyData} {ρ:Rho}:qbA m nw i (.tuple v) ρ=(dm m ρ).set i (.sh (.tuple v)):=by cases nw<;>rfl
def qeY {m:List Bool} {i:Nat} {v:List PyData} {ρ:Rho}:qbA m true i (.list v) ρ=(dm m ρ).set i (.ow v):=id rfl
def qfx {m:List Bool} {i:Nat} {v:List PyData} {ρ:Rho}:qbA m false i (.list v) ρ=(dm m ρ).set i (.sh (.list v)):=id rfl
def qnh {m:List Bool} {v:List PyData} {ρ:Rho}:dmS m (.list v) ρ=dm m ρ:=id rfl
def qqx {ρ:Rho}:dm [] ρ=ρ:=id rfl
def qqc {m:List Bool} {s:Sl} {ρ:Rho}:dm (true::m) (s::ρ)=s.dem::dm m ρ:=id rfl
def qqD {m:List Bool} {s:Sl} {ρ:Rho}:dm (false::m) (s::ρ)=s::dm m ρ:=id rfl
def qkB {ds:List PyData}:(Sl.ow ds).dem=.sh (.list ds):=id rfl
def qnx {d:PyData}:(Sl.sh d).dem=.sh d:=id rfl
def qmz {ρ:Rho}:M1 [] ρ=[]:=id rfl
def qlG {m:List (Option Nat)} {ρ:Rho}:M1 (none::m) ρ=.un::M1 m ρ:=id rfl
def cp (o:Option PyData):Sl:=match o with|some d=>.sh d|none=>.un
def qmk {m:List (Option Nat)} {j:Nat} {ρ:Rho}:M1 (some j::m) ρ=cp (vw ρ j)::M1 m ρ:=id rfl
def qqd {d:PyData}:cp (some d)=.sh d:=id rfl
def qkg {i j:Nat} {m:List Bool} {x y:Int} {ρ:Rho}:qeh i j m [.int x,.int y] ρ=some (.nx ((ρ.set i (.sh (.int x))).set j (.sh (.int y)))):=id rfl
def qgw {pi:Rho->Option (List PyData)} {m:List Bool} {gf:PyData->Option (List (Nat×PyData))} {bf:Nat->Rho->Option Ot} {n:Nat} {ρ:Rho}:qns pi true m gf bf n ρ=(pi ρ).bind λds=>X9 gf (bf n) ds ρ:=id rfl
def qgV {pi:Rho->Option (List PyData)} {m:List Bool} {gf:PyData->Option (List (Nat×PyData))} {bf:Nat->Rho->Option Ot} {n:Nat} {ρ:Rho}:qns pi false m gf bf n ρ=(pi ρ).bind λds=>X9 gf (bf n) ds (dm m ρ):=id rfl
def qgG {ρ:Rho}:ZG ρ []=ρ:=id rfl
def qgn {ρ:Rho} {i:Nat} {d:PyData} {r:List (Nat×PyData)}:ZG ρ ((i,d)::r)=ZG (ρ.set i (.sh d)) r:=id rfl
def VF {gf:PyData->Option (List (Nat×PyData))} {cf:Rho->Option Bool} {ef:Rho->Option PyData} {ρ:Rho} {d:PyData}:lcH gf cf ef ρ d=(gf d).bind λbs=>(cf (ZG ρ bs)).bind λk=>if k then (ef (ZG ρ bs)).map some else some none:=id rfl
def qfR {gf:PyData->Option (List (Nat×PyData))} {cf:Rho->Option Bool} {it:Rho->Option (List PyData)} {h:Rho->PyData->Option (Option PyData)} {ρ:Rho} {d:PyData}:qnS gf cf it h ρ d=(gf d).bind λbs=>(cf (ZG ρ bs)).bind λk=>if k then ((it (ZG ρ bs)).bind λds=>lcP (h (ZG ρ bs)) ds).map some else some none:=id rfl
def Nx (o:Option Ot) (P:Rho->Prop):Prop:=match o with|some (.nx ρ)=>P ρ|some (.ct ρ)=>P ρ|_=>False
def qkP {ρ:Rho} {P:Rho->Prop}:Nx (some (.nx ρ)) P=P ρ:=id rfl
def ql7 {o:Option Ot} {P:Rho->Prop} (h:Nx o P):∃ ρ,(o=some (.nx ρ)\/o=some (.ct ρ))/\P ρ:=by
 unfold Nx at h;split at h
 ·exact ⟨_,.inl rfl,h⟩
 ·exact ⟨_,.inr rfl,h⟩
 ·exact h.elim
section
variable {gf:PyData->Option (List (Nat×PyData))} {bf:Rho->Option Ot} {α:Type} {g:α->PyData} {ρ:Rho} {Q:Option Ot->Prop} {F:Ot->Option Ot}
def KG (xs:List α) (I:Nat->Rho->Prop) (h0:I 0 ρ) (hs:∀ i x ρ,xs[i]?=some x->I i ρ->Nx ((gf (g x)).bind λbs=>bf (ZG ρ bs)) (I (i+1))) (k:∀ ρ',I xs.length ρ'->Q (some (.nx ρ'))):Q (X9 gf bf (xs.map g) ρ):=by
 obtain ⟨ρ',e,h⟩:=qd2 (gf:=gf) (bf:=bf) (g:=g) xs I h0 λi x ρ hx hi=>by
  obtain ⟨ρ2,e,h⟩:=ql7 (hs i x ρ hx hi);cases e1:gf (g x) with
  |none=>rw [e1] at e;rcases e with e|e<;>cases e
  |some bs=>rw [e1] at e;exact ⟨bs,ρ2,rfl,e,h⟩
 rw [e];exact k ρ' h
def KN (xs:List α) (I:Nat->Rho->Prop) (h0:I 0 ρ) (hs:∀ i x ρ,xs[i]?=some x->I i ρ->Nx ((gf (g x)).bind λbs=>bf (ZG ρ bs)) (I (i+1))) (k:∀ ρ',I xs.length ρ'->Q (F (.nx ρ'))):Q ((X9 gf bf (xs.map g) ρ).bind F):=
 KG (Q:=λo=>Q (o.bind F)) xs I h0 hs k
def XO (xs:List α) (n:Nat) (x:α) (d:PyData) (b:Bool) (hn:xs[n]?=some x) (I:Nat->Rho->Prop) (h0:I 0 ρ) (hs:∀ i x ρ,i<n->xs[i]?=some x->I i ρ->Nx ((gf (g x)).bind λbs=>bf (ZG ρ bs)) (I (i+1))) (he:∀ ρ,I n ρ->((gf (g x)).bind λbs=>bf (ZG ρ bs))=some (.rt d b)) (k:Q (some (.rt d b))):Q (X9 gf bf (xs.map g) ρ):=by
 rw [qbT (gf:=gf) (bf:=bf) (g:=g) xs n x hn I h0 (λi x ρ hi hx hI=>by
  obtain ⟨ρ2,e,h⟩:=ql7 (hs i x ρ hi hx hI);cases e1:gf (g x) with
  |none=>rw [e1] at e;rcases e with e|e<;>cases e
  |some bs=>rw [e1] at e;exact ⟨bs,ρ2,rfl,e,h⟩) (o:=.rt d b) λρ hI=>by
  have:=he ρ hI;cases e1:gf (g x) with
  |none=>rw [e1] at this;cases this
  |some bs=>rw [e1] at this;exact ⟨bs,rfl,.inl ⟨d,b,rfl,this⟩⟩]
 exact k
def qiF (xs:List α) (n:Nat) (x:α) (d:PyData) (b:Bool) (hn:xs[n]?=some x) (I:Nat->Rho->Prop) (h0:I 0 ρ) (hs:∀ i x ρ,i<n->xs[i]?=some x->I i ρ->Nx ((gf (g x)).bind λbs=>bf (ZG ρ bs)) (I (i+1))) (he:∀ ρ,I n ρ->((gf (g x)).bind λbs=>bf (ZG ρ bs))=some (.rt d b)) (k:Q (F (.rt d b))):Q ((X9 gf bf (xs.map g) ρ).bind F):=
 XO (Q:=λo=>Q (o.bind F)) xs n x d b hn I h0 hs he k
end
def KY {α:Type} {us:List α} (h:us.length=1):∃ a0,us=[a0]:=List.length_eq_one_iff.mp h
def M3 {α:Type} {us:List α} (h:us.length=2):∃ a0 a1,us=[a0,a1]:=by
 obtain ⟨a0,r,rfl⟩:=List.exists_cons_of_length_pos (show 0<us.length by omega);obtain ⟨a1,rfl⟩:=KY (show r.length=1 by simpa using h);exact ⟨a0,a1,rfl⟩
def qbF {α:Type} {us:List α} (h:us.length=3):∃ a0 a1 a2,us=[a0,a1,a2]:=by
 obtain ⟨a0,r,rfl⟩:=List.exists_cons_of_length_pos (show 0<us.length by omega);obtain ⟨a1,a2,rfl⟩:=M3 (show r.length=2 by simpa using h);exact ⟨a0,a1,a2,rfl⟩
def qqN {α:Type} {us:List α} (h:us.length=4):∃ a0 a1 a2 a3,us=[a0,a1,a2,a3]:=by
 obtain ⟨a0,r,rfl⟩:=List.exists_cons_of_length_pos (show 0<us.length by omega);obtain ⟨a1,a2,a3,rfl⟩:=qbF (show r.length=3 by simpa using h);exact ⟨a0,a1,a2,a3,rfl⟩
end Pu
namespace Pv
open PySem L2 L3 Pu
def CG:PuS (Bk.CJ):=(WX (bLc (LN (qi (bV 2) qW)) (gN 0) bTt (UZ (qi (bO (opC Q7 (·*·)) (bV 0) (bV 1)) (qi (bO (opC Q7 (·*·)) (bV 0) (bV 2)) qW)) ⟨rfl⟩) [none,some 0,some 1] ⟨rfl⟩))
def jd:List PyData->Option PyData:=run (CG).f 3 3 1000000000 true
def qcb:∀ ts G q,PSp (jd) true ts G q->ts.length=3/\Bk.CJ { nx:=λ_ G'=>q .non G',rt:=q } (qm ["down","along","many"] ts) G:=zS (CG) ["down","along","many"] 3 1000000000 true
def qdj {x0 x1 x2:PyData}:jd [x0,x1,x2]=ER true ((CG).f 1000000000 [.sh x0,.sh x1,.sh x2]):=id rfl
def j5 (jd:List PyData->Option PyData):PuS (Bk.V8 (PSp jd true)):=(EF (qdD (bO VJ (bV 0) (j4 0)) 1 [true] ⟨rfl⟩) (EF (sIf (bTb (bO (qav false) (bV 1) (qiX "cells"))) (WX (qV qon (qi (bO VJ (bV 0) (j4 1)) qW))) XZ) (EF (sIf (bTb (bO (qav false) (bV 1) (qiX "block"))) (WX (qn6 (LN (qi (bO VJ (bV 0) (j4 1)) qW)) (gN 0) bTt (LN (qi (bO VJ (bV 2) (j4 2)) qW)) (gN 1) bTt (UZ (qi (bV 0) (qi (bV 1) qW)) ⟨rfl⟩) [none,none,some 0] ⟨rfl⟩ ⟨rfl⟩ ⟨rfl⟩)) XZ) (EF (sIf (bTb (bO (qav false) (bV 1) (qiX "step"))) (WX (qV (ju jd true) (qi (bO VJ (bV 0) (j4 1)) (qi (bO VJ (bV 0) (j4 2)) (qi (bO VJ (bV 0) (j4 3)) qW))))) XZ) (EF (N7 (qjG DG (bV 1)) (LW 2 (jk (gN 2) (jk (gN 3) K3))) [false,true] ⟨rfl⟩) (WX (qV (ju jd true) (qi (bV 2) (qi (bV 3) (qi (bO VJ (bV 0) (j4 1)) qW))))))))))
def zj:List PyData->Option PyData:=run (j5 jd).f 1 4 1000000000 true
def NM:∀ ts G q,PSp (zj) true ts G q->ts.length=1/\Bk.V8 (PSp jd true) { nx:=λ_ G'=>q .non G',rt:=q } (qm ["walk","kind","down","along"] ts) G:=zS (j5 jd) ["walk","kind","down","along"] 1 1000000000 true
def J0 {x0:PyData}:zj [x0]=ER true ((j5 jd).f 1000000000 [.sh x0,.un,.un,.un]):=id rfl
def QY:PuS (Bk.Q4):=(EF (qhR (LN (qi (qV NP (qi (bV 0) qW)) qW)) (gN 1) (qhR (LN (qi (bO KJ (bV 1) (j4 1)) (qi (qV NP (qi (bV 0) qW)) qW))) (gN 2) (sIf (bTb (bO (qav false) (bO VJ (bV 0) (bV 1)) (bO VJ (bV 0) (bV 2)))) (WX (UZ (qi (bV 1) (qi (bV 2) qW)) ⟨rfl⟩)) XZ) [true,true] ⟨rfl⟩) [true] ⟨rfl⟩) (WX qiw))
def zl:List PyData->Option PyData:=run (QY).f 1 3 1000000000 false
def SA:∀ ts G q,PSp (zl) false ts G q->ts.length=1/\Bk.Q4 { nx:=λ_ G'=>q .non G',rt:=q } (qm ["things","k","l"] ts) G:=zS (QY) ["things","k","l"] 1 1000000000 false
def SE {x0:PyData}:zl [x0]=ER false ((QY).f 1000000000 [.sh x0,.un,.un]):=id rfl
open Bk (Wk Dl jy jp JR lnD lnA)
def pD (p:Int×Int):PyData:=.tuple [.int p.1,.int p.2]
def Wk.d:Wk->PyData
 |.line k m=>.tuple [.str (JR k),.int m]
 |.block h w=>.tuple [.str "block",.int h,.int w]
 |.step d a m=>.tuple [.str "step",.int d,.int a,.int m]
 |.cells ps=>.tuple [.str "cells",.tuple (ps.map pD)]
def qi0 (r:List Int):PyData:=.tuple (r.map PyData.int)
def dlD:Dl->PyData
 |.skew r c b x y=>.tuple [.str "skew",.int r,.int c,.int b,.int x,.int y]
 |.rests r c b p=>.tuple [.str "rests",.int r,.int c,.int b,.int p]
 |.bits h l ms=>.tuple [.str "bits",.int h,.int l,.tuple (ms.map PyData.int)]
 |.table b cells=>.tuple [.str "table",.int b,.tuple (cells.map qi0)]
 |.joined d e=>.tuple [.str "joined",dlD d,dlD e]
def qcS (G:Gp):∀ (cs:List (List Int)),Dqs G (cs.map Bk.qam) (cs.map qi0)
 |[]=>.nil
 |r::cs=>.cons (.tup (Dqs.ofInts r)) (qcS G cs)
def qit (G:Gp):∀ (d:Dl),Dq G d.t (dlD d)
 |.skew r c b x y=>.tup (.cons (.str _) (.cons (.int _) (.cons (.int _) (.cons (.int _) (.cons (.int _) (.cons (.int _) .nil))))))
 |.rests r c b p=>.tup (.cons (.str _) (.cons (.int _) (.cons (.int _) (.cons (.int _) (.cons (.int _) .nil)))))
 |.bits h l ms=>.tup (.cons (.str _) (.cons (.int _) (.cons (.int _) (.cons (.tup (Dqs.ofInts ms)) .nil))))
 |.table b cells=>.tup (.cons (.str _) (.cons (.int _) (.cons (.tup (qcS G cells)) .nil)))
 |.joined d e=>.tup (.cons (.str _) (.cons (qit G d) (.cons (qit G e) .nil)))
def qaw (G:Gp):∀ (cs:List (Int×Int)),Dqs G (cs.map Bk.pT) (cs.map pD)
 |[]=>.nil
 |p::cs=>.cons (.tup (.cons (.int _) (.cons (.int _) .nil))) (qaw G cs)
def qp5 (G:Gp):∀ (w:Wk),Dq G w.t (Wk.d w)
 |.line k m=>.tup (.cons (.str _) (.cons (.int _) .nil))
 |.block h v=>.tup (.cons (.str _) (.cons (.int _) (.cons (.int _) .nil)))
 |.step d a m=>.tup (.cons (.str _) (.cons (.int _) (.cons (.int _) (.cons (.int _) .nil))))
 |.cells ps=>.tup (.cons (.str _) (.cons (.tup (qaw G ps)) .nil))
end Pv
namespace Pu
open PySem L2 L3
open Bk (Lf Ext)
section
variable {D:Addr->Prop} {a:Addr} {G G' G0:Gp} {n n':Nat} {fv gv:List Nat} {l:Nat} {τ:St3} {ρ:Rho}
def L0 (e:Ext a G G') (h:D a):Ex (rs D G) (rs D G'):=λb o x=>by
 obtain ⟨n,x⟩:=zc x;rw [QZ n];exact e b o (by rintro rfl;exact n h) x
def CP {k:Int} (h:Lf G a k):G a≠none:=by
 obtain ⟨o,c,m,e,_⟩:=h;rw [e];simp
def KI {k:Int} (hd:Dom D G) (e:Ext a G G') (lf:Lf G' a k):Dom D G':=λb hb z=>by
 by_cases h:b=a
 ·subst h;exact CP lf z
 ·cases g:G b with
  |none=>exact hd b hb g
  |some o=>rw [e b o h g] at z;cases z
def Nw.backx {x:T} {d:PyData} {k:Int} (h:Nw D G G' x d) (e:Ext a G0 G) (lf:Lf G a k):Nw D G0 G' x d:=by
 rcases h with h|⟨p,xs,ds,h1,h2,c,r⟩
 ·exact .inl h
 refine .inr ⟨p,xs,ds,h1,h2,?_,r⟩;cases z:G0 p with
 |none=>rfl
 |some o=>
  by_cases hp:p=a
  ·subst hp;exact absurd c (CP lf)
  ·rw [e p o hp z] at c;cases c
structure Ln (fv:List Nat) (l:Nat) (D:Addr->Prop) (G:Gp) (τ:St3) (ρ:Rho) (a:Addr) (n:Nat):Prop where
 v:SO fv D G τ ρ
 d:Dom D G
 da:D a
 tl:τ[l]?=some (some (.ref a))
 ul:vw ρ l=none
 lf:Lf G a n
def Ln.up (h:Ln fv l D G τ ρ a n) (e:Ext a G G') (lf:Lf G' a n'):Ln fv l D G' τ ρ a n':=
 ⟨λi hi d hd=>let ⟨t,x,y⟩:=h.v i hi d hd;⟨t,x,y.up (L0 e h.da)⟩,KI h.d e lf,h.da,h.tl,h.ul,lf⟩
def Ln.fst (h:Ln (fv++gv) l D G τ ρ a n):Ln fv l D G τ ρ a n:=⟨h.v.l,h.d,h.da,h.tl,h.ul,h.lf⟩
def Ln.snd (h:Ln (fv++gv) l D G τ ρ a n):Ln gv l D G τ ρ a n:=⟨h.v.r,h.d,h.da,h.tl,h.ul,h.lf⟩
end
abbrev QD:=PyData->Nat->Prop
structure PwE (l:Nat) (t:TE3) where
 w:Rho->Nat->QD->Prop
 fv:List Nat
 nw:Bool
 mono:∀ {ρ n} {Q Q':QD},w ρ n Q->(∀ d m,Q d m->Q' d m)->w ρ n Q'
 ok:∀ {D τ ρ G a n} {q:Q3} {Q:QD},Ln fv l D G τ ρ a n->w ρ n Q->(∀ x d G' n',Q d n'->Ext a G G'->Lf G' a n'->Dq (rs D G') x d->(nw=true->Nw D G G' x d)->q x G')->t τ G q
structure PwC (l:Nat) (t:TT3) where
 w:Rho->Nat->(Bool->Nat->Prop)->Prop
 fv:List Nat
 mono:∀ {ρ n} {Q Q':Bool->Nat->Prop},w ρ n Q->(∀ d m,Q d m->Q' d m)->w ρ n Q'
 ok:∀ {D τ ρ G a n} {q:Bool->Gp->Prop} {Q:Bool->Nat->Prop},Ln fv l D G τ ρ a n->w ρ n Q->(∀ k G' n',Q k n'->Ext a G G'->Lf G' a n'->q k G')->t τ G q
structure PwA (l:Nat) (t:TA3) where
 w:Rho->Nat->(List PyData->Nat->Prop)->Prop
 fv:List Nat
 k:Nat
 mono:∀ {ρ n} {Q Q':List PyData->Nat->Prop},w ρ n Q->(∀ d m,Q d m->Q' d m)->w ρ n Q'
 ok:∀ {D τ ρ G a n} {q:List T->Gp->Prop} {Q:List PyData->Nat->Prop},Ln fv l D G τ ρ a n->w ρ n Q->(∀ x d G' n',Q d n'->d.length=k->Ext a G G'->Lf G' a n'->Dqs (rs D G') x d->q x G')->t τ G q
structure PwI (l:Nat) (t:TI3) where
 w:Rho->Nat->(List PyData->Nat->Prop)->Prop
 fv:List Nat
 nm:Bool
 mono:∀ {ρ n} {Q Q':List PyData->Nat->Prop},w ρ n Q->(∀ d m,Q d m->Q' d m)->w ρ n Q'
 ok:∀ {D τ ρ G a n} {r:List T->(Gp->Prop)->Gp->Prop} {Q:List PyData->Nat->Prop},Ln fv l D G τ ρ a n->w ρ n Q ->
  (∀ items stay ds G' n',Q ds n'->Ext a G G'->Lf G' a n'->Dqs (rs D G') items ds->(∀ G'',(nm=true\/Ex (rs D G') G'')->stay G'')->(nm=true->∃ ns:List Int,ds=ns.map PyData.int)->r items stay G')->t τ G r
structure DrD (r:List T->Gp->Q3->Prop) where
 W:List PyData->Nat->QD->Prop
 nw:Bool
 mono:∀ {ds n} {Q Q':QD},W ds n Q->(∀ d m,Q d m->Q' d m)->W ds n Q'
 ok:∀ {D:Addr->Prop} {G:Gp} {a:Addr} {n:Nat} {ts:List T} {ds:List PyData} {q:Q3} {Q:QD},Lf G a n->D a->Dom D G->Dqs (rs D G) ts ds->W ds n Q->(∀ x d G' n',Q d n'->Ext a G G'->Lf G' a n'->Dq (rs D G') x d->(nw=true->Nw D G G' x d)->q x G')->r (.ref a::ts) G q
section
variable {l:Nat}
def eOf {t:TE3} (b:PuE t):PwE l t:=⟨λρ n Q=>∃ d,b.f ρ=some d/\Q d n,b.fv,b.nw,λ⟨d,h1,h2⟩ h=>⟨d,h1,h _ _ h2⟩,λh ⟨d,h1,h2⟩ k=>
 b.ok h.v h.d h1 λx G1 E1 D1 N1=>k x d G1 _ h2 (Bk.MB E1) (h.lf.ex E1) D1 N1⟩
def cOf {t:TT3} (b:PuC t):PwC l t:=⟨λρ n Q=>∃ d,b.f ρ=some d/\Q d n,b.fv,λ⟨d,h1,h2⟩ h=>⟨d,h1,h _ _ h2⟩,λh ⟨d,h1,h2⟩ k=>
 b.ok h.v h.d h1 λG1 E1=>k d G1 _ h2 (Bk.MB E1) (h.lf.ex E1)⟩
def aOf {t:TA3} (b:PuA t):PwA l t:=⟨λρ n Q=>∃ d,b.f ρ=some d/\Q d n,b.fv,b.n,λ⟨d,h1,h2⟩ h=>⟨d,h1,h _ _ h2⟩,λh ⟨d,h1,h2⟩ k=>
 b.ok h.v h.d h1 λx G1 E1 D1=>k x d G1 _ h2 (b.ln h1) (Bk.MB E1) (h.lf.ex E1) D1⟩
def iOf {t:TI3} (b:PuI t):PwI l t:=⟨λρ n Q=>∃ d,b.f ρ=some d/\Q d n,b.fv,b.nm,λ⟨d,h1,h2⟩ h=>⟨d,h1,h _ _ h2⟩,λh ⟨d,h1,h2⟩ k=>
 b.ok h.v h.d h1 λitems stay G1 E1 D1 s nm=>k items stay d G1 _ h2 (Bk.MB E1) (h.lf.ex E1) D1 s nm⟩
def eO {r:R3} {ta tb:TE3} (R:OpD r) (a:PwE l ta) (b:PwE l tb):PwE l (o3 r ta tb):=
 ⟨λρ n Q=>a.w ρ n λx n1=>b.w ρ n1 λy n2=>∃ v,R.f x y=some v/\Q v n2,a.fv++b.fv,R.nw,λh k=>a.mono h λx n1 h=>b.mono h λy n2 ⟨v,h1,h2⟩=>⟨v,h1,k _ _ h2⟩,λh hw k=>
  a.ok h.fst hw λx dx G1 n1 h1 E1 L1 D1 _=>b.ok (h.snd.up E1 L1) h1 λy dy G2 n2 ⟨v,e,hq⟩ E2 L2 D2 _=>R.ok (D1.up (L0 E2 h.da)) D2 (KI (KI h.d E1 L1) E2 L2) e λz G3 E3 D3 N3=>k z v G3 n2 hq ((E1.trans E2).trans (Bk.MB E3)) (L2.ex E3) D3 λz=>(N3 z).backx (E1.trans E2) L2⟩
def MR {ta:TE3} {tr:TA3} (a:PwE l ta) (r:PwA l tr):PwA l (qb ta tr):=
 ⟨λρ n Q=>a.w ρ n λx n1=>r.w ρ n1 λxs n2=>Q (x::xs) n2,a.fv++r.fv,r.k+1,λh k=>a.mono h λx n1 h=>r.mono h λxs n2 h=>k _ _ h,λh hw k=>
  a.ok h.fst hw λx dx G1 n1 h1 E1 L1 D1 _=>r.ok (h.snd.up E1 L1) h1 λy dy G2 n2 hq hl E2 L2 D2=>k _ _ G2 n2 hq (by simp [hl]) (E1.trans E2) L2 (.cons (D1.up (L0 E2 h.da)) D2)⟩
def eDr {r:List T->Gp->Q3->Prop} {t:TA3} (R:DrD r) (b:PwA l t):PwE l (cb3 r (qb (v3 l) t)):=⟨λρ n Q=>b.w ρ n λxs n1=>R.W xs n1 Q,b.fv,R.nw,λh k=>b.mono h λxs n1 h=>R.mono h k,λ{D τ ρ G a n q Q} h hw k=>by
 simp only [cb3,qb,v3,h.tl];exact b.ok h hw λx dx G1 n1 hW hl E1 L1 D1=>R.ok L1 h.da (KI h.d E1 L1) D1 hW λz d G3 n3 hq E3 L3 D3 N3=>k z d G3 n3 hq (E1.trans E3) L3 D3 λz=>(N3 z).backx E1 L1⟩
end
def VA.ext {D:Addr->Prop} {a:Addr} {G G':Gp} {τ:St3} {ρ:Rho} (h:VA D G τ ρ) (e:Ext a G G') (da:D a):VA D G' τ ρ:=h.upx (L0 e da)
structure RL (l:Nat) (a:Addr) (z0:Option (Option T)×Nat) (D:Addr->Prop) (G0:Gp) (A:Nat->Option Addr) (τ:St3) (ρ:Rho) (G:Gp) (n:Nat):Prop where
 r:RS D G0 A τ ρ G
 al:A l=some a
 tl:τ[l]?=some (some (.ref a))
 ul:ρ[l]?=some Sl.un
 lf:Lf G a n
 tz:τ[0]?=z0.1/\τ.length=z0.2
section
variable {l:Nat} {a:Addr} {z0:Option (Option T)×Nat} {D:Addr->Prop} {G0 G G':Gp} {A:Nat->Option Addr} {τ:St3} {ρ:Rho} {n n':Nat}
def RL.vl (h:RL l a z0 D G0 A τ ρ G n):vw ρ l=none:=by unfold vw;rw [h.ul];rfl
def RL.up (h:RL l a z0 D G0 A τ ρ G n) (e:Ext a G G') (lf:Lf G' a n'):RL l a z0 D G0 A τ ρ G' n':=by
 have X:Ex (rs (AD D A) G) (rs (AD D A) G'):=L0 e (.inr ⟨l,h.al⟩);refine ⟨⟨λb o x=>e b o (by rintro rfl;rw [h.r.fr l _ h.al] at x;cases x) (h.r.ex b o x),h.r.dm,h.r.fr,λi p hp z=>?_,h.r.inj,h.r.len,λi d x=>let ⟨t,y,z⟩:=h.r.sh i d x;⟨t,y,z.up X⟩,λi ds x=>?_⟩,h.al,h.tl,h.ul,lf,h.tz⟩
 ·by_cases c:p=a
  ·subst c;exact CP lf z
  ·cases g:G p with
   |none=>exact h.r.da i p hp g
   |some o=>rw [e p o c g] at z;cases z
 ·obtain ⟨p,xs,y1,y2,y3,y4⟩:=h.r.ow i ds x;refine ⟨p,xs,y1,y2,e p _ ?_ y3,y4.up X⟩;rintro rfl;have:=h.r.inj i l _ y1 h.al;subst this;rw [h.ul] at x;cases x
def RL.all (h:RL l a z0 D G0 A τ ρ G n) (fv:List Nat):Ln fv l (λb=>D b\/b=a) G τ ρ a n:=by
 refine ⟨λi _ d hd=>?_,λb hb=>?_,.inr rfl,h.tl,h.vl,h.lf⟩
 ·unfold vw at hd;obtain ⟨s,e,hd⟩:=obb hd;have less:Ex (rs (AD D A) G) (rs (λb=>D b\/b=a) G):=jQ λb z=>by
   rcases z with z|z
   ·exact .inl z
   ·subst z;exact .inr ⟨l,h.al⟩
  cases s with
  |un=>cases hd
  |sh d'=>
   cases hd;obtain ⟨t,b,c⟩:=h.r.sh i _ e;exact ⟨t,b,c.up less⟩
  |ow ds=>
   cases hd;obtain ⟨p,xs,b,c,g,f⟩:=h.r.ow i _ e;refine ⟨_,c,.lst ?_ (f.up less)⟩;rw [QZ]
   ·exact g
   ·rintro (z|z)
    ·exact h.r.nd b z
    ·subst z;have:=h.r.inj i l _ b h.al;subst this;rw [h.ul] at e;cases e
 ·rcases hb with hb|hb
  ·exact h.r.domD b hb
  ·subst hb;exact CP h.lf
def qqA {m:List Bool} (hm:mkb m l=false) (al:A l=some a):Ad m A l=some a:=by unfold Ad;rw [if_neg (by rw [hm];simp)];exact al
def RL.dem (h:RL l a z0 D G0 A τ ρ G n) {m:List Bool} (hm:mkb m l=false):RL l a z0 D G0 (Ad m A) τ (Pu.dm m ρ) G n:=
 ⟨h.r.dem m,qqA hm h.al,h.tl,by rw [qbM,h.ul];simp [hm],h.lf,h.tz⟩
def RL.ln (h:RL l a z0 D G0 A τ ρ G n) {m:List Bool} {fv:List Nat} (hm:mkb m l=false) (hf:Tru (fv.all (mkb m))):Ln fv l (AD D (Ad m A)) G τ ρ a n:=
 ⟨h.r.viewD hf,(h.r.dem m).dom,.inr ⟨l,qqA hm h.al⟩,h.tl,h.vl,h.lf⟩
def RL.put (h:RL l a z0 D G0 A τ ρ G n) {i:Nat} (hi:i≠l) (h0:i≠0) {x:T} {d:PyData} (hx:Dq (rs (AD D A) G) x d):RL l a z0 D G0 (Er A i) (τ.set i (some x)) (ρ.set i (.sh d)) G n:=
 ⟨h.r.put i hx,by unfold Er;rw [if_neg (λz=>hi z.symm)];exact h.al,by rw [getElem?_set,if_neg hi];exact h.tl,by rw [getElem?_set,if_neg hi];exact h.ul,h.lf,⟨by rw [getElem?_set,if_neg h0];exact h.tz.1,by rw [List.length_set];exact h.tz.2⟩⟩
def RL.puts:∀ {ts:List (Nat×T)} {bs:List (Nat×PyData)} {A:Nat->Option Addr} {τ:St3} {ρ:Rho},RL l a z0 D G0 A τ ρ G n->Bd (rs (AD D A) G) ts bs->(∀ p∈bs,p.1≠l/\p.1≠0)->∃ A',RL l a z0 D G0 A' (sets τ ts) (ZG ρ bs) G n
 |_,_,A,_,_,h,.nil,_=>⟨A,h⟩
 |_,_,A,_,_,h,.cons x b,hn=>by
  unfold sets ZG;exact RL.puts (h.put (hn _ List.mem_cons_self).1 (hn _ List.mem_cons_self).2 x) (b.up qiR) (λp hp=>hn p (List.mem_cons_of_mem _ hp))
def RL.putN (h:RL l a z0 D G0 A τ ρ G n) {i:Nat} (hi:i≠l) (h0:i≠0) {x:T} {d:PyData} {ds:List PyData} (hd:d=.list ds) (E:Ext a G G') (lf:Lf G' a n') (hx:Nw (AD D A) G G' x d):∃ A',RL l a z0 D G0 A' (τ.set i (some x)) (ρ.set i (.ow ds)) G' n':=by
 have h1:=h.up E lf;rcases hx with hx|⟨p,xs,ds',rfl,e',gp,gp',hs⟩
 ·rw [hd] at hx;cases hx
 rw [hd] at e';cases e';have np:∀ {j q},A j=some q->q≠p:=λe=>by rintro rfl;exact h.r.da _ _ e gp
 have X1:Ex (rs (AD D A) G) (rs (AD D (λj=>if j=i then some p else A j)) G'):=λb o e=>by
  obtain ⟨n,e⟩:=zc e;rw [QZ]
  ·exact E b o (by rintro rfl;exact n (.inr ⟨l,h.al⟩)) e
  ·rintro (z|⟨j,z⟩)
   ·exact n (.inl z)
   ·simp only at z;split at z
    ·cases z;rw [gp] at e;cases e
    ·exact n (.inr ⟨j,z⟩)
 refine ⟨λj=>if j=i then some p else A j,⟨h1.r.ex,h.r.dm,λj q e=>?_,λj q e=>?_,λj k q x y=>?_,by simp [h.r.len],λj e he=>?_,λj es e=>?_⟩,by rw [if_neg (λz=>hi z.symm)];exact h.al,by rw [getElem?_set,if_neg hi];exact h.tl,by rw [getElem?_set,if_neg hi];exact h.ul,lf,⟨by rw [getElem?_set,if_neg h0];exact h.tz.1,by rw [List.length_set];exact h.tz.2⟩⟩
 ·split at e
  ·cases e;cases z:G0 p with
   |none=>rfl
   |some o=>rw [h.r.ex _ _ z] at gp;cases gp
  ·exact h.r.fr j q e
 ·split at e
  ·cases e;rw [gp'];simp
  ·exact h1.r.da j q e
 ·split at x
  ·cases x;split at y
   ·rename_i h1 h2;rw [h1,h2]
   ·exact absurd rfl (np y)
  ·split at y
   ·cases y;exact absurd rfl (np x)
   ·exact h.r.inj j k q x y
 ·rw [getElem?_set] at he ⊢;split at he
  ·split at he<;>cases he
  ·rename_i hj;rw [if_neg hj];obtain ⟨t,b,c⟩:=h.r.sh j _ he;exact ⟨t,b,c.up X1⟩
 ·rw [getElem?_set] at e ⊢;split at e
  ·rename_i hj;subst hj;split at e
   ·rename_i hl;cases e;refine ⟨p,xs,by simp,by rw [if_pos rfl,if_pos (by rw [← h.r.len];exact hl)],gp',hs.up (jQ λb z=>?_)⟩;rcases z with z|⟨j,z⟩
    ·exact .inl (.inl z)
    ·simp only at z;split at z
     ·cases z;exact .inr rfl
     ·exact .inl (.inr ⟨j,z⟩)
   ·cases e
  ·rename_i hj;rw [if_neg hj];obtain ⟨q,ys,b,c,g,f⟩:=h1.r.ow j _ e;obtain ⟨q',ys',b',c',g',f'⟩:=h.r.ow j _ e;rw [b] at b';cases b';have:G' q=some (.lst ys'):=E q _ (by rintro rfl;have:=h.r.inj j l _ b h.al;subst this;rw [h.ul] at e;cases e) g';exact ⟨q,ys',by rw [if_neg (λz=>hj z.symm)];exact b,c,this,f'.up X1⟩
def RL.wr (h:RL l a z0 D G0 A τ ρ G n) {i:Nat} {p:Addr} {xs:List T} {ds ds0:List PyData} (ho:ρ[i]?=some (Sl.ow ds0)) (hi:A i=some p) (ht:τ[i]?=some (some (.ref p))) (hs:Dqs (rs (AD D A) G) xs ds):RL l a z0 D G0 A τ (ρ.set i (.ow ds)) (gu G p (.lst xs)) n:=by
 have il:i≠l:=by rintro rfl;rw [h.ul] at ho;cases ho
 have pa:p≠a:=by rintro rfl;exact il (h.r.inj i l _ hi h.al)
 exact ⟨h.r.wr hi ht hs,h.al,h.tl,by rw [getElem?_set,if_neg il];exact h.ul,h.lf.new pa,h.tz⟩
end
abbrev QO:=Ot->Nat->Prop
def qdf (l:Nat) (a:Addr) (z0:Option (Option T)×Nat) (D:Addr->Prop) (G0:Gp) (e:Ends3):Ot->Nat->Prop
 |.nx ρ,n=>∀ A τ G,RL l a z0 D G0 A τ ρ G n->e.nx τ G
 |.bk ρ,n=>∀ A τ G,RL l a z0 D G0 A τ ρ G n->e.bk τ G
 |.ct ρ,n=>∀ A τ G,RL l a z0 D G0 A τ ρ G n->e.ct τ G
 |.rt d fr,n=>∀ x G,Ex G0 G->Lf G a n->Dq (rs (λb=>D b\/b=a) G) x d->(fr=true->Nw (λb=>D b\/b=a) G0 G x d)->e.rt x G
structure PwS (l:Nat) (t:TS3) where
 w:Rho->Nat->QO->Prop
 mono:∀ {ρ n} {Q Q':QO},w ρ n Q->(∀ o m,Q o m->Q' o m)->w ρ n Q'
 ok:∀ {a z0 D G0 A τ ρ G n} {e:Ends3} {Q:QO},RL l a z0 D G0 A τ ρ G n->w ρ n Q->(∀ o m,Q o m->qdf l a z0 D G0 e o m)->t e τ G
section
variable {l:Nat}
def qcI:PwS l qw:=⟨λρ n Q=>Q (.nx ρ) n,λh k=>k _ _ h,λh hw k=>k _ _ hw _ _ _ h⟩
def sqw (b:Rho->Nat->QO->Prop) (Q:QO):QO:=λo n=>match o with|.nx ρ'=>b ρ' n Q|o=>Q o n
def K1 {t u:TS3} (x:PwS l t) (y:PwS l u):PwS l (qx t u):=⟨λρ n Q=>x.w ρ n (sqw y.w Q),λh k=>x.mono h λo m h=>by
  cases o with
  |nx ρ=>exact y.mono h k
  |bk ρ=>exact k _ _ h
  |ct ρ=>exact k _ _ h
  |rt d f=>exact k _ _ h,λh hw k=>x.ok h hw λo m h=>by
  cases o with
  |nx ρ=>exact λA τ G r=>y.ok r h k
  |bk ρ=>exact k _ _ h
  |ct ρ=>exact k _ _ h
  |rt d f=>exact k _ _ h⟩
def wIf {c:TT3} {t u:TS3} (pc:PwC l c) (x:PwS l t) (y:PwS l u):PwS l (za c t u):=⟨λρ n Q=>pc.w ρ n λk n1=>if k then x.w ρ n1 Q else y.w ρ n1 Q,λh k=>pc.mono h λj m h=>by
  cases j with
  |true=>rw [if_pos rfl] at h ⊢;exact x.mono h k
  |false=>exact y.mono h k,λh hw k=>pc.ok (h.all _) hw λj G1 n1 hj E1 L1=>by
  cases j with
  |true=>rw [if_pos rfl] at hj ⊢;exact x.ok (h.up E1 L1) hj k
  |false=>exact y.ok (h.up E1 L1) hj k⟩
def qhF {a:Addr} {z0:Option (Option T)×Nat} {D:Addr->Prop} {G0 G G':Gp} {A:Nat->Option Addr} {τ:St3} {ρ:Rho} {n:Nat} (h:RL l a z0 D G0 A τ ρ G n) (e:Ext a G G'):Ex G0 G':=λb o x=>e b o (by rintro rfl;rw [h.r.fr l _ h.al] at x;cases x) (h.r.ex b o x)
def qnz {t:TE3} (x:PwE l t):PwS l (qD t):=⟨λρ n Q=>x.w ρ n λd n1=>Q (.rt d x.nw) n1,λh k=>x.mono h λd m h=>k _ _ h,λh hw k=>x.ok (h.all _) hw λy d G1 n1 hq E1 L1 D1 N1=>k _ _ hq y G1 (qhF h E1) L1 D1 λz=>(N1 z).back h.r.ex⟩
def qdH {t:TE3} (x:PwE l t) (i:Nat) (m:List Bool) (hm:Tru (x.fv.all (mkb m))) (hl:Tru (!mkb m l&&(i != l&&i != 0))):PwS l (qG t (gn3 i)):=⟨λρ n Q=>x.w ρ n λd n1=>Q (.nx (qbA m x.nw i d ρ)) n1,λh k=>x.mono h λd m h=>k _ _ h,λ{a z0 D G0 A τ ρ G n e Q} h hw k=>by
 have hl':mkb m l=false/\i≠l/\i≠0:=by simpa using hl.h
 refine x.ok (h.ln hl'.1 hm) hw λy d G1 n1 hq E1 L1 D1 N1=>?_;have k:=k _ _ hq;unfold qbA at k;show e.nx (τ.set i (some y)) G1;split at k
 ·rename_i hs;exact k _ _ _ ((h.up E1 L1).put hl'.2.1 hl'.2.2 (XR D1 hs))
 ·split at k
  ·rename_i hn;have N:=N1 hn;rcases id N with h2|⟨p,xs,ds,h1,h2,_⟩
   ·subst h2;rename_i hs;exact absurd rfl hs
   subst h2;obtain ⟨A',r⟩:=(h.dem hl'.1).putN hl'.2.1 hl'.2.2 rfl E1 L1 N;exact k _ _ _ r
  ·exact k _ _ _ (((h.dem hl'.1).up E1 L1).put hl'.2.1 hl'.2.2 D1)⟩
def qlp {t:TE3} {g:TG3} (x:PwE l t) (pg:PuG g) (m:List Bool) (hm:Tru (x.fv.all (mkb m))) (hl:Tru (!mkb m l&&pg.tg.all (λi=>i != l&&i != 0))):PwS l (qG t g):=⟨λρ n Q=>x.w ρ n λd n1=>∃ bs,pg.f d=some bs/\Q (.nx (ZG (dm m ρ) bs)) n1,λh k=>x.mono h λd m ⟨bs,h1,h2⟩=>⟨bs,h1,k _ _ h2⟩,λ{a z0 D G0 A τ ρ G n e Q} h hw k=>by
 have hl':mkb m l=false/\∀ i∈pg.tg,i≠l/\i≠0:=by simpa using hl.h
 refine x.ok (h.ln hl'.1 hm) hw λy d G1 n1 ⟨bs,e2,hq⟩ E1 L1 D1 N1=>?_;obtain ⟨ts,bd,kg⟩:=pg.ok D1 e2;refine kg _ _ _ ?_;obtain ⟨A',h'⟩:=((h.dem hl'.1).up E1 L1).puts bd (λp hp=>hl'.2 _ (pg.at' e2 p hp));exact k _ _ hq _ _ _ h'⟩
def qpt {t:TA3} (x:PwA l t) (i j:Nat) (m:List Bool) (hm:Tru (x.fv.all (mkb m))) (hl:Tru (!mkb m l&&((i != l&&i != 0)&&(j != l&&j != 0)))):PwS l (jU i j t):=⟨λρ n Q=>x.w ρ n λds n1=>∃ o,qeh i j m ds ρ=some o/\Q o n1,λh k=>x.mono h λd m ⟨bs,h1,h2⟩=>⟨bs,h1,k _ _ h2⟩,λ{a z0 D G0 A τ ρ G n e Q} h hw k=>by
 have hl':mkb m l=false/\(i≠l/\i≠0)/\j≠l/\j≠0:=by simpa using hl.h
 refine x.ok (h.ln hl'.1 hm) hw λy d G1 n1 ⟨o,e2,hq⟩ hlen E1 L1 D1=>?_;unfold qeh at e2;split at e2
 ·cases D1 with
  |cons x1 b=>cases b with
   |cons x2 c=>
    cases c;split at e2
    ·rename_i hs;cases e2;rw [Bool.and_eq_true] at hs;exact k _ _ hq _ _ _ (((h.up E1 L1).put hl'.2.1.1 hl'.2.1.2 (XR x1 hs.1)).put hl'.2.2.1 hl'.2.2.2 (XR x2 hs.2))
    ·cases e2;exact k _ _ hq _ _ _ ((((h.dem hl'.1).up E1 L1).put hl'.2.1.1 hl'.2.1.2 x1).put hl'.2.2.1 hl'.2.2.2 (x2.up qiR))
 ·cases e2⟩
def RL.evalS {a:Addr} {z0:Option (Option T)×Nat} {D:Addr->Prop} {G0 G:Gp} {A:Nat->Option Addr} {τ:St3} {ρ:Rho} {n:Nat} (h:RL l a z0 D G0 A τ ρ G n) {t:TE3} (x:PwE l t) (m:List Bool) (hm:Tru (x.fv.all (mkb m))) (hl:mkb m l=false) {Q:QD} (hw:x.w ρ n Q) (q:Q3) (k:∀ y d G' n' A1,Q d n'->RL l a z0 D G0 A1 τ (dmS m d ρ) G' n'->Ext a G G'->Dq (rs (AD D A1) G') y d->q y G'):t τ G q:=by
 refine x.ok (h.ln hl hm) hw λy d G1 n1 hq E1 L1 D1 _=>?_;by_cases hs:qfm d=true
 ·exact k y d G1 n1 A hq (by unfold dmS;rw [if_pos hs];exact h.up E1 L1) E1 (XR D1 hs)
 ·exact k y d G1 n1 _ hq (by unfold dmS;rw [if_neg hs];exact (h.dem hl).up E1 L1) E1 D1
def qdQ (gf:PyData->Option (List (Nat×PyData))) (bw:Rho->Nat->QO->Prop):List PyData->Rho->Nat->QO->Prop
 |[],ρ,n,Q=>Q (.nx ρ) n
 |d::r,ρ,n,Q=>∃ bs,gf d=some bs/\bw (ZG ρ bs) n λo n1=>match o with
  |.nx ρ'=>qdQ gf bw r ρ' n1 Q
  |.ct ρ'=>qdQ gf bw r ρ' n1 Q
  |.bk ρ'=>Q (.nx ρ') n1
  |.rt d b=>Q (.rt d b) n1
def RW {g:TG3} {tb:TS3} (pg:PuG g) (pb:PwS l tb):∀ {ds:List PyData} {ρ:Rho} {n:Nat} {Q Q':QO},qdQ pg.f pb.w ds ρ n Q->(∀ o m,Q o m->Q' o m)->qdQ pg.f pb.w ds ρ n Q'
 |[],_,_,_,_,h,k=>k _ _ h
 |d::r,_,_,_,_,⟨bs,e,h⟩,k=>⟨bs,e,pb.mono h λo m h=>by
   cases o with
   |nx ρ=>exact RW pg pb h k
   |ct ρ=>exact RW pg pb h k
   |bk ρ=>exact k _ _ h
   |rt d b=>exact k _ _ h⟩
def KO {stay:Gp->Prop} {g:TG3} {tb:TS3} {e:Ends3} (pg:PuG g) (pb:PwS l tb) {a:Addr} {z0:Option (Option T)×Nat} {D:Addr->Prop} {G0:Gp} {Q:QO} (hl:∀ i∈pg.tg,i≠l/\i≠0) (hs:∀ A τ ρ G n,RL l a z0 D G0 A τ ρ G n->stay G) (k:∀ o m,Q o m->qdf l a z0 D G0 e o m) :
  ∀ (ds:List PyData) (items:List T),(∀ A τ ρ G n,RL l a z0 D G0 A τ ρ G n->Dqs (rs (AD D A) G) items ds)->∀ A τ ρ G n,RL l a z0 D G0 A τ ρ G n->qdQ pg.f pb.w ds ρ n Q->KT stay g tb e items τ G
 |[],items,hi,A,τ,ρ,G,n,h,hw=>by
  have:=hi _ _ _ _ _ h;cases this;exact ⟨hs _ _ _ _ _ h,k _ _ hw _ _ _ h⟩
 |d::ds,items,hi,A,τ,ρ,G,n,h,⟨bs,e1,hw⟩=>by
  have hh:=hi _ _ _ _ _ h;cases hh with
  |cons hx hr=>
   rename_i x items;obtain ⟨ts,bd,kg⟩:=pg.ok hx e1;refine ⟨hs _ _ _ _ _ h,kg _ _ _ ?_⟩;obtain ⟨A',h'⟩:=h.puts bd λp hp=>hl _ (pg.at' e1 p hp);have hi':∀ A τ ρ G n,RL l a z0 D G0 A τ ρ G n->Dqs (rs (AD D A) G) items ds:=λA τ ρ G n h=>by
    have:=hi _ _ _ _ _ h;cases this with
    |cons a b=>exact b
   refine pb.ok h' hw λo m hq=>?_;cases o with
   |nx ρ'=>exact λA2 τ2 G2 h2=>KO pg pb hl hs k ds items hi' _ _ _ _ _ h2 hq
   |ct ρ'=>exact λA2 τ2 G2 h2=>KO pg pb hl hs k ds items hi' _ _ _ _ _ h2 hq
   |bk ρ'=>exact k _ _ hq
   |rt d fr=>exact k _ _ hq
def RL.base {a:Addr} {z0:Option (Option T)×Nat} {D:Addr->Prop} {G0 Gb G:Gp} {A:Nat->Option Addr} {τ:St3} {ρ:Rho} {n:Nat} (h:RL l a z0 D Gb A τ ρ G n) (e:Ex G0 Gb) (hd:Dom D G0):RL l a z0 D G0 A τ ρ G n:=⟨h.r.base e hd,h.al,h.tl,h.ul,h.lf,h.tz⟩
def qdf.base {a:Addr} {z0:Option (Option T)×Nat} {D:Addr->Prop} {G0 Gb:Gp} {e:Ends3} {o:Ot} {n:Nat} (h:qdf l a z0 D G0 e o n) (x:Ex G0 Gb) (hd:Dom D G0):qdf l a z0 D Gb e o n:=by
 cases o with
 |nx ρ=>exact λA τ G r=>h A τ G (r.base x hd)
 |bk ρ=>exact λA τ G r=>h A τ G (r.base x hd)
 |ct ρ=>exact λA τ G r=>h A τ G (r.base x hd)
 |rt d fr=>exact λy G p q r z=>h y G (x.trans p) q r λw=>(z w).back x
def qpg {wi:TI3} {g:TG3} {tb:TS3} (pi:PwI l wi) (pg:PuG g) (pb:PwS l tb) (m:List Bool) (hm:Tru (pi.fv.all (mkb m))) (hl:Tru (!mkb m l&&pg.tg.all (λi=>i != l&&i != 0))):PwS l (XY wi g tb):=⟨λρ n Q=>pi.w ρ n λds n1=>qdQ pg.f pb.w ds (if pi.nm then ρ else dm m ρ) n1 Q,λh k=>pi.mono h λd m h=>RW pg pb h k,λ{a z0 D G0 A τ ρ G n e Q} h hw k=>by
 have hl':mkb m l=false/\∀ i∈pg.tg,i≠l/\i≠0:=by simpa using hl.h
 refine pi.ok (h.ln hl'.1 hm) hw λitems stay ds G1 n1 hq E1 L1 D1 hs hnm=>?_;cases hb:pi.nm with
 |true=>
  rw [hb,if_pos rfl] at hq;obtain ⟨ns,rfl⟩:=hnm hb;have:=D1.ints;subst this;exact KO pg pb hl'.2 (λ_ _ _ _ _ _=>hs _ (.inl hb)) k _ _ (λA τ ρ G _ _=>Dqs.ofInts _) _ _ _ _ _ (h.up E1 L1) hq
 |false=>
  rw [hb,if_neg Bool.false_ne_true] at hq;have h1:=(h.dem hl'.1).up E1 L1;have b1:Ex G0 (rs (λb=>∃ i,Ad m A i=some b) G1):=λb o e=>by
   rw [QZ]
   ·exact h1.r.ex _ _ e
   ·rintro ⟨i,z⟩;rw [h1.r.fr i _ z] at e;cases e
  have h2:RL l a z0 D (rs (λb=>∃ i,Ad m A i=some b) G1) (Ad m A) τ (dm m ρ) G1 n1:=⟨⟨UW,h.r.dm.up b1,λi p z=>by unfold rs;exact jt ⟨i,z⟩,h1.r.da,h1.r.inj,h1.r.len,h1.r.sh,h1.r.ow⟩,h1.al,h1.tl,h1.ul,h1.lf,h1.tz⟩
  have X:∀ A2 τ2 ρ2 G2,RS D (rs (λb=>∃ i,Ad m A i=some b) G1) A2 τ2 ρ2 G2->Ex (rs (AD D (Ad m A)) G1) (rs (AD D A2) G2):=λA2 τ2 ρ2 G2 r b o e=>by
   obtain ⟨n1,e⟩:=zc e;have eb:rs (λb=>∃ i,Ad m A i=some b) G1 b=some o:=by rw [QZ (λz=>n1 (.inr z))];exact e
   rw [QZ]
   ·exact r.ex _ _ eb
   ·rintro (z|⟨i,z⟩)
    ·exact n1 (.inl z)
    ·rw [r.fr i _ z] at eb;cases eb
  exact KO pg pb hl'.2 (λA2 τ2 ρ2 G2 n2 r=>hs _ (.inr ((X _ _ _ _ r.r).trans UW))) (λo m hq=>(k o m hq).base b1 h.r.dm) _ _ (λA2 τ2 ρ2 G2 n2 r=>D1.up (X _ _ _ _ r.r)) _ _ _ _ _ h2 hq⟩
end
def DSp (W:List PyData->Nat->QD->Prop) (fr:Bool):Sp3:=λts G q=>∃ (D:Addr->Prop) (a:Addr) (n:Nat) (ts':List T) (ds:List PyData) (Q:QD),ts=.ref a::ts'/\Lf G a n/\D a/\Dom D G/\Dqs (rs D G) ts' ds/\W ds n Q/\∀ x d G' n',Q d n'->Ext a G G'->Lf G' a n'->Dq (rs D G') x d->(fr=true->Nw D G G' x d)->q x G'
structure Wm where
 W:List PyData->Nat->QD->Prop
 mono:∀ {ds n} {Q Q':QD},W ds n Q->(∀ d m,Q d m->Q' d m)->W ds n Q'
def dSp (w:Wm) (fr:Bool):DrD (DSp w.W fr):=⟨w.W,fr,w.mono,λ{D G a n ts ds q Q} lf da hd hs hw k=>⟨D,a,n,ts,ds,Q,rfl,lf,da,hd,hs,hw,k⟩⟩
def qoq (fr:Bool) (Q:QD):QO:=λo n=>match o with
 |.rt d b=>(fr=true->b=true)/\∃ m,n<=m/\Q d m
 |.nx _=>fr=false/\∃ m,n<=m/\Q .none m
 |_=>False
def qqJ {t:TS3} (b:PwS 0 t) (k N:Nat) (fr:Bool):Wm:=⟨λds n Q=>ds.length+1=k/\b.w (.un::(ds.map Sl.sh++List.replicate (N-(ds.length+1)) .un)) n (qoq fr Q),λ⟨h1,h2⟩ k=>⟨h1,b.mono h2 λo m h=>by
 cases o with
 |rt d f=>obtain ⟨h1,m,h2,h3⟩:=h;exact ⟨h1,m,h2,k _ _ h3⟩
 |nx ρ=>obtain ⟨h1,m,h2,h3⟩:=h;exact ⟨h1,m,h2,k _ _ h3⟩
 |bk ρ=>exact h
 |ct ρ=>exact h⟩⟩
def qiP {t:TS3} (b:PwS 0 t) (N:List Str) (k:Nat) (fr:Bool):∀ ts G q,DSp (qqJ b k N.length fr).W fr ts G q->ts.length=k/\t { nx:=λ_ G'=>q .non G',rt:=q } (qm N ts) G:=by
 rintro ts G q ⟨D,a,n,ts',ds,Q,rfl,lf,da,hd,hs,⟨hk,hw⟩,h⟩;refine ⟨by simp [hs.length];omega,?_⟩;have DD:∀ b,(D b/\b≠a)\/b=a↔D b:=λb=>by
  by_cases e:b=a
  ·subst e;simp [da]
  ·simp [e]
 have rr:∀ H,rs (λb=>(D b/\b≠a)\/b=a) H=rs D H:=λH=>by
  have:(λb=>(D b/\b≠a)\/b=a)=D:=funext λb=>propext (DD b);rw [this]
 have ad:AD (λb=>D b/\b≠a) (λi=>if i=0 then some a else none)=D:=funext λb=>propext ⟨(λz=>by
   rcases z with z|⟨i,z⟩
   ·exact z.1
   ·simp only at z;split at z
    ·cases z;exact da
    ·cases z),(λz=>by
   by_cases e:b=a
   ·subst e;exact .inr ⟨0,rfl⟩
   ·exact .inl ⟨z,e⟩)⟩
 have ga:G a≠none:=CP lf;have r:RL 0 a (some (some (.ref a)),(qm N (.ref a::ts')).length) (λb=>D b/\b≠a) (rs (λb=>b=a) G) (λi=>if i=0 then some a else none) (qm N (.ref a::ts')) (.un::(ds.map Sl.sh++List.replicate (N.length-(ds.length+1)) .un)) G n:=by
  refine ⟨⟨UW,λb hb=>by rw [QZ (D:=λb=>b=a) hb.2];exact hd b hb.1,λi p e=>?_,λi p e=>?_,λi j p e e'=>?_,by simp [qm,hs.length],λi d' e=>?_,λi es e=>?_⟩,rfl,by simp [qm],rfl,lf,⟨by simp [qm],rfl⟩⟩
  ·split at e
   ·cases e;unfold rs;exact jt rfl
   ·cases e
  ·split at e
   ·cases e;exact ga
   ·cases e
  ·split at e
   ·split at e'
    ·rename_i h1 h2;rw [h1,h2]
    ·cases e'
   ·cases e
  ·rw [ad];cases i with
   |zero=>cases e
   |succ i=>
    rw [getElem?_cons_succ] at e;by_cases hi:i<ds.length
    ·rw [List.getElem?_append_left (by simpa using hi),getElem?_map] at e;obtain ⟨d2,e3,e4⟩:=Option.map_eq_some_iff.mp e;cases e4;obtain ⟨x,e5,hx⟩:=hs.get e3;refine ⟨x,?_,hx⟩;unfold qm;rw [List.getElem?_append_left (by simp [hs.length];exact hi),getElem?_map,getElem?_cons_succ,e5];rfl
    ·rw [List.getElem?_append_right (by simpa using hi),List.getElem?_replicate] at e;split at e<;>cases e
  ·cases i with
   |zero=>cases e
   |succ i=>
    rw [getElem?_cons_succ] at e;by_cases hi:i<ds.length
    ·rw [List.getElem?_append_left (by simpa using hi),getElem?_map] at e;obtain ⟨d2,e3,e4⟩:=Option.map_eq_some_iff.mp e;cases e4
    ·rw [List.getElem?_append_right (by simpa using hi),List.getElem?_replicate] at e;split at e<;>cases e
 have xe:∀ {G'},Ex (rs (λb=>b=a) G) G'->Ext a G G':=λe b o n x=>e b o (by rw [QZ (D:=λb=>b=a) n];exact x);refine b.ok r hw λo m hq=>?_;cases o with
 |rt d f=>
  intro x G' E L Dx0 N;have Dx:=Dx0;rw [rr] at Dx;obtain ⟨hq1,m2,hm,hq2⟩:=hq;refine h x d G' m2 hq2 (xe E) (L.mono (by omega)) Dx λz=>?_;rcases N (hq1 z) with h2|⟨p,xs,ds',h1,h2,c,g,f'⟩
  ·exact .inl h2
  have np:p≠a:=by
   rintro rfl;rw [h1] at Dx0;cases Dx0 with
   |lst g0 _=>exact (zc g0).1 (.inr rfl)
  refine .inr ⟨p,xs,ds',h1,h2,by rw [QZ (D:=λb=>b=a) np] at c;exact c,g,f'.up (jQ λb z=>?_)⟩;rcases z with z|z
  ·exact .inl ((DD b).mpr z)
  ·exact .inr z
 |nx ρ=>
  obtain ⟨hq1,m2,hm,hq2⟩:=hq;exact λA τ G' r'=>h .non .none G' m2 hq2 (xe r'.r.ex) (r'.lf.mono (by omega)) .non λz=>by rw [hq1] at z;cases z
 |bk ρ=>exact hq.elim
 |ct ρ=>exact hq.elim
end Pu
namespace Pu
open PySem L2 L3
open Bk (Lf Ext Dl Wk Dr)
def okW:QO:=λo _=>match o with|.nx _=>True|.ct _=>True|_=>False
def qqf (K:Int):TE3:=o3 q0 (c3 (.int 1)) (cb3 VE (qb (c3 (.int K)) (qb (cb3 jE (qb (v3 0) qh)) qh)))
def qjW {i:Nat} {τ:St3} {t:T} {G:Gp} {q:Q3} (h:τ[i]?=some (some t)):v3 i τ G q=q t G:=by unfold v3;rw [h]
def qqE (K:Int) (R:TS3):TS3:=qx (XY (zE (qb (qqf K) qh)) (gn3 1) (qx (qG (cb3 Bk.YZ (qb (v3 0) (qb (v3 1) qh))) (gn3 2)) R)) (qD (c3 (.bl true)))
def qev {R:TS3} (b:PwS 2 R) (N:List Str) (K:Int) (M:Nat) (hK:0<=K/\K<=60) (hN:N.length=M+3) (h:∀ k:Nat,k<=60->b.w ([.un,.sh (.int k),.un]++List.replicate M .un) 0 okW):∀ ts G q,S7 ts G q->ts.length=1/\qqE K R { nx:=λ_ G'=>q .non G',rt:=q } (qm N ts) G:=by
 rintro ts G q ⟨a,ns,rfl,hG,hl,hq⟩;refine ⟨rfl,?_⟩;have s0:(qm N [T.ref a])[0]?=some (some (.ref a)):=by simp [qm]
 have gl:zo G a=some (ns.map T.int):=by unfold zo;rw [hG]
 simp only [qqE,qx,XY,zE,qqf,qb,qh,o3,c3,cb3,v3,s0,jE,gl,VE,q0,length_map];have cnt:((1+(if ((ns.length:Nat):Int)<K then ((ns.length:Nat):Int) else K)).toNat)<=61:=by split<;>omega
 refine ⟨⟨by split<;>omega,by split<;>omega⟩,?_⟩;refine VW _ (λ_ τ G'=>G' a=some (.frz (ns.map T.int))/\τ[0]?=some (some (.ref a))/\τ.length=M+3) ⟨hG,s0,by simp [qm,hN]⟩ (λ_ _ _ _ _=>True.intro) ?_ ?_
 ·rintro i z τ G' nx hz ⟨gA,t0,tl⟩ hn;obtain ⟨hi,rfl⟩:=KW hz;have hi2:i<=60:=by omega
  have t1:(τ.set 1 (some (T.int (0+(i:Int)))))[0]?=some (some (.ref a)):=by rw [getElem?_set,if_neg (by omega)];exact t0
  have t2:(τ.set 1 (some (T.int (0+(i:Int)))))[1]?=some (some (T.int (0+(i:Int)))):=by rw [getElem?_set,if_pos rfl,if_pos (by omega)]
  show v3 0 (τ.set 1 (some (T.int (0+(i:Int))))) G' (λx G1=>v3 1 (τ.set 1 (some (T.int (0+(i:Int))))) G1 λy G2=>Bk.YZ [x,y] G2 λz G3=>R _ ((τ.set 1 (some (T.int (0+(i:Int))))).set 2 (some z)) G3);rw [qjW t1,qjW t2];refine ⟨a,_,ns,rfl,gA,hl,by omega,by omega,λp o c hp ho=>?_⟩;have pa:a≠p:=by rintro rfl;rw [gA] at hp;cases hp
  have r:RL 2 p (some (some (.ref a)),M+3) (λ_=>False) G' (λj=>if j=2 then some p else none) ((τ.set 1 (some (T.int (0+(i:Int))))).set 2 (some (.ref p))) ([.un,.sh (.int i),.un]++List.replicate M .un) (gu G' p (.lst [.int o,.int c,.int 0])) 0:=by
   refine ⟨⟨ZP hp,λb z=>z.elim,λj q e=>?_,λj q e=>?_,λj k q e e'=>?_,by simp [tl],λj d e=>?_,λj ds e=>?_⟩,rfl,by rw [getElem?_set,if_pos rfl,if_pos (by simp;omega)],rfl,⟨o,c,0,qy,ho,by omega,by omega⟩,⟨by rw [getElem?_set,if_neg (by omega)];exact t1,by simp [tl]⟩⟩
   ·split at e
    ·cases e;exact hp
    ·cases e
   ·split at e
    ·cases e;rw [qy];simp
    ·cases e
   ·split at e
    ·split at e'
     ·rename_i h1 h2;rw [h1,h2]
     ·cases e'
    ·cases e
   ·match j,e with
    |0,e=>cases e
    |1,e=>
     cases e;refine ⟨.int (0+(i:Int)),by rw [getElem?_set,if_neg (by omega)];exact t2,?_⟩;rw [Int.zero_add];exact .int _
    |2,e=>cases e
    |j+3,e=>
     simp only [cons_append,List.nil_append,getElem?_cons_succ,List.getElem?_replicate] at e;split at e<;>cases e
   ·match j,e with
    |0,e=>cases e
    |1,e=>cases e
    |2,e=>cases e
    |j+3,e=>
     simp only [cons_append,List.nil_append,getElem?_cons_succ,List.getElem?_replicate] at e;split at e<;>cases e
  refine b.ok r (h i hi2) λo' m ho'=>?_;cases o' with
  |nx ρ'=>exact λA τ' G2 r2=>hn _ _ ⟨r2.r.ex _ _ gA,r2.tz.1,r2.tz.2⟩
  |ct ρ'=>exact λA τ' G2 r2=>hn _ _ ⟨r2.r.ex _ _ gA,r2.tz.1,r2.tz.2⟩
  |bk ρ'=>exact ho'.elim
  |rt d f=>exact ho'.elim
 ·rintro τ G' ⟨gA,t0,tl⟩;exact hq G'
def qcQ {G:Gp} {ts:List T} (h:Dqs G ts []):ts=[]:=by cases h;rfl
def qpd {G:Gp} {ts:List T} {i:Int} (h:Dqs G ts [.int i]):ts=[.int i]:=by
 cases h with
 |cons a b=>cases b;cases a;rfl
def lfc {G:Gp} {a:Addr} {n c:Nat} (h:Lf G a ((n:Int)+(c:Int))):Lf G a ((n+c:Nat):Int):=by rw [Int.natCast_add];exact h
def qc0:DrD Bk.qF:=⟨λds n Q=>∃ m:Int,ds=[.int m]/\(1<=m/\m<1073741824)/\n<1000000000/\∀ d:Int,0<=d->d<m->Q (.int d) (n+1),false,
 λ⟨m,h1,h2,h3,h4⟩ k=>⟨m,h1,h2,h3,λd x y=>k _ _ (h4 d x y)⟩,λ{D G a n ts ds q Q} lf da hd hs ⟨m,h1,h2,h3,h4⟩ k=>by
 subst h1;have:=qpd hs;subst this;exact ⟨a,n,m,rfl,h2.1,h2.2,lf,by omega,λd G' x y L E=>k _ _ G' (n+1) (h4 d x y) E (lfc (c:=1) L) (.int d) (λz=>by cases z)⟩⟩
def qkh:DrD Bk.Y7:=⟨λds n Q=>ds=[]/\n<1000000/\∀ w:Wk,w.Ok->Q (Pv.Wk.d w) (n+60),false,
 λ⟨h1,h3,h4⟩ k=>⟨h1,h3,λw x=>k _ _ (h4 w x)⟩,λ{D G a n ts ds q Q} lf da hd hs ⟨h1,h3,h4⟩ k=>by
 subst h1;have:=qcQ hs;subst this;exact ⟨a,n,rfl,lf,by omega,λw G' x L E=>k _ _ G' (n+60) (h4 w x) E (lfc (c:=60) L) (Pv.qp5 _ w) (λz=>by cases z)⟩⟩
def qaD:DrD Bk.QB:=⟨λds n Q=>ds=[]/\n<100000/\∀ d:Dl,Dr d 16 16 32->d.dep<=2->Q (Pv.dlD d) (n+1000),false,
 λ⟨h1,h3,h4⟩ k=>⟨h1,h3,λd x y=>k _ _ (h4 d x y)⟩,λ{D G a n ts ds q Q} lf da hd hs ⟨h1,h3,h4⟩ k=>by
 subst h1;have:=qcQ hs;subst this;exact ⟨a,n,rfl,lf,by omega,λd G' a1 a2 L E=>k _ _ G' (n+1000) (h4 d a1 a2) E (lfc (c:=1000) L) (Pv.qit _ _) (λz=>by cases z)⟩⟩
def qj6 {l:Nat} {t:TE3} {b:PuE t}:(eOf (l:=l) b).w=λρ n Q=>∃ d,b.f ρ=some d/\Q d n:=id rfl
def qjH {l:Nat} {t:TT3} {b:PuC t}:(cOf (l:=l) b).w=λρ n Q=>∃ d,b.f ρ=some d/\Q d n:=id rfl
def qmB {l:Nat} {t:TA3} {b:PuA t}:(aOf (l:=l) b).w=λρ n Q=>∃ d,b.f ρ=some d/\Q d n:=id rfl
def qjD {l:Nat} {t:TI3} {b:PuI t}:(iOf (l:=l) b).w=λρ n Q=>∃ d,b.f ρ=some d/\Q d n:=id rfl
def qqt {l:Nat} {r:R3} {ta tb:TE3} {R:OpD r} {a:PwE l ta} {b:PwE l tb}:(eO R a b).w=λρ n Q=>a.w ρ n λx n1=>b.w ρ n1 λy n2=>∃ v,R.f x y=some v/\Q v n2:=id rfl
def qb6 {l:Nat} {ta:TE3} {tr:TA3} {a:PwE l ta} {r:PwA l tr}:(MR a r).w=λρ n Q=>a.w ρ n λx n1=>r.w ρ n1 λxs n2=>Q (x::xs) n2:=id rfl
def qmD {l:Nat} {r:List T->Gp->Q3->Prop} {t:TA3} {R:DrD r} {b:PwA l t}:(eDr R b).w=λρ n Q=>b.w ρ n λxs n1=>R.W xs n1 Q:=id rfl
def qfe {l:Nat} {t:TI3} {b:PuI t}:(iOf (l:=l) b).nm=b.nm:=id rfl
def qfw {l:Nat} {t:TE3} {b:PuE t}:(eOf (l:=l) b).nw=b.nw:=id rfl
def qmf {l:Nat} {r:R3} {ta tb:TE3} {R:OpD r} {a:PwE l ta} {b:PwE l tb}:(eO R a b).nw=R.nw:=id rfl
def qdg {l:Nat}:(qcI (l:=l)).w=λρ n Q=>Q (.nx ρ) n:=id rfl
def qb7 {l:Nat} {t u:TS3} {x:PwS l t} {y:PwS l u}:(K1 x y).w=λρ n Q=>x.w ρ n (sqw y.w Q):=id rfl
def qfj {b:Rho->Nat->QO->Prop} {Q:QO} {ρ:Rho} {n:Nat}:sqw b Q (.nx ρ) n=b ρ n Q:=id rfl
def qgt {b:Rho->Nat->QO->Prop} {Q:QO} {d:PyData} {f:Bool} {n:Nat}:sqw b Q (.rt d f) n=Q (.rt d f) n:=id rfl
def qmm {l:Nat} {c:TT3} {t u:TS3} {pc:PwC l c} {x:PwS l t} {y:PwS l u}:(wIf pc x y).w=λρ n Q=>pc.w ρ n λk n1=>if k then x.w ρ n1 Q else y.w ρ n1 Q:=id rfl
def qfr {l:Nat} {t:TE3} {x:PwE l t}:(qnz x).w=λρ n Q=>x.w ρ n λd n1=>Q (.rt d x.nw) n1:=id rfl
def qgY {l:Nat} {t:TE3} {x:PwE l t} {i:Nat} {m:List Bool} {hm:Tru (x.fv.all (mkb m))} {hl:Tru (!mkb m l&&(i != l&&i != 0))}:(qdH x i m hm hl).w=λρ n Q=>x.w ρ n λd n1=>Q (.nx (qbA m x.nw i d ρ)) n1:=id rfl
def qcj {l:Nat} {t:TE3} {g:TG3} {x:PwE l t} {pg:PuG g} {m:List Bool} {hm:Tru (x.fv.all (mkb m))} {hl:Tru (!mkb m l&&pg.tg.all (λi=>i != l&&i != 0))}:(qlp x pg m hm hl).w=λρ n Q=>x.w ρ n λd n1=>∃ bs,pg.f d=some bs/\Q (.nx (ZG (dm m ρ) bs)) n1:=id rfl
def qe9 {l:Nat} {t:TA3} {x:PwA l t} {i j:Nat} {m:List Bool} {hm:Tru (x.fv.all (mkb m))} {hl:Tru (!mkb m l&&((i != l&&i != 0)&&(j != l&&j != 0)))}:(qpt x i j m hm hl).w=λρ n Q=>x.w ρ n λds n1=>∃ o,qeh i j m ds ρ=some o/\Q o n1:=id rfl
def qgR {l:Nat} {wi:TI3} {g:TG3} {tb:TS3} {pi:PwI l wi} {pg:PuG g} {pb:PwS l tb} {m:List Bool} {hm:Tru (pi.fv.all (mkb m))} {hl:Tru (!mkb m l&&pg.tg.all (λi=>i != l&&i != 0))}:(qpg pi pg pb m hm hl).w=λρ n Q=>pi.w ρ n λds n1=>qdQ pg.f pb.w ds (if pi.nm then ρ else dm m ρ) n1 Q:=id rfl
def qcK {ds:List PyData} {n:Nat} {Q:QD}:qc0.W ds n Q=(∃ m:Int,ds=[.int m]/\(1<=m/\m<1073741824)/\n<1000000000/\∀ d:Int,0<=d->d<m->Q (.int d) (n+1)):=id rfl
def qcs {ds:List PyData} {n:Nat} {Q:QD}:qkh.W ds n Q=(ds=[]/\n<1000000/\∀ w:Wk,w.Ok->Q (Pv.Wk.d w) (n+60)):=id rfl
def S5 {ds:List PyData} {n:Nat} {Q:QD}:qaD.W ds n Q=(ds=[]/\n<100000/\∀ d:Dl,Dr d 16 16 32->d.dep<=2->Q (Pv.dlD d) (n+1000)):=id rfl
def qmA {w:Wm} {fr:Bool}:(dSp w fr).W=w.W:=id rfl
def qge {Q:QD} {d:PyData} {n:Nat}:qoq true Q (.rt d true) n=∃ m,n<=m/\Q d m:=propext ⟨λh=>h.2,λh=>⟨λ_=>rfl,h⟩⟩
def qeT {ρ:Rho} {n:Nat}:okW (.nx ρ) n=True:=id rfl
def qnn {α:Type} {v:α} {P:α->Prop}:(∃ d,some v=some d/\P d)=P v:=propext ⟨λ⟨d,h1,h2⟩=>by cases h1;exact h2,λh=>⟨v,rfl,h⟩⟩
def qgz {v:Int} {P:Int->Prop}:(∃ m:Int,[PyData.int v]=[.int m]/\P m)=P v:=propext ⟨λ⟨d,h1,h2⟩=>by cases h1;exact h2,λh=>⟨v,rfl,h⟩⟩
def KL {l:Nat} {t u:TS3} {x:PwS l t} {y:PwS l u} {ρ:Rho} {n:Nat} {Q:QO} (h:∀ Y:Rho->Nat->QO->Prop,Y=y.w->x.w ρ n (sqw Y Q)):(K1 x y).w ρ n Q:=h _ rfl
structure Mn (bw:Rho->Nat->QO->Prop):Prop where
 h:∀ ρ n (Q Q':QO),bw ρ n Q->(∀ o m,Q o m->Q' o m)->bw ρ n Q'
def PwS.mn {l:Nat} {t:TS3} (b:PwS l t):Mn b.w:=⟨λ_ _ _ _ h k=>b.mono h k⟩
section
variable {l:Nat} {g:TG3} {tb:TS3}
def qaV {gf:PyData->Option (List (Nat×PyData))} {bw:Rho->Nat->QO->Prop} {α:Type} {f:α->PyData} (xs:List α) (mono:Mn bw) (I:Nat->Rho->Nat->Prop) {ρ:Rho} {n:Nat} {Q:QO} (h0:I 0 ρ n)
  (hs:∀ i x ρ n,xs[i]?=some x->I i ρ n->∃ bs,gf (f x)=some bs/\bw (ZG ρ bs) n λo m=>match o with|.nx ρ'=>I (i+1) ρ' m|.ct ρ'=>I (i+1) ρ' m|.bk ρ'=>Q (.nx ρ') m|.rt d b=>Q (.rt d b) m)
  (k:∀ ρ n,I xs.length ρ n->Q (.nx ρ) n):qdQ gf bw (xs.map f) ρ n Q:=by
 have key:∀ (r:List α) (i:Nat) (ρ:Rho) (n:Nat),xs.drop i=r->i<=xs.length->I i ρ n->qdQ gf bw (r.map f) ρ n Q:=by
  intro r;induction r with
  |nil=>
   intro i ρ n e hi h;have:i=xs.length:=by
    have:=congrArg List.length e;simp at this;omega
   subst this;exact k ρ n h
  |cons x r ih=>
   intro i ρ n e hi h;have hl:i<xs.length:=by
    have:=congrArg List.length e;simp at this;omega
   have e':=List.drop_eq_getElem_cons hl;rw [e] at e';injection e' with e1 e2;obtain ⟨bs,h1,h2⟩:=hs i x ρ n (by rw [getElem?_eq_getElem hl,e1]) h;refine ⟨bs,h1,mono.h _ _ _ _ h2 λo m h=>?_⟩;cases o with
   |nx ρ'=>exact ih (i+1) ρ' m e2.symm hl h
   |ct ρ'=>exact ih (i+1) ρ' m e2.symm hl h
   |bk ρ'=>exact h
   |rt d b=>exact h
 exact key xs 0 ρ n (by simp) (Nat.zero_le _) h0
end
def qcy {α β:Type} {x:α} {f:α->Option β}:(some x).bind f=f x:=id rfl
def qfd {α β:Type} {x:α} {f:α->β}:(some x).map f=some (f x):=id rfl
def qnl {α:Type} {x:α} {r:List α}:(x::r).length=r.length+1:=id rfl
def qlL {α:Type}:([]:List α).length=0:=id rfl
def qlo {α:Type} {x y:α} {r:List α}:(x::r).set 0 y=y::r:=id rfl
def qjn {α:Type} {x y:α} {r:List α} {i:Nat}:(x::r).set (i+1) y=x::r.set i y:=id rfl
def qlO {α:Type} {r:List α}:r++[]=r:=List.append_nil r
def qmo {α:Type} {x:α} {r s:List α}:(x::r)++s=x::(r++s):=id rfl
def qmV {α:Type} {s:List α}:[]++s=s:=id rfl
def qk1 {n:Nat}:0+n=n:=Nat.zero_add n
def qm6 {p:Prop}:(True/\p)=p:=true_and p
def qnB {α:Type} {a b:α} {i:Decidable True}:@ite α True i a b=a:=if_pos trivial
def qmI {α:Type} {a b:α} {i:Decidable False}:@ite α False i a b=b:=if_neg not_false
def qj7:(false=true)=False:=Bool.false_eq_true
def qk9:(!true)=false:=id rfl
def qjk:(!false)=true:=id rfl
def qlb {i:Decidable True}:@decide True i=true:=decide_true i
def qjw {i:Decidable False}:@decide False i=false:=decide_false i
def qlh {b:Bool}:(b&&true)=b:=Bool.and_true b
def ql8 {b:Bool}:(true&&b)=b:=Bool.true_and b
def qjA {b:Bool}:(false&&b)=false:=Bool.false_and b
def qkx {b:Bool}:(b&&false)=false:=Bool.and_false b
def ai{a b:Prop}(x:a)(y:b):a/\b:=⟨x,y⟩
def pwA:=(ai (ai (ai (ai (ai (ai (ai @Pu.qj6 @Pu.qjH) (ai @Pu.qmB (ai @Pu.qjD @Pu.qqt))) (ai (ai @Pu.qb6 (ai @Pu.qmD @Pu.qfe)) (ai @Pu.qfw (ai @Pu.qmf @Pu.qdg)))) (ai (ai (ai @Pu.qb7 (ai @Pu.qfj @Pu.qgt)) (ai @Pu.qmm (ai @Pu.qfr @Pu.qgY))) (ai (ai @Pu.qcj (ai @Pu.qe9 @Pu.qgR)) (ai @Pu.qcK (ai @Pu.qcs @Pu.S5))))) (ai (ai (ai (ai @Pu.qmA @Pu.qge) (ai @Pu.qeT (ai @Pu.qgz @Pu.qkP))) (ai (ai @Pu.qqa (ai @Pu.qgW @Pu.qjX)) (ai @Pu.qeM (ai @Pu.qfa @Pu.qqv)))) (ai (ai (ai @Pu.qfJ (ai @Pu.qdn @Pu.qf2)) (ai @Pu.qgv (ai @Pu.qbG @Pu.qjd))) (ai (ai @Pu.qeP (ai @Pu.qlz @Pu.qgs)) (ai @Pu.qmP (ai @Pu.qbE @Pu.qcl)))))) (ai (ai (ai (ai (ai @Pu.qe0 @Pu.qlm) (ai @Pu.qeW (ai @Pu.qjf @Pu.qjO))) (ai (ai @Pu.qb8 (ai @Pu.qcV @Pu.qjB)) (ai @Pu.qgO (ai @Pu.qeL @Pu.qft)))) (ai (ai (ai @Pu.qgp (ai @Pu.qgN @Pu.qdo)) (ai @Pu.qb1 (ai @Pu.qbO @Pu.qlv))) (ai (ai @Pu.qlB (ai @Pu.qn2 @Pu.qfc)) (ai @Pu.qbQ (ai @Pu.qcA @Pu.qc5))))) (ai (ai (ai (ai @Pu.qeQ @Pu.qdw) (ai @Pu.qaI (ai @Pu.qfU @Pu.qfl))) (ai (ai @Pu.qcq (ai @Pu.qco @Pu.qqr)) (ai @Pu.qfS (ai @Pu.qcE @Pu.qe1)))) (ai (ai (ai @Pu.qdy (ai @Pu.qfn @Pu.qnu)) (ai @Pu.qga (ai @Pu.qbH @Pu.qgo))) (ai (ai @Pu.qb5 (ai @Pu.qfv @Pu.qgf)) (ai @Pu.qfT (ai @Pu.qgA @Pu.qbI))))))) (ai (ai (ai (ai (ai (ai @Pu.qmS @Pu.qdq) (ai @Pu.qcN (ai @Pu.qaZ @Pu.qaA))) (ai (ai @Pu.qan (ai @Pu.qfI @Pu.qcp)) (ai @Pu.qcg (ai @Pu.qcn @Pu.qap)))) (ai (ai (ai @Pu.MN (ai @Pu.qqh @Pu.qqm)) (ai @Pu.qnX (ai @Pu.qm7 @Pu.qcU))) (ai (ai @Pu.qfo (ai @Pu.qnL @Pu.qke)) (ai @Pu.at0 (ai @Pu.at1 @Pu.at2))))) (ai (ai (ai (ai @Pu.at3 @Pu.eqS) (ai @Pu.eqI (ai @Pu.eqB @Pu.qnj))) (ai (ai @Pu.qlr (ai @Pu.qqG @Pu.qgi)) (ai @Pu.qgq (ai @Pu.qfq @Pu.qc4)))) (ai (ai (ai @Pu.qgD (ai @Pu.qmX @Pu.qjc)) (ai @Pu.qmG (ai @Pu.qfM @Pu.qeK))) (ai (ai @Pu.qeV (ai @Pu.qe3 @Pu.qbJ)) (ai @Pu.qf1 (ai @Pu.qnN @Pu.qj2)))))) (ai (ai (ai (ai (ai @Pu.qkl @Pu.qmO) (ai @Pu.qf3 (ai @Pu.qnw @Pu.qmb))) (ai (ai @Pu.qja (ai @Pu.qnH @Pu.qeY)) (ai @Pu.qfx (ai @Pu.qnh @Pu.qqx)))) (ai (ai (ai @Pu.qqc (ai @Pu.qqD @Pu.qkB)) (ai @Pu.qnx (ai @Pu.qmz @Pu.qlG))) (ai (ai @Pu.qmk (ai @Pu.qqd @Pu.qkg)) (ai @Pu.qgw (ai @Pu.qgV @Pu.qgG))))) (ai (ai (ai (ai @Pu.qgn (ai @Pu.qnn @Pu.qcy)) (ai @Pu.qfd (ai @Pu.qnl @Pu.qlL))) (ai (ai @Pu.qlo (ai @Pu.qjn @Pu.qlO)) (ai @Pu.qmo (ai @Pu.qmV @Pu.qk1)))) (ai (ai (ai @Pu.qm6 (ai @Pu.qnB @Pu.qmI)) (ai @Pu.qj7 (ai @Pu.qk9 @Pu.qjk))) (ai (ai @Pu.qlb (ai @Pu.qjw @Pu.qlh)) (ai @Pu.ql8 (ai @Pu.qjA @Pu.qkx))))))))
def NN {H:Gp} {xs:List T} {d:PyData} {ds:List PyData} (h:Dqs H xs (d::ds)):∃ x r,xs=x::r/\Dq H x d/\Dqs H r ds:=by
 cases h with
 |cons a b=>exact ⟨_,_,rfl,a,b⟩
def qbn {H:Gp} {xs:List T} (h:Dqs H xs []):xs=[]:=by cases h;rfl
def qrb {H:Gp} {x:T} {i:Int} (h:Dq H x (.int i)):x=.int i:=by cases h;rfl
def qq3 {H:Gp} {x:T} {i:Str} (h:Dq H x (.str i)):x=.str i:=by cases h;rfl
def qfk {H:Gp} {x:T} {ds:List PyData} (h:Dq H x (.tuple ds)):∃ xs,x=.tup xs/\Dqs H xs ds:=by
 cases h with
 |tup a=>exact ⟨_,rfl,a⟩
def XX {H:Gp} {xs:List T} {i:Int} {ds:List PyData} (h:Dqs H xs (.int i::ds)):∃ r,xs=.int i::r/\Dqs H r ds:=by
 obtain ⟨x,r,rfl,a,b⟩:=NN h;exact ⟨r,by rw [qrb a],b⟩
def qdt {H:Gp} {xs:List T} {i:Str} {ds:List PyData} (h:Dqs H xs (.str i::ds)):∃ r,xs=.str i::r/\Dqs H r ds:=by
 obtain ⟨x,r,rfl,a,b⟩:=NN h;exact ⟨r,by rw [qq3 a],b⟩
def qiC {H:Gp}:∀ (cs:List (List Int)) {xs:List T},Dqs H xs (cs.map Pv.qi0)->xs=cs.map Bk.qam:=by
 intro cs;induction cs with
 |nil=>intro xs h;exact qbn h
 |cons r cs ih=>
  intro xs h;obtain ⟨x,t,rfl,a,b⟩:=NN h;obtain ⟨ys,rfl,a1⟩:=qfk a;rw [ih b,Dqs.ints a1];rfl
def qeD {H:Gp} (d:Dl):∀ {x:T},Dq H x (Pv.dlD d)->x=d.t:=by
 induction d with
 |skew r c b x y=>
  intro z h0;obtain ⟨_,rfl,h1⟩:=qfk h0;obtain ⟨_,rfl,h2⟩:=qdt h1;obtain ⟨_,rfl,h3⟩:=XX h2;obtain ⟨_,rfl,h4⟩:=XX h3;obtain ⟨_,rfl,h5⟩:=XX h4;obtain ⟨_,rfl,h6⟩:=XX h5;obtain ⟨_,rfl,h7⟩:=XX h6;rw [qbn h7];rfl
 |rests r c b p=>
  intro z h0;obtain ⟨_,rfl,h1⟩:=qfk h0;obtain ⟨_,rfl,h2⟩:=qdt h1;obtain ⟨_,rfl,h3⟩:=XX h2;obtain ⟨_,rfl,h4⟩:=XX h3;obtain ⟨_,rfl,h5⟩:=XX h4;obtain ⟨_,rfl,h6⟩:=XX h5;rw [qbn h6];rfl
 |bits hh l ms=>
  intro z h0;obtain ⟨_,rfl,h1⟩:=qfk h0;obtain ⟨_,rfl,h2⟩:=qdt h1;obtain ⟨_,rfl,h3⟩:=XX h2;obtain ⟨_,rfl,h4⟩:=XX h3;obtain ⟨_,_,rfl,a0,h5⟩:=NN h4;obtain ⟨_,rfl,a1⟩:=qfk a0;rw [qbn h5,Dqs.ints a1];rfl
 |table b cells=>
  intro z h0;obtain ⟨_,rfl,h1⟩:=qfk h0;obtain ⟨_,rfl,h2⟩:=qdt h1;obtain ⟨_,rfl,h3⟩:=XX h2;obtain ⟨_,_,rfl,a0,h4⟩:=NN h3;obtain ⟨_,rfl,a1⟩:=qfk a0;rw [qbn h4,qiC cells a1];rfl
 |joined d e ih1 ih2=>
  intro z h0;obtain ⟨_,rfl,h1⟩:=qfk h0;obtain ⟨_,rfl,h2⟩:=qdt h1;obtain ⟨_,_,rfl,a0,h3⟩:=NN h2;obtain ⟨_,_,rfl,b0,h4⟩:=NN h3;rw [qbn h4,ih1 a0,ih2 b0];rfl
def qcu:∀ (a b:Int),PyData.int a=PyData.int b->a=b:=λ_ _ h=>by injection h
def qij:∀ (a b:List Int),Pv.qi0 a=Pv.qi0 b->a=b:=λa b h=>by
 unfold Pv.qi0 at h;injection h with h;exact (List.map_inj_right qcu).mp h
def MZ:∀ (d e:Dl),Pv.dlD d=Pv.dlD e->d=e
 |.skew ..,.skew ..,h=>by simp [Pv.dlD] at h;simp [h]
 |.rests ..,.rests ..,h=>by simp [Pv.dlD] at h;simp [h]
 |.bits _ _ ms,.bits _ _ ns,h=>by
  simp only [Pv.dlD,PyData.tuple.injEq,List.cons.injEq,PyData.int.injEq,and_true,true_and,Int.natCast_inj] at h;have:=(List.map_inj_right qcu).mp h.2.2;simp [h.1,h.2.1,this]
 |.table _ cs,.table _ es,h=>by
  simp only [Pv.dlD,PyData.tuple.injEq,List.cons.injEq,PyData.int.injEq,and_true,true_and] at h;have:=(List.map_inj_right qij).mp h.2;simp [h.1,this]
 |.joined d e,.joined d' e',h=>by
  simp only [Pv.dlD,PyData.tuple.injEq,List.cons.injEq,and_true,true_and] at h;rw [MZ d d' h.1,MZ e e' h.2]
 |.skew ..,.rests ..,h=>by simp [Pv.dlD] at h
 |.skew ..,.bits ..,h=>by simp [Pv.dlD] at h
 |.skew ..,.table ..,h=>by simp [Pv.dlD] at h
 |.skew ..,.joined ..,h=>by simp [Pv.dlD] at h
 |.rests ..,.skew ..,h=>by simp [Pv.dlD] at h
 |.rests ..,.bits ..,h=>by simp [Pv.dlD] at h
 |.rests ..,.table ..,h=>by simp [Pv.dlD] at h
 |.rests ..,.joined ..,h=>by simp [Pv.dlD] at h
 |.bits ..,.skew ..,h=>by simp [Pv.dlD] at h
 |.bits ..,.rests ..,h=>by simp [Pv.dlD] at h
 |.bits ..,.table ..,h=>by simp [Pv.dlD] at h
 |.bits ..,.joined ..,h=>by simp [Pv.dlD] at h
 |.table ..,.skew ..,h=>by simp [Pv.dlD] at h
 |.table ..,.rests ..,h=>by simp [Pv.dlD] at h
 |.table ..,.bits ..,h=>by simp [Pv.dlD] at h
 |.table ..,.joined ..,h=>by simp only [Pv.dlD,PyData.tuple.injEq,List.cons.injEq,PyData.str.injEq] at h;exact absurd h.1 (by decide)
 |.joined ..,.skew ..,h=>by simp [Pv.dlD] at h
 |.joined ..,.rests ..,h=>by simp [Pv.dlD] at h
 |.joined ..,.bits ..,h=>by simp [Pv.dlD] at h
 |.joined ..,.table ..,h=>by simp only [Pv.dlD,PyData.tuple.injEq,List.cons.injEq,PyData.str.injEq] at h;exact absurd h.1 (by decide)
def the (S:PyData->Prop):Option PyData:=@dite _ (∃ v,S v) (Classical.propDecidable _) (λh=>some (Classical.choose h)) λ_=>none
def CC {S:PyData->Prop} {v:PyData} (h:the S=some v):S v:=by
 unfold the at h;split at h
 ·rename_i e;cases h;exact Classical.choose_spec e
 ·cases h
def qcw {S:PyData->Prop} {v:PyData} (h:S v) (u:∀ w,S w->w=v):the S=some v:=by
 unfold the;rw [dif_pos ⟨v,h⟩];exact congrArg some (u _ (Classical.choose_spec (⟨v,h⟩:∃ v,S v)))
def siz (d:Dl):PyData:=.tuple [.int d.R,.int d.C,.int d.B]
def qfH (G:Gp) (d:Dl):Dq G (Bk.XT d) (siz d):=.tup (.cons (.int _) (.cons (.int _) (.cons (.int _) .nil)))
def SzR (n:Nat) (ds:List PyData) (v:PyData):Prop:=∃ d:Dl,ds=[Pv.dlD d]/\d.dep<=n/\d.Ok/\v=siz d
def fSz (n:Nat):FnD (Bk.js (n+1)):=⟨λds=>the (SzR n ds),false,λ{D G xs ds v q} hx hd hf k=>by
 obtain ⟨d,rfl,h1,h2,rfl⟩:=CC hf;cases hx with
 |cons a b=>
  cases b;have:=qeD d a;subst this;exact ⟨d,rfl,h1,h2,k _ _ Ex.refl (qfH _ d) (λz=>by cases z)⟩⟩
def qqF (n:Nat):FnD (Bk.jZ (n+1)):=⟨λds=>the (SzR n ds),false,λ{D G xs ds v q} hx hd hf k=>by
 obtain ⟨d,rfl,h1,h2,rfl⟩:=CC hf;cases hx with
 |cons a b=>
  cases b;have:=qeD d a;subst this;exact ⟨d,rfl,h1,h2,λG' E=>k _ _ E (qfH _ d) (λz=>by cases z)⟩⟩
def qg7 {n:Nat} {d:Dl} (h1:d.dep<=n) (h2:d.Ok):the (SzR n [Pv.dlD d])=some (siz d):=qcw ⟨d,rfl,h1,h2,rfl⟩ λw ⟨e,a,_,_,b⟩=>by
 injection a with a;rw [b,MZ d e a]
def qcx {n:Nat}:(fSz n).f=λds=>the (SzR n ds):=id rfl
def qj1 {n:Nat}:(qqF n).f=λds=>the (SzR n ds):=id rfl
def BkR (n:Nat) (ds:List PyData) (v:PyData):Prop:=∃ (d:Dl) (i j:Int),ds=[Pv.dlD d,.tuple [.int i,.int j]]/\d.dep<=n/\d.Ok/\Bk.Inn d i j/\v=.int (d.bank i j)
def fBk (n:Nat):FnD (Bk.qbj n):=⟨λds=>the (BkR n ds),false,λ{D G xs ds v q} hx hd hf k=>by
 obtain ⟨d,i,j,rfl,h1,h2,h3,rfl⟩:=CC hf;cases hx with
 |cons a b=>cases b with
  |cons c b=>
   cases b;have:=qeD d a;subst this;cases c with
   |tup hs=>cases hs with
    |cons x hs=>cases hs with
     |cons y hs=>
      cases hs;cases x;cases y;exact ⟨d,i,j,rfl,h1,h2,h3,λG' E=>k _ _ E (.int _) (λz=>by cases z)⟩⟩
def qpB {n:Nat} {d:Dl} {i j:Int} (h1:d.dep<=n) (h2:d.Ok) (h3:Bk.Inn d i j):the (BkR n [Pv.dlD d,.tuple [.int i,.int j]])=some (.int (d.bank i j)):=qcw ⟨d,i,j,rfl,h1,h2,h3,rfl⟩ λw ⟨e,i',j',a,_,_,_,b⟩=>by
 simp only [List.cons.injEq,PyData.tuple.injEq,PyData.int.injEq,and_true] at a;rw [b,MZ d e a.1,a.2.1,a.2.2]
def LbR (n:Nat) (ds:List PyData) (v:PyData):Prop:=∃ (d:Dl) (i j:Int),ds=[Pv.dlD d,.int i,.int j]/\d.dep<=n/\d.Ok/\Bk.Inn d i j/\v=.int (d.bank i j)
def qqi (n:Nat):FnD (Bk.ZF (n+1)):=⟨λds=>the (LbR n ds),false,λ{D G xs ds v q} hx hd hf k=>by
 obtain ⟨d,i,j,rfl,h1,h2,h3,rfl⟩:=CC hf;cases hx with
 |cons a b=>cases b with
  |cons x b=>cases b with
   |cons y b=>
    cases b;have:=qeD d a;subst this;cases x;cases y;exact ⟨d,i,j,rfl,h1,h2,h3,λG' E=>k _ _ E (.int _) (λz=>by cases z)⟩⟩
def qpY {n:Nat} {d:Dl} {i j:Int} (h1:d.dep<=n) (h2:d.Ok) (h3:Bk.Inn d i j):the (LbR n [Pv.dlD d,.int i,.int j])=some (.int (d.bank i j)):=qcw ⟨d,i,j,rfl,h1,h2,h3,rfl⟩ λw ⟨e,i',j',a,_,_,_,b⟩=>by
 simp only [List.cons.injEq,PyData.int.injEq,and_true] at a;rw [b,MZ d e a.1,a.2.1,a.2.2]
def qlT {n:Nat}:(qqi n).f=λds=>the (LbR n ds):=id rfl
end Pu
namespace Pu
open PySem L2 L3
def Nr (o:Option Ot) (I:Rho->Prop) (P:PyData->Bool->Prop):Prop:=match o with
 |some (.nx ρ)=>I ρ
 |some (.ct ρ)=>I ρ
 |some (.rt d b)=>P d b
 |_=>False
def qp7 {ρ:Rho} {I:Rho->Prop} {P:PyData->Bool->Prop}:Nr (some (.nx ρ)) I P=I ρ:=id rfl
def qpG {d:PyData} {b:Bool} {I:Rho->Prop} {P:PyData->Bool->Prop}:Nr (some (.rt d b)) I P=P d b:=id rfl
def Tl (o:Option PyData) (P:PyData->Prop):Prop:=∃ d,o=some d/\P d
def LJ {gf:PyData->Option (List (Nat×PyData))} {bf:Rho->Option Ot} {α:Type} {g:α->PyData} (I:Nat->Rho->Prop) (P:PyData->Bool->Prop):∀ (xs:List α) (i:Nat) {ρ:Rho},I i ρ ->
  (∀ j x ρ,xs[j]?=some x->I (i+j) ρ->Nr ((gf (g x)).bind λbs=>bf (ZG ρ bs)) (I (i+j+1)) P)->(∃ ρ',X9 gf bf (xs.map g) ρ=some (.nx ρ')/\I (i+xs.length) ρ')\/∃ d b,X9 gf bf (xs.map g) ρ=some (.rt d b)/\P d b
 |[],i,ρ,h0,_=>.inl ⟨ρ,rfl,h0⟩
 |x::xs,i,ρ,h0,hs=>by
  have h1:=hs 0 x ρ rfl h0;have go:∀ ρ',I (i+1) ρ'->(∃ ρ2,X9 gf bf (xs.map g) ρ'=some (.nx ρ2)/\I (i+(x::xs).length) ρ2)\/∃ d b,X9 gf bf (xs.map g) ρ'=some (.rt d b)/\P d b:=λρ' h=>by
   have:=LJ I P xs (i+1) h λj y ρ2 hy hI=>by
    have q:=hs (j+1) y ρ2 hy (by rw [show i+(j+1)=i+1+j by omega];exact hI);rw [show i+(j+1)+1=i+1+j+1 by omega] at q;exact q
   rw [show i+1+xs.length=i+(x::xs).length by simp;omega] at this;exact this
  simp only [map_cons,X9];cases e:gf (g x) with
  |none=>rw [e] at h1;exact h1.elim
  |some bs=>
   rw [e] at h1;simp only [Option.bind_some] at h1 ⊢;cases e2:bf (ZG ρ bs) with
   |none=>rw [e2] at h1;exact h1.elim
   |some o=>
    rw [e2] at h1;cases o with
    |nx ρ'=>exact go ρ' h1
    |ct ρ'=>exact go ρ' h1
    |bk ρ'=>exact h1.elim
    |rt d b=>exact .inr ⟨d,b,rfl,h1⟩
def qeB {gf:PyData->Option (List (Nat×PyData))} {bf:Rho->Option Ot} {α:Type} {g:α->PyData} {ρ:Rho} {Q:Option Ot->Prop} {F:Ot->Option Ot} (xs:List α) (I:Nat->Rho->Prop) (P:PyData->Bool->Prop) (h0:I 0 ρ) (hs:∀ i x ρ,xs[i]?=some x->I i ρ->Nr ((gf (g x)).bind λbs=>bf (ZG ρ bs)) (I (i+1)) P) (k:∀ ρ',I xs.length ρ'->Q (F (.nx ρ'))) (kr:∀ d b,P d b->Q (F (.rt d b))):Q ((X9 gf bf (xs.map g) ρ).bind F):=by
 rcases LJ (gf:=gf) (bf:=bf) (g:=g) I P xs 0 h0 (λj x ρ hx hI=>by rw [Nat.zero_add] at hI ⊢;exact hs j x ρ hx hI) with ⟨ρ',e,h⟩|⟨d,b,e,h⟩
 ·rw [e];rw [Nat.zero_add] at h;exact k _ h
 ·rw [e];exact kr d b h
def qlF {xs:List PyData} {j:Nat} (h1:1<=j) (h2:j<=xs.length):L2.atI xs (-(j:Int))=xs[xs.length-j]?:=by
 have e:ixN xs.length (-(j:Int))=some (xs.length-j):=by
  unfold ixN;rw [if_neg (by omega),if_pos (by omega)];congr 1;omega
 unfold L2.atI;rw [e];rfl
def nxM (M:Rho->Nat->Prop):QO:=λo m=>match o with|.nx ρ'=>M ρ' m|_=>False
def qgM {M:Rho->Nat->Prop} {ρ:Rho} {n:Nat}:nxM M (.nx ρ) n=M ρ n:=id rfl
def qcC {l:Nat} {t u:TS3} {x:PwS l t} {y:PwS l u} {ρ:Rho} {n:Nat} {Q:QO} (M:Rho->Nat->Prop) (h1:x.w ρ n (nxM M)) (h2:∀ ρ' m,M ρ' m->y.w ρ' m Q):(K1 x y).w ρ n Q:=by
 rw [qb7];refine x.mono h1 λo m h=>?_;cases o with
 |nx ρ'=>exact h2 _ _ h
 |_=>exact h.elim
def WF {a m:Int} {n:Nat} (h:m∈jY a n):a<=m/\m<a+n:=by
 unfold jY at h;obtain ⟨i,hi,rfl⟩:=mem_map.mp h;have:=mem_range.mp hi;omega
def qjI {xs ys:List PyData} (h:xs.length+ys.length<=16777216):qiN (.list xs) (.list ys)=some (.list (xs++ys)):=jt (by rw [sizeLine_eq];exact h)
def qk5 {xs ys:List PyData} (h:xs.length+ys.length<=16777216):qnO (.list xs) (.list ys)=some (.list (xs++ys)):=jt (by rw [sizeLine_eq];exact h)
def fBi (n:Nat):FnD (Bk.JT (n+1)):=fBk n
def qor {n:Nat}:(fBi n).f=λds=>the (BkR n ds):=id rfl
end Pu
namespace Pv
open PySem L2 L3 Pu
open Bk (Wk jy jp JR lnD lnA Un2 Fst faO j8 QA U1)
def YX {lo:Int} {n i:Nat} {x:Int} (h:(jY lo n)[i]?=some x):i<n/\x=lo+i:=by
 unfold jY at h;rw [getElem?_map] at h;obtain ⟨k,e1,e2⟩:=Option.map_eq_some_iff.mp h;obtain ⟨hl,hk⟩:=List.getElem?_eq_some_iff.mp e1;simp at hl hk;subst hk;exact ⟨hl,e2.symm⟩
def UJ (lo:Int) (n:Nat):(jY lo n).length=n:=by simp [jY]
def NB {lo:Int} {n i:Nat} (h:i<n):(jY lo n)[i]?=some (lo+i):=by simp [jY,h]
def CW {d a:Int} {m:Nat} (hd:-1000<=d/\d<=1000) (ha:-1000<=a/\a<=1000) (hm:m<=10000):jd [.int d,.int a,.int m]=some (.list ((jy d a m).map pD)):=by
 rw [qdj]
 try simp only [Pu.pwA,CG]
 rw [ZQ (ds:=(jY 0 m).map PyData.int) (fs:=(jy d a m).map pD)]
 ·try simp only [Pu.pwA]
 ·try simp (disch:=omega) only [Pu.pwA,qbB,Int.toNat_natCast]
 ·have:jy d a m=(jY 0 m).map λi=>(i*d,i*a):=by simp [jy,jY,map_map,Function.comp_def]
  rw [this,map_map];refine jv λi hi=>?_
  try simp (disch:=omega) only [Pu.pwA,VF,qlA,Function.comp_def,pD]
 ·simp [jy];omega
def Big:Wk->Prop
 |.line k m=>k<4/\m<=1000
 |.block h w=>h<=1000/\w<=1000
 |.step d a m=>(-1000<=d/\d<=1000)/\(-1000<=a/\a<=1000)/\m<=1000
 |.cells ps=>ps.length<=1000
def WU {w:Wk} (ok:Big w):zj [Wk.d w]=some (.list (w.pc.map pD)):=by
 cases w with
 |cells ps=>
  rw [J0]
  try simp only [Pu.pwA,j5,Wk.d,eq_self,Wk.pc]
 |block h v=>
  obtain ⟨h1,h2⟩:=ok;rw [J0]
  try simp only [Pu.pwA,j5,Wk.d,eq_self,L3.U6,Wk.pc]
  rw [qcc (ds:=(jY 0 h).map PyData.int) (fs:=(jp h v).map pD)]
  ·try simp only [Pu.pwA]
  ·try simp (disch:=omega) only [Pu.pwA,qbB,Int.toNat_natCast]
  ·have:(jp h v).map pD=(jY 0 h).flatMap λp=>(jY 0 v).map λq=>pD (p,q):=by
    simp only [jp,jY,List.map_flatMap,map_map,List.flatMap_map,Function.comp_def,Int.zero_add]
   rw [this];refine qak λp hp=>?_
   try simp (disch:=omega) only [Pu.pwA,qfR,qbB,Int.toNat_natCast]
   rw [jv (k:=λq=>pD (p,q)) λq hq=>?_]
   ·try simp only [Pu.pwA]
   ·try simp only [Pu.pwA,VF,pD]
  ·have:=Nat.mul_le_mul h1 h2;rw [length_map,Bk.DC];omega
 |step d a m=>
  obtain ⟨h1,h2,h3⟩:=ok;rw [J0]
  try simp only [Pu.pwA,j5,Wk.d,eq_self,L3.WD,L3.DY,Wk.pc,CW h1 h2 (show m<=10000 by omega)]
 |line k m=>
  obtain ⟨h1,h2⟩:=ok;have key:∀ (s:Str) (d a:Int),¬ s=Str.ofString "cells" -> ¬ s=Str.ofString "block" -> ¬ s=Str.ofString "step" -> (-1000<=d/\d<=1000)->(-1000<=a/\a<=1000)->(jW DG s).bind tD=some (.tuple [.int d,.int a])->zj [.tuple [.str s,.int (m:Int)]]=some (.list ((jy d a m).map pD)):=by
   intro s d a n1 n2 n3 hd ha e;rw [J0]
   try simp only [Pu.pwA,j5,n1,n2,n3,e,CW (d:=d) (a:=a) (m:=m) hd ha (by omega)]
  have:(k=0\/k=1\/k=2\/k=3):=by omega
  rcases this with rfl|rfl|rfl|rfl
  ·exact key "row" 0 1 L3.MS L3.LB L3.qae (by decide) (by decide) rfl
  ·exact key "column" 1 0 L3.CQ L3.C1 L3.SI (by decide) (by decide) rfl
  ·exact key "slant" 1 1 L3.R5 L3.SD L3.T8 (by decide) (by decide) rfl
  ·exact key "back" 1 (-1) L3.KH L3.T5 L3.MA (by decide) (by decide) rfl
def faD (ns:List Int):PyData:=match faO ns with|some (i,j)=>.tuple [.int i,.int j]|none=>.none
def qq1 {ns:List Int} {x:PyData} (hl:ns.length<=1000000) (h1:qic [x]=some (.int ns.length)) (h2:∀ i,ixD x (.int i)=L2.atI (ns.map PyData.int) i):zl [x]=some (faD ns):=by
 rw [SE];have at':∀ i:Nat,i<ns.length->ixD x (.int (0+(i:Int)))=some (.int ((ns[i]?).getD 0)):=λi hi=>by
  rw [h2,Int.zero_add,atN (by simpa using hi),getElem?_map,getElem?_eq_getElem hi];rfl
 have at2:∀ i j:Nat,i+1+j<ns.length->ixD x (.int (0+(i:Int)+1+(j:Int)))=some (.int ((ns[i+1+j]?).getD 0)):=λi j hi=>by
  rw [h2,show (0+(i:Int)+1+(j:Int))=((i+1+j:Nat):Int) by omega,atN (by simpa using hi),getElem?_map,getElem?_eq_getElem hi];rfl
 have ne':∀ {a b:Nat},a<ns.length->b<ns.length->ns[a]?≠ns[b]?->(ns[a]?).getD 0≠(ns[b]?).getD 0:=λ{a b} ha hb hn e=>by
  rw [getElem?_eq_getElem ha,getElem?_eq_getElem hb] at hn e;exact hn (congrArg some e)
 try simp (disch:=omega) only [Pu.pwA,QY,h1,qbB,Int.toNat_natCast]
 have tn:∀ i:Nat,((ns.length:Int)-(0+(i:Int)+1)).toNat=ns.length-(i+1):=λi=>by omega
 by_cases hu:Un2 ns ns.length
 ·refine KN (Q:=λo=>ER false o=_) (jY 0 ns.length) (λ_ ρ=>∃ s1 s2,ρ=[.sh x,s1,s2]) ⟨_,_,rfl⟩ ?_ ?_
  ·rintro i z ρ hz ⟨s1,s2,rfl⟩;obtain ⟨hi,rfl⟩:=YX hz
   try simp (disch:=omega) only [Pu.pwA,h1,qiE,tn]
   refine KG (Q:=λo=>Nx o _) _ (λ_ ρ=>∃ s3,ρ=[.sh x,.sh (.int (0+(i:Int))),s3]) ⟨_,rfl⟩ ?_ ?_
   ·rintro j z ρ hz ⟨s3,rfl⟩;obtain ⟨hj,rfl⟩:=YX hz;have hj2:i+1+j<ns.length:=by omega
    have:=ne' hi hj2 (hu i _ hi (by omega) hj2)
    try simp only [Pu.pwA,at' i hi,at2 i j hj2,this]
    exact ⟨_,rfl⟩
   ·rintro ρ ⟨s3,rfl⟩
    try simp only [Pu.pwA]
    exact ⟨_,_,rfl⟩
  ·rintro ρ ⟨s1,s2,rfl⟩
   try simp only [Pu.pwA,faD,QA hu]
 ·obtain ⟨i,j,F⟩:=U1 hu;have hi:i<ns.length:=Nat.lt_trans F.ij F.jl;have jl:=F.jl;have ij:=F.ij;refine qiF (Q:=λo=>ER false o=_) (jY 0 ns.length) i (0+(i:Int)) (.tuple [.int i,.int j]) false (NB hi) (λ_ ρ=>∃ s1 s2,ρ=[.sh x,s1,s2]) ⟨_,_,rfl⟩ ?_ ?_ ?_
  ·rintro k z ρ hk hz ⟨s1,s2,rfl⟩;obtain ⟨hk2,rfl⟩:=YX hz
   try simp (disch:=omega) only [Pu.pwA,h1,qiE,tn]
   refine KG (Q:=λo=>Nx o _) _ (λ_ ρ=>∃ s3,ρ=[.sh x,.sh (.int (0+(k:Int))),s3]) ⟨_,rfl⟩ ?_ ?_
   ·rintro l z ρ hz ⟨s3,rfl⟩;obtain ⟨hj,rfl⟩:=YX hz;have hj2:k+1+l<ns.length:=by omega
    have:=ne' hk2 hj2 (F.un k _ hk (by omega) hj2)
    try simp only [Pu.pwA,at' k hk2,at2 k l hj2,this]
    exact ⟨_,rfl⟩
   ·rintro ρ ⟨s3,rfl⟩
    try simp only [Pu.pwA]
    exact ⟨_,_,rfl⟩
  ·rintro ρ ⟨s1,s2,rfl⟩
   try simp (disch:=omega) only [Pu.pwA,h1,qiE,tn]
   refine XO (Q:=λo=>o=_) _ (j-(i+1)) (0+(i:Int)+1+((j-(i+1):Nat):Int)) (.tuple [.int i,.int j]) false (NB (by omega)) (λ_ ρ=>∃ s3,ρ=[.sh x,.sh (.int (0+(i:Int))),s3]) ⟨_,rfl⟩ ?_ ?_ rfl
   ·rintro l z ρ hl hz ⟨s3,rfl⟩;obtain ⟨hj,rfl⟩:=YX hz;have hj2:i+1+l<ns.length:=by omega
    have:=ne' hi hj2 (F.nb _ (by omega) (by omega))
    try simp only [Pu.pwA,at' i hi,at2 i l hj2,this]
    exact ⟨_,rfl⟩
   ·rintro ρ ⟨s3,rfl⟩;have hj2:i+1+(j-(i+1))<ns.length:=by omega
    have ej:i+1+(j-(i+1))=j:=by omega
    have e2:(ns[i]?).getD 0=(ns[i+1+(j-(i+1))]?).getD 0:=by rw [ej,F.eq]
    try simp only [Pu.pwA,at' i hi,at2 i _ hj2,e2]
    rw [show (0+(i:Int))=i by omega,show ((i:Int)+1+((j-(i+1):Nat):Int))=j by omega]
  ·try simp only [Pu.pwA,faD,j8 F]
def qjt {ns:List Int} (hl:ns.length<=1000000):zl [.list (ns.map PyData.int)]=some (faD ns):=qq1 hl (by simp [qic]) λ_=>rfl
end Pv
namespace Pv
open PySem L2 L3 Pu
open Bk (Wk Dl jy jp JR lnD lnA Un2 Fst faO j8 QA U1)
def qfX {w:Wk} (ok:w.Ok):Big w:=by
 cases w with
 |line k m=>obtain ⟨h1,h2,h3⟩:=ok;exact ⟨h1,by omega⟩
 |block h v=>obtain ⟨h1,h2,h3,h4,h5⟩:=ok;exact ⟨by omega,by omega⟩
 |step d a m=>obtain ⟨h1,h2,h3,h4⟩:=ok;exact ⟨by omega,by omega,by omega⟩
 |cells ps=>have h:=ok.2.1;show ps.length<=1000;omega
def RF {w:Wk} (ok:Big w):w.pc.length<=1000000:=by
 cases w with
 |line k m=>simp only [Wk.pc,jy,length_map,length_range];have:=ok.2;omega
 |block h v=>simp only [Wk.pc,Bk.DC];exact Nat.mul_le_mul ok.1 ok.2
 |step d a m=>simp only [Wk.pc,jy,length_map,length_range];have:=ok.2.2;omega
 |cells ps=>have:ps.length<=1000:=ok;simp only [Wk.pc];omega
def dn (cs:List (Int×Int)):List Int:=cs.map λp=>p.1
def al (cs:List (Int×Int)):List Int:=cs.map λp=>p.2
def stI (R C:Int) (cs:List (Int×Int)):List (Int×Int):=(jY (-(mn (dn cs))) (R-mx (dn cs) - -(mn (dn cs))).toNat).flatMap λi=>(jY (-(mn (al cs))) (C-mx (al cs) - -(mn (al cs))).toNat).map λj=>(i,j)
def qaU {α β:Type} (xs:List α) (ys:List β) {γ:Type} (f:α->β->γ):(xs.flatMap λa=>ys.map λb=>f a b).length=xs.length*ys.length:=by
 induction xs with
 |nil=>simp
 |cons a r ih=>simp only [List.flatMap_cons,length_append,length_map,ih,length_cons,Nat.succ_mul];omega
structure Cb (cs:List (Int×Int)):Prop where
 ne:cs≠[]
 b:∀ p∈cs,(-1000000<=p.1/\p.1<=1000000)/\(-1000000<=p.2/\p.2<=1000000)
def Cb.lim {cs:List (Int×Int)} (h:Cb cs):(-1000000<=mn (dn cs)/\mn (dn cs)<=mx (dn cs)/\mx (dn cs)<=1000000)/\(-1000000<=mn (al cs)/\mn (al cs)<=mx (al cs)/\mx (al cs)<=1000000):=by
 have n1:dn cs≠[]:=by simp [dn,h.ne]
 have n2:al cs≠[]:=by simp [al,h.ne]
 have m1:=qaM n1;have m2:=qaq n1;have m3:=qaM n2;have m4:=qaq n2;have l1:=qbr m2;have l2:=qbr m4;have b1:∀ x∈dn cs,-1000000<=x/\x<=1000000:=λx hx=>by
  obtain ⟨p,hp,rfl⟩:=mem_map.mp hx;exact (h.b p hp).1
 have b2:∀ x∈al cs,-1000000<=x/\x<=1000000:=λx hx=>by
  obtain ⟨p,hp,rfl⟩:=mem_map.mp hx;exact (h.b p hp).2
 have:=b1 _ m1;have:=b1 _ m2;have:=b2 _ m3;have:=b2 _ m4;omega
def qds {R C:Int} {cs:List (Int×Int)} (h:Cb cs) (hR:R<=4096) (hC:C<=4096):(stI R C cs).length<=16777216:=by
 obtain ⟨⟨h1,h2,h3⟩,⟨h4,h5,h6⟩⟩:=h.lim;unfold stI;rw [qaU,UJ,UJ];have a:(R-mx (dn cs) - -(mn (dn cs))).toNat<=4096:=by omega
 have b:(C-mx (al cs) - -(mn (al cs))).toNat<=4096:=by omega
 exact Nat.le_trans (Nat.mul_le_mul a b) (by decide)
end Pv
namespace Pv
open PySem L2 L3 Pu
open Bk (pop qbl YW WE CD CH Dl zP V9 Q8 UE)
end Pv
namespace Pv
open PySem L2 L3 Pu
open Bk (pop qbl YW WE CD CH Dl)
end Pv
namespace Pv
open PySem L2 L3 Pu
open Bk (pop qbl YW WE Dl)
end Pv
namespace Hd
open PySem L2 L3 PySem.W
def oF (x:Str) (st:Stmt) (pm cd:Value):Obj:=⟨.type "function",none,.func (PySem.W.fnOf x x (Y0 st) (jM st) (qk st) .none .none .none pm none cd .none),#[]⟩
def oG (x:Str) (st:Stmt):Obj:=⟨.none,none,.func { name:=x,qualname:=x,params:=Y0 st,body:=.stmts (jM st),scope:=qk st,globals:=0,closure:=[],defaults:=.none,kwdefaults:=.none },#[]⟩
def oC (vs:List Value):Obj:=⟨.type "code",none,.fields vs.toArray,#[]⟩
def oT (vs:List Value):Obj:=⟨.type "tuple",none,.seq vs.toArray 0,#[]⟩
def eD (P:Params):Value×Value->DictEntry
 | (.str x t,v)=>⟨PyData.keyHash P x,.str x t,v⟩
 | (u,v)=>⟨0,u,v⟩
def oD (P:Params) (n:Nat) (es:List (Value×Value)):Obj:=⟨.type "dict",none,.dict (es.map (eD P)).toArray n,#[]⟩
def oK (x:Str) (t l n m:Nat) (a b:Addr) (u v z:Value) (e y q:Nat):Obj:=oC [.str x t,.str x (t+1),.str "/claim/cut.py" (t+2),.int l 0,.int n 0,.int 0 0,.int 0 0,.int 3 0,.ref a,.bool true,.int m 0,.ref b,u,v,z,.ref e,.int y 0,.int l 0,.str "/claim/cut.py" q]
def nmV:List Str->Nat->List Value
 |[],_=>[]
 |x::r,t=>.str x t::nmV r (t+1)
def oN (xs:List Str) (t:Nat):Obj:=oT (nmV xs t)
abbrev nd (o:Obj) (l r:PySem.W.BT):PySem.W.BT:=.node o l r
abbrev lf (o:Obj):PySem.W.BT:=.node o .nil .nil
def zx {K:Frg} (x:Str) (st:Stmt) (f:Addr) (pm cd:Value) (l:K.lookup f=some (oF x st pm cd)) (c:PySem.W.codeIn K cd x=true) (k:PySem.W.keepIn K (.ref f)=true) :
  Fun K x x st f (PySem.W.fnOf x x (Y0 st) (jM st) (qk st) .none .none .none pm none cd .none):=qj9 l c k
def zu {K:Frg} {h:Heap} {mg:Str->Option Value} (X:K.In h) (G:h.Ns mainGlobals mg) (n:Str) (v:Value) (e:PySem.W.nsIn K mainGlobals n=some (some v)):mg n=some v:=PySem.W.mg_of X G e
def WB {K:Frg} {h:Heap} {mg:Str->Option Value} (X:K.In h) (G:h.Ns mainGlobals mg) (n:Str) (e:PySem.W.nsIn K mainGlobals n=some none):mg n=none:=PySem.W.mg_none_of X G e
def head {l:OpenLaw} {q:Program} {loose:List Str} {K:Params->Frag} {as:List Addr} {d:DefRec} {N:Nat} {k:Nat} {x:Str} (ha:∀ P,as=(K P).map (·.1))
  (ok:l.wellSaid=true)
  (left:LeftO l.prog q loose (λs=>xlAt q [] s&&recOk [] s) (λs=>as.map s.heap.get?) (λw=>(K w.params).map λp=>some p.2) N)
  (hdef:defOf q l.name=some (d,[])) (hp:l.prog.theDef l.name=some (d.params,d.body,d.scope)) (hk:kwWritten? d.params.kwonlyargs d.params.kw_defaults=some [])
  (hwr:(!l.row.writes||l.row.records.isEmpty)=true) (ok2:(chainsOk q&&opensWell l.prog&&(frees l.row.toRowW&&l.row.within.isEmpty))=true) (hb:l.prog.bare) (hw:l.row.toRowW.promised)
  (hn:l.most=some 63) (hdf:d.params.defaults=[]) (hr:Room k callerA) (hK:∀ w:World,WQ (K w.params)=true)
  (F:∀ (w:World) (mg:Str->Option Value) (fa:Addr) (h:Heap),(K w.params).In h->h.Ns mainGlobals mg->mg d.name=some (.ref fa) ->
   ∃ fd:FuncData,(∀ (s:Shared) (u:Value),BindsTo s fd ⟨[u],[]⟩ [(x,u)])/\∀ base:Heap,(K w.params).In base->base.Ns mainGlobals mg->FnOk l.prog w (K w.params) mg base CX0 k fa fd [x] (lSp (K w.params) S7)):l.Holds:=by
 refine holds_law ok λsaid=>?_;exact holds_open (q:=q) (loose:=loose) (Xt:=λs=>xlAt q [] s&&recOk [] s) (XP:=XL q []) (Yf:=Hook.obs (kHook K as ha)) (Ya:=Hook.val (kHook K as ha)) (YP:=Hook.says (kHook K as ha)) (N:=N) left
  (Hook.of (kHook K as ha)) (Hook.keeps (kHook K as ha)) (λs e=>xl_of s (Bool.and_eq_true_iff.mp e).1) XL.keeps hdef hp hk (λs e=>recFacts_of (Bool.and_eq_true_iff.mp e).2) hwr said ok2 hb hw
  (L3.qo0 (l:=l) (k:=k) (x:=x) hn hdf hr (λw h Y=>kIn_of Y) hK F)
end Hd
namespace K17
open PySem L2 L3 Bk
def top (i : Nat) : Stmt := PySem.Challenge.pw_bankwalk_k17_clashes_shown.main.body.getD i (.Pass ⟨0,0,0,0⟩)
variable {P:Program} {w:World} {K:Frg} {mg:Str->Option Value} {base:Heap} {f:Addr} {fd:FuncData} {k:Nat} {sp:Sp3}
abbrev QI:Stmt:=top 1
abbrev YC:List Str:=["thing"]
abbrev EX:List Str:=["thing"]
def ME:FnScope YC EX (qk QI):=⟨rfl,rfl,rfl,by decide +kernel,rfl,by decide +kernel,by decide +kernel⟩
def LZ (F:Fun K "is_number" "is_number" QI f fd) (bd:zi K fd EX []) (hm:mg "is_number" = some (.ref f))  (m_isinstance:mg "isinstance" = none) (m_bool:mg "bool" = none) (m_int:mg "int" = none)
  (read:Rd sp 1 (Bk.YT) YC):Fn3 P w K mg base (k+1) "is_number" sp:=
 qC (t3:=(Bk.YT)) F ME bd hm (λcdv A outer s H E hr=>(qo (qr (V1 (LX (qc 0) rfl m_isinstance rfl m_int PyProof.Rows.boot_int) (WC (qm4 (LX (qc 0) rfl m_isinstance rfl m_bool PyProof.Rows.boot_bool))))))) read
abbrev JJ:Stmt:=top 2
abbrev JQ:List Str:=["thing"]
abbrev CS:List Str:=["thing"]
def qa4:FnScope JQ CS (qk JJ):=⟨rfl,rfl,rfl,by decide +kernel,rfl,by decide +kernel,by decide +kernel⟩
def qa7 {S_is_number:Sp3} (F:Fun K "is_pair" "is_pair" JJ f fd) (bd:zi K fd CS []) (hm:mg "is_pair" = some (.ref f)) (qX:Fn3 P w K mg base k "is_number" S_is_number) (m_len:mg "len" = none) (m_isinstance:mg "isinstance" = none) (m_tuple:mg "tuple" = none)
  (read:Rd sp 1 (Bk.EY S_is_number) JQ):Fn3 P w K mg base (k+1) "is_pair" sp:=
 qC (t3:=(Bk.EY S_is_number)) F qa4 bd hm (λcdv A outer s H E hr=>(qo (qr (V1 (LX (qc 0) rfl m_isinstance rfl m_tuple PyProof.Rows.boot_tuple) (V1 (JL (ze hr.units) qJ (qz zd zt rfl m_len PySem.boot_len (qa (qc 0) qd)) qe (qB _)) (V1 (qg qX hr rfl (qa (qu (qc 0) qe) qd)) (WC (qg qX hr rfl (qa (qu (qc 0) qe) qd))))))))) read
abbrev zz:Stmt:=top 3
abbrev zL:List Str:=["thing","end"]
abbrev j6:List Str:=["thing","end"]
def DB:FnScope zL j6 (qk zz):=⟨rfl,rfl,rfl,by decide +kernel,rfl,by decide +kernel,by decide +kernel⟩
def jq (S_is_number:Sp3):TS3:=(qD (zk (cb3 S_is_number (qb (v3 0) qh)) (ch3 (iB λi j=>decide (i<=j)) (iB λi j=>decide (i<j)) (c3 (.int 0)) (v3 0) (v3 1))))
def E9 {S_is_number:Sp3} (F:Fun K "is_number_below" "is_number_below" zz f fd) (bd:zi K fd j6 []) (hm:mg "is_number_below" = some (.ref f)) (qX:Fn3 P w K mg base k "is_number" S_is_number) 
  (read:Rd sp 2 (jq S_is_number) zL):Fn3 P w K mg base (k+1) "is_number_below" sp:=
 qC (t3:=(jq S_is_number)) F DB bd hm (λcdv A outer s H E hr=>(qo (qr (V1 (qg qX hr rfl (qa (qc 0) qd)) (WC (T4 qhp jV TV jV qe (qc 0) (qc 1))))))) read
abbrev jC:Stmt:=top 4
abbrev DS:List Str:=["things","k","l"]
abbrev J6:List Str:=["things"]
def JA:FnScope DS J6 (qk jC):=⟨rfl,rfl,rfl,by decide +kernel,rfl,by decide +kernel,by decide +kernel⟩
def R8 (F:Fun K "first_alike" "first_alike" jC f fd) (bd:zi K fd J6 []) (hm:mg "first_alike" = some (.ref f))  (m_len:mg "len" = none) (m_range:mg "range" = none)
  (read:Rd sp 1 (Bk.Q4) DS):Fn3 P w K mg base (k+1) "first_alike" sp:=
 qC (t3:=(Bk.Q4)) F JA bd hm (λcdv A outer s H E hr=>(qf (JK PassesOwn.never rfl (qU rfl m_range (qa (qz zd zt rfl m_len PySem.boot_len (qa (qc 0) qd)) qd) (h1:=by intro _ _ _ h;simpa [qb,qh] using h)) (qq (i:=1) (JA.nd)) (qo (JK PassesOwn.never rfl (VL rfl m_range (qa (qA (qc 1) qe) (qa (qz zd zt rfl m_len PySem.boot_len (qa (qc 0) qd)) qd)) (h1:=by intro _ _ _ h;simpa [qb,qh] using h)) (qq (i:=2) (JA.nd)) (qo (zr (qL (ze hr.units) qJ (qu (qc 0) (qc 1)) (qu (qc 0) (qc 2)) (qB _)) (qo (qr (qv (qa (qc 1) (qa (qc 2) qd))))) qR))))) (qo (qr MP)))) read
abbrev QW:Stmt:=top 5
abbrev j3:List Str:=["things","k","l"]
abbrev EB:List Str:=["things","k","l"]
def MI:FnScope j3 EB (qk QW):=⟨rfl,rfl,rfl,by decide +kernel,rfl,by decide +kernel,by decide +kernel⟩
def YJ (S_is_number_below:Sp3):TS3:=(qx (za (or3 (JB (tb3 (cb3 S_is_number_below (qb (v3 1) (qb (cb3 jE (qb (v3 0) qh)) qh))))) (JB (tb3 (cb3 S_is_number_below (qb (v3 2) (qb (cb3 jE (qb (v3 0) qh)) qh)))))) (qD (c3 (.bl false))) qw) (qD (zk (o3 (iB λi j=>decide (i<j)) (v3 1) (v3 2)) (o3 (zh false) (o3 ix3 (v3 0) (v3 1)) (o3 ix3 (v3 0) (v3 2))))))
def LP {S_is_number_below:Sp3} (F:Fun K "are_alike" "are_alike" QW f fd) (bd:zi K fd EB []) (hm:mg "are_alike" = some (.ref f)) (qH:Fn3 P w K mg base k "is_number_below" S_is_number_below) (m_len:mg "len" = none)
  (read:Rd sp 3 (YJ S_is_number_below) j3):Fn3 P w K mg base (k+1) "are_alike" sp:=
 qC (t3:=(YJ S_is_number_below)) F MI bd hm (λcdv A outer s H E hr=>(qf (zr (jpt (qig (SJ (XE (qg qH hr rfl (qa (qc 1) (qa (qz zd zt rfl m_len PySem.boot_len (qa (qc 0) qd)) qd))))) (qcR (SJ (XE (qg qH hr rfl (qa (qc 2) (qa (qz zd zt rfl m_len PySem.boot_len (qa (qc 0) qd)) qd)))))))) (qo (qr XU)) qR) (qo (qr (V1 (JL TV jV (qc 1) (qc 2) (qB _)) (WC (JL (ze hr.units) qJ (qu (qc 0) (qc 1)) (qu (qc 0) (qc 2)) (qB _)))))))) read
abbrev JN:Stmt:=top 10
abbrev RR:List Str:=["dealing","kind","rows","columns","banks","other_rows","other_columns","other_banks"]
abbrev RY:List Str:=["dealing"]
def jJ:FnScope RR RY (qk JN):=⟨rfl,rfl,rfl,by decide +kernel,rfl,by decide +kernel,by decide +kernel⟩
def WY {S_size_of:Sp3} (F:Fun K "size_of" "size_of" JN f fd) (bd:zi K fd RY []) (hm:mg "size_of" = some (.ref f)) (F_size_of:Fn3 P w K mg base k "size_of" S_size_of) (m_len:mg "len" = none)
  (read:Rd sp 1 (Bk.DX S_size_of) RR):Fn3 P w K mg base (k+1) "size_of" sp:=
 qC (t3:=(Bk.DX S_size_of)) F jJ bd hm (λcdv A outer s H E hr=>(qf (qM 1 jJ.nd (qu (qc 0) qe)) (qf (zr (qL (ze hr.units) qJ (qc 1) qK (qB _)) (qo (qr (qv (qa (qaY qe (qu (qc 0) qe)) (qa (qaY qe (qu (qc 0) qe)) (qa (qaY qe (qz zd zt rfl m_len PySem.boot_len (qa (qu (qc 0) qe) qd))) qd)))))) qR) (qf (zr (qL (ze hr.units) qJ (qc 1) qK (qB _)) (qo (qr (qv (qa (qz zd zt rfl m_len PySem.boot_len (qa (qu (qc 0) qe) qd)) (qa (qz zd zt rfl m_len PySem.boot_len (qa (qu (qu (qc 0) qe) qe) qd)) (qa (qu (qc 0) qe) qd)))))) qR) (qf (zr (qL (ze hr.units) qJ (qc 1) qK (qB _)) (qf (jA (qg F_size_of hr rfl (qa (qu (qc 0) qe) qd)) (zB rfl (qp (qq (i:=2) (jJ.nd)) (qp (qq (i:=3) (jJ.nd)) (qp (qq (i:=4) (jJ.nd)) zC))))) (qf (jA (qg F_size_of hr rfl (qa (qu (qc 0) qe) qd)) (zB rfl (qp (qq (i:=5) (jJ.nd)) (qp (qq (i:=6) (jJ.nd)) (qp (qq (i:=7) (jJ.nd)) zC))))) (qo (qr (qv (qa (zp (qc 2) (qc 5)) (qa (zp (qc 3) (qc 6)) (qa (zp (qc 4) (qc 7)) qd)))))))) qR) (qo (qr (qv (qa (qu (qc 0) qe) (qa (qu (qc 0) qe) (qa (qu (qc 0) qe) qd))))))))))) read
abbrev QS:Stmt:=top 11
abbrev EL:List Str:=["dealing","word","rows","columns","banks"]
abbrev ED:List Str:=["dealing","word"]
def Z0:FnScope EL ED (qk QS):=⟨rfl,rfl,rfl,by decide +kernel,rfl,by decide +kernel,by decide +kernel⟩
def VZ {S_size_of:Sp3} (F:Fun K "number_of" "number_of" QS f fd) (bd:zi K fd ED []) (hm:mg "number_of" = some (.ref f)) (F_size_of:Fn3 P w K mg base k "size_of" S_size_of) 
  (read:Rd sp 2 (Bk.YL S_size_of) EL):Fn3 P w K mg base (k+1) "number_of" sp:=
 qC (t3:=(Bk.YL S_size_of)) F Z0 bd hm (λcdv A outer s H E hr=>(qf (jA (qg F_size_of hr rfl (qa (qc 0) qd)) (zB rfl (qp (qq (i:=2) (Z0.nd)) (qp (qq (i:=3) (Z0.nd)) (qp (qq (i:=4) (Z0.nd)) zC))))) (qo (qr (qA (zp (qu (qc 1) qe) (qc 3)) (qu (qc 1) qe)))))) read
abbrev JW:Stmt:=top 12
abbrev VN:List Str:=["dealing","thing","rows","columns","banks"]
abbrev C0:List Str:=["dealing","thing"]
def UK:FnScope VN C0 (qk JW):=⟨rfl,rfl,rfl,by decide +kernel,rfl,by decide +kernel,by decide +kernel⟩
def qbh {S_is_pair:Sp3} {S_size_of:Sp3} (F:Fun K "is_word" "is_word" JW f fd) (bd:zi K fd C0 []) (hm:mg "is_word" = some (.ref f)) (zK:Fn3 P w K mg base k "is_pair" S_is_pair) (F_size_of:Fn3 P w K mg base k "size_of" S_size_of) 
  (read:Rd sp 2 (Bk.DF S_is_pair S_size_of) VN):Fn3 P w K mg base (k+1) "is_word" sp:=
 qC (t3:=(Bk.DF S_is_pair S_size_of)) F UK bd hm (λcdv A outer s H E hr=>(qf (zr (SJ (XE (qg zK hr rfl (qa (qc 1) qd)))) (qo (qr XU)) qR) (qf (jA (qg F_size_of hr rfl (qa (qc 0) qd)) (zB rfl (qp (qq (i:=2) (UK.nd)) (qp (qq (i:=3) (UK.nd)) (qp (qq (i:=4) (UK.nd)) zC))))) (qo (qr (V1 (T4 qhp jV TV jV qe (qu (qc 1) qe) (qc 2)) (WC (T4 qhp jV TV jV qe (qu (qc 1) qe) (qc 3))))))))) read
abbrev zY:Stmt:=top 13
abbrev ZN:List Str:=["number","mask","common","many"]
abbrev ZU:List Str:=["number","mask"]
def zX:FnScope ZN ZU (qk zY):=⟨rfl,rfl,rfl,by decide +kernel,rfl,by decide +kernel,by decide +kernel⟩
def XV (F:Fun K "odd_in_common" "odd_in_common" zY f fd) (bd:zi K fd ZU []) (hm:mg "odd_in_common" = some (.ref f))  
  (read:Rd sp 2 (Bk.jS) ZN):Fn3 P w K mg base (k+1) "odd_in_common" sp:=
 qC (t3:=(Bk.jS)) F zX bd hm (λcdv A outer s H E hr=>(qf (qM 2 zX.nd (KC (qc 0) (qc 1))) (qf (qM 3 zX.nd qe) (qf (qaP PassesOwn.never (qL qdv jV (qc 2) qe (qB _)) (qf (qbL 3 zX.nd (KC (qc 2) qe)) (qo (qM 2 zX.nd (qkL (qc 2) qe))))) (qo (qr (JL (ze hr.units) qJ (KC (qc 3) qe) qe (qB _)))))))) read
abbrev QG:Stmt:=top 14
abbrev CT:List Str:=["masks","number"]
abbrev EJ:List Str:=["masks","number"]
def MW:FnScope CT EJ (qk QG):=⟨rfl,rfl,rfl,by decide +kernel,rfl,by decide +kernel,by decide +kernel⟩
def K0 {S_odd_in_common:Sp3} (F:Fun K "bits_bank" "bits_bank" QG f fd) (bd:zi K fd EJ []) (hm:mg "bits_bank" = some (.ref f)) (F_odd_in_common:Fn3 P w K mg base k "odd_in_common" S_odd_in_common) (m_enumerate:mg "enumerate" = none) (m_sum:mg "sum" = none)
  (read:Rd sp 2 (Bk.YY S_odd_in_common) CT):Fn3 P w K mg base (k+1) "bits_bank" sp:=
 qC (t3:=(Bk.YY S_odd_in_common)) F MW bd hm (λcdv A outer s H E hr=>(qo (qr (qz (DN rfl) qdb rfl m_sum PyProof.Rows.boot_sum (qa (YE ["t","mask","number"] [none,none,some 1] rfl (qda rfl m_enumerate (qa (qc 0) qd)) (λ_ _ _=>(zB rfl (qp (jgn 0) (qp (jgn 1) zC)))) (λ_ _ _=>qcd (XE (qg F_odd_in_common hr rfl (qa (qc 2) (qa (qc 1) qd))))) (λ_ _ _=>(qaY qe (qc 0))) (by kernel_rfl) (by kernel_rfl)) qd))))) read
abbrev VM:Stmt:=top 15
abbrev TN:List Str:=["word","rows","columns","i","j"]
abbrev T2:List Str:=["word","rows","columns"]
def C8:FnScope TN T2 (qk VM):=⟨rfl,rfl,rfl,by decide +kernel,rfl,by decide +kernel,by decide +kernel⟩
def qb4 (F:Fun K "parted" "parted" VM f fd) (bd:zi K fd T2 []) (hm:mg "parted" = some (.ref f))  
  (read:Rd sp 3 (Bk.X3) TN):Fn3 P w K mg base (k+1) "parted" sp:=
 qC (t3:=(Bk.X3)) F C8 bd hm (λcdv A outer s H E hr=>(qf (jA (qc 0) (zB rfl (qp (qq (i:=3) (C8.nd)) (qp (qq (i:=4) (C8.nd)) zC)))) (qo (qr (qv (qa (qv (qa (U3 (qc 3) (qc 1)) (qa (U3 (qc 4) (qc 2)) qd))) (qa (qv (qa (QR (qc 3) (qc 1)) (qa (QR (qc 4) (qc 2)) qd))) qd))))))) read
abbrev jB:Stmt:=top 16
abbrev JZ:List Str:=["one","other","word","rows","columns","banks","upper","lower"]
abbrev YB:List Str:=["one","other","word"]
def zZ:FnScope JZ YB (qk jB):=⟨rfl,rfl,rfl,by decide +kernel,rfl,by decide +kernel,by decide +kernel⟩
def Z9 {S_size_of:Sp3} {S_parted:Sp3} {S_bank_in:Sp3} (F:Fun K "joined_bank" "joined_bank" jB f fd) (bd:zi K fd YB []) (hm:mg "joined_bank" = some (.ref f)) (F_size_of:Fn3 P w K mg base k "size_of" S_size_of) (F_parted:Fn3 P w K mg base k "parted" S_parted) (F_bank_in:Fn3 P w K mg base k "bank_in" S_bank_in) 
  (read:Rd sp 3 (Bk.Q0 S_size_of S_parted S_bank_in) JZ):Fn3 P w K mg base (k+1) "joined_bank" sp:=
 qC (t3:=(Bk.Q0 S_size_of S_parted S_bank_in)) F zZ bd hm (λcdv A outer s H E hr=>(qf (jA (qg F_size_of hr rfl (qa (qc 1) qd)) (zB rfl (qp (qq (i:=3) (zZ.nd)) (qp (qq (i:=4) (zZ.nd)) (qp (qq (i:=5) (zZ.nd)) zC))))) (qf (jA (qg F_parted hr rfl (qa (qc 2) (qa (qc 3) (qa (qc 4) qd)))) (zB rfl (qp (qq (i:=6) (zZ.nd)) (qp (qq (i:=7) (zZ.nd)) zC)))) (qo (qr (qA (zp (qg F_bank_in hr rfl (qa (qc 0) (qa (qc 6) qd))) (qc 5)) (qg F_bank_in hr rfl (qa (qc 1) (qa (qc 7) qd))))))))) read
abbrev JI:Stmt:=top 17
abbrev CY:List Str:=["dealing","word","kind"]
abbrev CO:List Str:=["dealing","word"]
def S6:FnScope CY CO (qk JI):=⟨rfl,rfl,rfl,by decide +kernel,rfl,by decide +kernel,by decide +kernel⟩
def WP {S_number_of:Sp3} {S_bits_bank:Sp3} {S_joined_bank:Sp3} (F:Fun K "bank_in" "bank_in" JI f fd) (bd:zi K fd CO []) (hm:mg "bank_in" = some (.ref f)) (F_number_of:Fn3 P w K mg base k "number_of" S_number_of) (F_bits_bank:Fn3 P w K mg base k "bits_bank" S_bits_bank) (F_joined_bank:Fn3 P w K mg base k "joined_bank" S_joined_bank) 
  (read:Rd sp 2 (Bk.DW S_number_of S_bits_bank S_joined_bank) CY):Fn3 P w K mg base (k+1) "bank_in" sp:=
 qC (t3:=(Bk.DW S_number_of S_bits_bank S_joined_bank)) F S6 bd hm (λcdv A outer s H E hr=>(qf (qM 2 S6.nd (qu (qc 0) qe)) (qf (zr (qL (ze hr.units) qJ (qc 2) qK (qB _)) (qo (qr (QR (qA (zp (qu (qc 0) qe) (qu (qc 1) qe)) (zp (qu (qc 0) qe) (qu (qc 1) qe))) (qu (qc 0) qe)))) qR) (qf (zr (qL (ze hr.units) qJ (qc 2) qK (qB _)) (qo (qr (QR (qg F_number_of hr rfl (qa (qc 0) (qa (qc 1) qd))) (qu (qc 0) qe)))) qR) (qf (zr (qL (ze hr.units) qJ (qc 2) qK (qB _)) (qo (qr (qg F_bits_bank hr rfl (qa (qu (qc 0) qe) (qa (qg F_number_of hr rfl (qa (qc 0) (qa (qc 1) qd))) qd))))) qR) (qf (zr (qL (ze hr.units) qJ (qc 2) qK (qB _)) (qo (qr (qu (qu (qu (qc 0) qe) (qu (qc 1) qe)) (qu (qc 1) qe)))) qR) (qo (qr (qg F_joined_bank hr rfl (qa (qu (qc 0) qe) (qa (qu (qc 0) qe) (qa (qc 1) qd)))))))))))) read
abbrev VU:Stmt:=top 20
abbrev qaT:List Str:=["down","along","many"]
abbrev TX:List Str:=["down","along","many"]
def qci:FnScope qaT TX (qk VU):=⟨rfl,rfl,rfl,by decide +kernel,rfl,by decide +kernel,by decide +kernel⟩
def qc7 (F:Fun K "strung" "strung" VU f fd) (bd:zi K fd TX []) (hm:mg "strung" = some (.ref f))  (m_range:mg "range" = none)
  (read:Rd sp 3 (Bk.CJ) qaT):Fn3 P w K mg base (k+1) "strung" sp:=
 qC (t3:=(Bk.CJ)) F qci bd hm (λcdv A outer s H E hr=>(qo (qr (YE ["t","down","along"] [none,some 0,some 1] rfl (qU rfl m_range (qa (qc 2) qd) (h1:=by intro _ _ _ h;simpa [qb,qh] using h)) (λ_ _ _=>(jgn 0)) (λ_ _ _=>zQ) (λ_ _ _=>(qv (qa (zp (qc 0) (qc 1)) (qa (zp (qc 0) (qc 2)) qd)))) (by kernel_rfl) (by kernel_rfl))))) read
abbrev Q9:Stmt:=top 21
abbrev S8:List Str:=["walk","kind","down","along"]
abbrev WS:List Str:=["walk"]
def YU:FnScope S8 WS (qk Q9):=⟨rfl,rfl,rfl,by decide +kernel,rfl,by decide +kernel,by decide +kernel⟩
def qab {S_strung:Sp3} (F:Fun K "cells_of" "cells_of" Q9 f fd) (bd:zi K fd WS []) (hm:mg "cells_of" = some (.ref f)) (jd:Fn3 P w K mg base k "strung" S_strung) (m_list:mg "list" = none) (m_range:mg "range" = none) (m_STRIDES:Tb K mg w "STRIDES" DG)
  (read:Rd sp 1 (Bk.V8 S_strung) S8):Fn3 P w K mg base (k+1) "cells_of" sp:=
 qC (t3:=(Bk.V8 S_strung)) F YU bd hm (λcdv A outer s H E hr=>(qf (qM 1 YU.nd (qu (qc 0) qe)) (qf (zr (qL (ze hr.units) qJ (qc 1) qK (qB _)) (qo (qr (zA XF qau rfl m_list PyProof.Rows.boot_list (qa (qu (qc 0) qe) qd)))) qR) (qf (zr (qL (ze hr.units) qJ (qc 1) qK (qB _)) (qo (qr (qgS ["p","q","walk"] [none,none,some 0] rfl (qU rfl m_range (qa (qu (qc 0) qe) qd) (h1:=by intro _ _ _ h;simpa [qb,qh] using h)) (λ_ _ _=>(jgn 0)) (λ_ _ _=>zQ) (λ_ _ _=>(qU rfl m_range (qa (qu (qc 2) qe) qd) (h1:=by intro _ _ _ h;simpa [qb,qh] using h))) (λ_ _ _=>(jgn 1)) (λ_ _ _=>zQ) (λ_ _ _=>(qv (qa (qc 0) (qa (qc 1) qd)))) (by kernel_rfl) (by kernel_rfl)))) qR) (qf (zr (qL (ze hr.units) qJ (qc 1) qK (qB _)) (qo (qr (qg jd hr rfl (qa (qu (qc 0) qe) (qa (qu (qc 0) qe) (qa (qu (qc 0) qe) qd)))))) qR) (qf (jA (qg9 m_STRIDES rfl (qc 1) (λ_ _=>rfl)) (zB rfl (qp (qq (i:=2) (YU.nd)) (qp (qq (i:=3) (YU.nd)) zC)))) (qo (qr (qg jd hr rfl (qa (qc 2) (qa (qc 3) (qa (qu (qc 0) qe) qd)))))))))))) read
abbrev VX:Stmt:=top 22
abbrev CM:List Str:=["dealing","walk","rows","columns","banks","cells","downs","alongs"]
abbrev KB:List Str:=["dealing","walk"]
def ZD:FnScope CM KB (qk VX):=⟨rfl,rfl,rfl,by decide +kernel,rfl,by decide +kernel,by decide +kernel⟩
def qcL {S_size_of:Sp3} {S_cells_of:Sp3} (F:Fun K "starts" "starts" VX f fd) (bd:zi K fd KB []) (hm:mg "starts" = some (.ref f)) (F_size_of:Fn3 P w K mg base k "size_of" S_size_of) (zj:Fn3 P w K mg base k "cells_of" S_cells_of) (m_min:mg "min" = none) (m_max:mg "max" = none) (m_range:mg "range" = none)
  (read:Rd sp 2 (Bk.X8 S_size_of S_cells_of) CM):Fn3 P w K mg base (k+1) "starts" sp:=
 qC (t3:=(Bk.X8 S_size_of S_cells_of)) F ZD bd hm (λcdv A outer s H E hr=>(qf (jA (qg F_size_of hr rfl (qa (qc 0) qd)) (zB rfl (qp (qq (i:=2) (ZD.nd)) (qp (qq (i:=3) (ZD.nd)) (qp (qq (i:=4) (ZD.nd)) zC))))) (qf (qM 5 ZD.nd (qg zj hr rfl (qa (qc 1) qd))) (qf (UF 6 ["p","q"] [none,none] rfl ZD.nd (JP (qc 5)) (λ_ _ _=>(zB rfl (qp (jgn 0) (qp (jgn 1) zC)))) (λ_ _ _=>zQ) (λ_ _ _=>(qc 0)) (by kernel_rfl) (by kernel_rfl) rfl rfl) (qf (qM 7 ZD.nd (YE ["p","q"] [none,none] rfl (JP (qc 5)) (λ_ _ _=>(zB rfl (qp (jgn 0) (qp (jgn 1) zC)))) (λ_ _ _=>zQ) (λ_ _ _=>(qc 1)) (by kernel_rfl) (by kernel_rfl))) (qo (qr (qgS ["i","j","columns","alongs"] [none,none,some 3,some 7] rfl (VL rfl m_range (qa (JS (qz (WA rfl) CL rfl m_min PyProof.Rows.boot_min (qa (qc 6) qd))) (qa (U2 (qc 2) (qz (DM rfl) X7 rfl m_max PyProof.Rows.boot_max (qa (qc 6) qd))) qd)) (h1:=by intro _ _ _ h;simpa [qb,qh] using h)) (λ_ _ _=>(jgn 0)) (λ_ _ _=>zQ) (λ_ _ _=>(VL rfl m_range (qa (JS (qz (WA rfl) CL rfl m_min PyProof.Rows.boot_min (qa (qc 3) qd))) (qa (U2 (qc 2) (qz (DM rfl) X7 rfl m_max PyProof.Rows.boot_max (qa (qc 3) qd))) qd)) (h1:=by intro _ _ _ h;simpa [qb,qh] using h))) (λ_ _ _=>(jgn 1)) (λ_ _ _=>zQ) (λ_ _ _=>(qv (qa (qc 0) (qa (qc 1) qd)))) (by kernel_rfl) (by kernel_rfl))))))))) read
abbrev JV:Stmt:=top 23
abbrev DK:List Str:=["walk","start"]
abbrev RT:List Str:=["walk","start"]
def qa0:FnScope DK RT (qk JV):=⟨rfl,rfl,rfl,by decide +kernel,rfl,by decide +kernel,by decide +kernel⟩
def qa8 {S_cells_of:Sp3} (F:Fun K "shifted" "shifted" JV f fd) (bd:zi K fd RT []) (hm:mg "shifted" = some (.ref f)) (zj:Fn3 P w K mg base k "cells_of" S_cells_of) 
  (read:Rd sp 2 (Bk.DA S_cells_of) DK):Fn3 P w K mg base (k+1) "shifted" sp:=
 qC (t3:=(Bk.DA S_cells_of)) F qa0 bd hm (λcdv A outer s H E hr=>(qo (qr (YE ["p","q","start"] [none,none,some 1] rfl (JP (qg zj hr rfl (qa (qc 0) qd))) (λ_ _ _=>(zB rfl (qp (jgn 0) (qp (jgn 1) zC)))) (λ_ _ _=>zQ) (λ_ _ _=>(qv (qa (qA (qu (qc 2) qe) (qc 0)) (qa (qA (qu (qc 2) qe) (qc 1)) qd)))) (by kernel_rfl) (by kernel_rfl))))) read
abbrev ZT:Stmt:=top 24
abbrev UM:List Str:=["dealing","walk","thing"]
abbrev WJ:List Str:=["dealing","walk","thing"]
def NU:FnScope UM WJ (qk ZT):=⟨rfl,rfl,rfl,by decide +kernel,rfl,by decide +kernel,by decide +kernel⟩
def NW {S_shifted:Sp3} {S_is_word:Sp3} {S_is_pair:Sp3} (F:Fun K "is_start" "is_start" ZT f fd) (bd:zi K fd WJ []) (hm:mg "is_start" = some (.ref f)) (zI:Fn3 P w K mg base k "shifted" S_shifted) (QT:Fn3 P w K mg base k "is_word" S_is_word) (zK:Fn3 P w K mg base k "is_pair" S_is_pair) (m_all:mg "all" = none)
  (read:Rd sp 3 (Bk.UP S_shifted S_is_word S_is_pair) UM):Fn3 P w K mg base (k+1) "is_start" sp:=
 qC (t3:=(Bk.UP S_shifted S_is_word S_is_pair)) F NU bd hm (λcdv A outer s H E hr=>(qo (qr (V1 (qg zK hr rfl (qa (qc 2) qd)) (WC (qz (SH rfl) qhL rfl m_all PyProof.Rows.boot_all (qa (YE ["word","dealing"] [none,some 0] rfl (JP (qg zI hr rfl (qa (qc 1) (qa (qc 2) qd)))) (λ_ _ _=>(jgn 0)) (λ_ _ _=>zQ) (λ_ _ _=>(qg QT hr rfl (qa (qc 1) (qa (qc 0) qd)))) (by kernel_rfl) (by kernel_rfl)) qd))))))) read
abbrev ZO:Stmt:=top 25
abbrev UB:List Str:=["dealing","walk","start"]
abbrev WZ:List Str:=["dealing","walk","start"]
def M5:FnScope UB WZ (qk ZO):=⟨rfl,rfl,rfl,by decide +kernel,rfl,by decide +kernel,by decide +kernel⟩
def N8 {S_is_start:Sp3} {S_shifted:Sp3} (F:Fun K "words_of" "words_of" ZO f fd) (bd:zi K fd WZ []) (hm:mg "words_of" = some (.ref f)) (zn:Fn3 P w K mg base k "is_start" S_is_start) (zI:Fn3 P w K mg base k "shifted" S_shifted) 
  (read:Rd sp 3 (Bk.UG S_is_start S_shifted) UB):Fn3 P w K mg base (k+1) "words_of" sp:=
 qC (t3:=(Bk.UG S_is_start S_shifted)) F M5 bd hm (λcdv A outer s H E hr=>(qf (zr (SJ (XE (qg zn hr rfl (qa (qc 0) (qa (qc 1) (qa (qc 2) qd)))))) qet qR) (qo (qr (qg zI hr rfl (qa (qc 1) (qa (qc 2) qd))))))) read
abbrev jO:Stmt:=top 27
abbrev QJ:List Str:=["dealing","walk","start"]
abbrev V2:List Str:=["dealing","walk","start"]
def TW:FnScope QJ V2 (qk jO):=⟨rfl,rfl,rfl,by decide +kernel,rfl,by decide +kernel,by decide +kernel⟩
def T3 {S_words_of:Sp3} {S_bank_in:Sp3} (F:Fun K "banks_from" "banks_from" jO f fd) (bd:zi K fd V2 []) (hm:mg "banks_from" = some (.ref f)) (jI:Fn3 P w K mg base k "words_of" S_words_of) (F_bank_in:Fn3 P w K mg base k "bank_in" S_bank_in) 
  (read:Rd sp 3 (Bk.ZZ S_words_of S_bank_in) QJ):Fn3 P w K mg base (k+1) "banks_from" sp:=
 qC (t3:=(Bk.ZZ S_words_of S_bank_in)) F TW bd hm (λcdv A outer s H E hr=>(qo (qr (YE ["word","dealing"] [none,some 0] rfl (JP (qg jI hr rfl (qa (qc 0) (qa (qc 1) (qa (qc 2) qd))))) (λ_ _ _=>(jgn 0)) (λ_ _ _=>zQ) (λ_ _ _=>(qg F_bank_in hr rfl (qa (qc 1) (qa (qc 0) qd)))) (by kernel_rfl) (by kernel_rfl))))) read
abbrev DZ:Stmt:=top 28
abbrev C6:List Str:=["dealing","walk","start","found"]
abbrev qaa:List Str:=["dealing","walk"]
def TF:FnScope C6 qaa (qk DZ):=⟨rfl,rfl,rfl,by decide +kernel,rfl,by decide +kernel,by decide +kernel⟩
def qdL {S_starts:Sp3} {S_banks_from:Sp3} {S_first_alike:Sp3} (F:Fun K "clash" "clash" DZ f fd) (bd:zi K fd qaa []) (hm:mg "clash" = some (.ref f)) (Z8:Fn3 P w K mg base k "starts" S_starts) (qY:Fn3 P w K mg base k "banks_from" S_banks_from) (zl:Fn3 P w K mg base k "first_alike" S_first_alike) 
  (read:Rd sp 2 (Bk.KA S_starts S_banks_from S_first_alike) C6):Fn3 P w K mg base (k+1) "clash" sp:=
 qC (t3:=(Bk.KA S_starts S_banks_from S_first_alike)) F TF bd hm (λcdv A outer s H E hr=>(qf (JK PassesOwn.never rfl (JP (qg Z8 hr rfl (qa (qc 0) (qa (qc 1) qd)))) (qq (i:=2) (TF.nd)) (qf (qM 3 TF.nd (qg zl hr rfl (qa (qg qY hr rfl (qa (qc 0) (qa (qc 1) (qa (qc 2) qd)))) qd))) (qo (zr (qL qca qaR (qc 3) MP (qB _)) (qo (qr (qv (qa (qc 2) (qa (qu (qc 3) qe) (qa (qu (qc 3) qe) qd)))))) qR)))) (qo (qr MP)))) read
abbrev jz:Stmt:=top 29
abbrev jP:List Str:=["dealing","walk","thing","start","k","l"]
abbrev YH:List Str:=["dealing","walk","thing"]
def j7:FnScope jP YH (qk jz):=⟨rfl,rfl,rfl,by decide +kernel,rfl,by decide +kernel,by decide +kernel⟩
def Q2 (S_banks_from:Sp3) (S_are_alike:Sp3) (S_is_start:Sp3):TS3:=(qx (za (or3 (JB (tb3 (JH (λt=>QQ t "tuple") (v3 2)))) (tb3 (o3 (zh true) (cb3 jE (qb (v3 2) qh)) (c3 (.int 3))))) (qD (c3 (.bl false))) qw) (qx (qG (v3 2) (qN 3 (qj (gn3 3) (qj (gn3 4) (qj (gn3 5) qO))))) (qD (zk (cb3 S_is_start (qb (v3 0) (qb (v3 1) (qb (v3 3) qh)))) (cb3 S_are_alike (qb (cb3 S_banks_from (qb (v3 0) (qb (v3 1) (qb (v3 3) qh)))) (qb (v3 4) (qb (v3 5) qh))))))))
def SF {S_banks_from:Sp3} {S_are_alike:Sp3} {S_is_start:Sp3} (F:Fun K "shows_clash" "shows_clash" jz f fd) (bd:zi K fd YH []) (hm:mg "shows_clash" = some (.ref f)) (qY:Fn3 P w K mg base k "banks_from" S_banks_from) (jh:Fn3 P w K mg base k "are_alike" S_are_alike) (zn:Fn3 P w K mg base k "is_start" S_is_start) (m_len:mg "len" = none) (m_isinstance:mg "isinstance" = none) (m_tuple:mg "tuple" = none)
  (read:Rd sp 3 (Q2 S_banks_from S_are_alike S_is_start) jP):Fn3 P w K mg base (k+1) "shows_clash" sp:=
 qC (t3:=(Q2 S_banks_from S_are_alike S_is_start)) F j7 bd hm (λcdv A outer s H E hr=>(qf (zr (jpt (qig (SJ (XE (LX (qc 2) rfl m_isinstance rfl m_tuple PyProof.Rows.boot_tuple))) (qcR (qL (LY hr.units) RD (qz zd zt rfl m_len PySem.boot_len (qa (qc 2) qd)) qe (qB _))))) (qo (qr XU)) qR) (qf (jA (qc 2) (zB rfl (qp (qq (i:=3) (j7.nd)) (qp (qq (i:=4) (j7.nd)) (qp (qq (i:=5) (j7.nd)) zC))))) (qo (qr (V1 (qg zn hr rfl (qa (qc 0) (qa (qc 1) (qa (qc 3) qd)))) (WC (qg jh hr rfl (qa (qg qY hr rfl (qa (qc 0) (qa (qc 1) (qa (qc 3) qd)))) (qa (qc 4) (qa (qc 5) qd))))))))))) read
abbrev JU:Stmt:=top 31
abbrev RM:List Str:=["_law_cell","_law_k","_law_m"]
abbrev RI:List Str:=["_law_cell","_law_k"]
def SS:FnScope RM RI (qk JU):=⟨rfl,rfl,rfl,by decide +kernel,rfl,by decide +kernel,by decide +kernel⟩
def qa5 (F:Fun K "_law_mix" "_law_mix" JU f fd) (bd:zi K fd RI []) (hm:mg "_law_mix" = some (.ref f))  
  (read:Rd sp 2 (Bk.D8) RM):Fn3 P w K mg base (k+1) "_law_mix" sp:=
 qC (t3:=(Bk.D8)) F SS bd hm (λcdv A outer s H E hr=>(qf (qM 2 SS.nd (QR (zp (qA (qA (QR (qc 0) qe) (zp (zp (qc 1) (qc 1)) qe)) qe) qe) qe)) (qo (qr (QR (zp (qc 2) (qc 2)) qe))))) read
abbrev ZL:Stmt:=top 32
abbrev WI:List Str:=["_law_script","_law_k","_law_cell","_law_own"]
abbrev WO:List Str:=["_law_script","_law_k"]
def EK:FnScope WI WO (qk ZL):=⟨rfl,rfl,rfl,by decide +kernel,rfl,by decide +kernel,by decide +kernel⟩
def N4 (F:Fun K "_law_left" "_law_left" ZL f fd) (bd:zi K fd WO []) (hm:mg "_law_left" = some (.ref f))  (m_len:mg "len" = none) (m_abs:mg "abs" = none)
  (read:Rd sp 2 (Bk.UL) WI):Fn3 P w K mg base (k+1) "_law_left" sp:=
 qC (t3:=(Bk.UL)) F EK bd hm (λcdv A outer s H E hr=>(qf (qM 2 EK.nd (qkj (qL TV jV (qc 1) (qz zd zt rfl m_len PySem.boot_len (qa (qc 0) qd)) (qB _)) (qu (qc 0) (qc 1)) qe)) (qf (qM 3 EK.nd (qkj (qL qp2 jV (qz qaG qbN rfl m_abs PyProof.Rows.boot_abs (qa (qc 2) qd)) (qlt qe qe) (qB _)) (qz qaG qbN rfl m_abs PyProof.Rows.boot_abs (qa (qc 2) qd)) qe)) (qo (qr (zW (qa (qc 3) (qa (qA (qc 2) (zp qe (qc 1))) (qa qe qd))))))))) read
abbrev ZV:Stmt:=top 33
abbrev WM:List Str:=["_law_left_here","_law_many_here","_law_digit"]
abbrev WT:List Str:=["_law_left_here","_law_many_here"]
def RU:FnScope WM WT (qk ZV):=⟨rfl,rfl,rfl,by decide +kernel,rfl,by decide +kernel,by decide +kernel⟩
def M9 {S_law_mix:Sp3} (F:Fun K "_law_pick" "_law_pick" ZV f fd) (bd:zi K fd WT []) (hm:mg "_law_pick" = some (.ref f)) (F_law_mix:Fn3 P w K mg base k "_law_mix" S_law_mix) 
  (read:Rd sp 2 (Bk.V6 S_law_mix) WM):Fn3 P w K mg base (k+1) "_law_pick" sp:=
 qC (t3:=(Bk.V6 S_law_mix)) F RU bd hm (λcdv A outer s H E hr=>(qf (jA (qA (qu (qc 0) qe) qe) (qgE (qc 0) qe)) (qf (zr (qL qdv jV (qu (qc 0) qe) qe (qB _)) (qf (qM 2 RU.nd (QR (qu (qc 0) qe) (qc 1))) (qf (jA (U3 (qu (qc 0) qe) (qc 1)) (qgE (qc 0) qe)) (qo (qr (qc 2))))) qR) (qo (qr (QR (U3 (qg F_law_mix hr rfl (qa (qg F_law_mix hr rfl (qa (qu (qc 0) qe) (qa (qu (qc 0) qe) qd))) (qa (qA (qu (qc 0) qe) qe) qd))) qe) (qc 1))))))) read
abbrev QU:Stmt:=top 34
abbrev EN:List Str:=["_law_left_here","_law_wide","_law_rows","_law_columns"]
abbrev EH:List Str:=["_law_left_here"]
def V0:FnScope EN EH (qk QU):=⟨rfl,rfl,rfl,by decide +kernel,rfl,by decide +kernel,by decide +kernel⟩
def LQ {S_law_pick:Sp3} (F:Fun K "_law_sides" "_law_sides" QU f fd) (bd:zi K fd EH []) (hm:mg "_law_sides" = some (.ref f)) (F_law_pick:Fn3 P w K mg base k "_law_pick" S_law_pick) 
  (read:Rd sp 1 (Bk.YA S_law_pick) EN):Fn3 P w K mg base (k+1) "_law_sides" sp:=
 qC (t3:=(Bk.YA S_law_pick)) F V0 bd hm (λcdv A outer s H E hr=>(qf (qM 1 V0.nd (qu (zW (qa qe (qa qe (qa qe (qa qe qd))))) (qg F_law_pick hr rfl (qa (qc 0) (qa qe qd))))) (qf (VS (i:=2) (j:=3) rfl V0.nd rfl rfl (by decide) rfl rfl (qa (qA qe (qg F_law_pick hr rfl (qa (qc 0) (qa (qc 1) qd)))) (qa (qA qe (qg F_law_pick hr rfl (qa (qc 0) (qa (qc 1) qd)))) qd))) (qo (qr (qu (zW (qa (qv (qa (qc 2) (qa (qc 3) qd))) (qa (qv (qa (qc 2) (qa (qc 3) qd))) (qa (qv (qa (qc 2) (qa (qc 3) qd))) (qa (qv (qa (qc 2) (qa (qc 2) qd))) qd))))) (qg F_law_pick hr rfl (qa (qc 0) (qa qe qd))))))))) read
abbrev JO:Stmt:=top 35
abbrev C5:List Str:=["_law_one","_law_other"]
abbrev RC:List Str:=["_law_one","_law_other"]
def SZ:FnScope C5 RC (qk JO):=⟨rfl,rfl,rfl,by decide +kernel,rfl,by decide +kernel,by decide +kernel⟩
def qbt (F:Fun K "_law_gcd" "_law_gcd" JO f fd) (bd:zi K fd RC []) (hm:mg "_law_gcd" = some (.ref f))  
  (read:Rd sp 2 (Bk.EZ) C5):Fn3 P w K mg base (k+1) "_law_gcd" sp:=
 qC (t3:=(Bk.EZ)) F SZ bd hm (λcdv A outer s H E hr=>(qf (qaP PassesOwn.never (qL qdv jV (qc 1) qe (qB _)) (qo (VS (i:=0) (j:=1) rfl SZ.nd rfl rfl (by decide) rfl rfl (qa (qc 1) (qa (QR (qc 0) (qc 1)) qd))))) (qo (qr (qc 0))))) read
abbrev ZK:Stmt:=top 36
abbrev WH:List Str:=["_law_left_here","_law_rows","_law_columns","_law_banks","_law_wide"]
abbrev XA:List Str:=["_law_left_here"]
def ZI:FnScope WH XA (qk ZK):=⟨rfl,rfl,rfl,by decide +kernel,rfl,by decide +kernel,by decide +kernel⟩
def NA {S_law_sides:Sp3} {S_law_pick:Sp3} (F:Fun K "_law_skew" "_law_skew" ZK f fd) (bd:zi K fd XA []) (hm:mg "_law_skew" = some (.ref f)) (F_law_sides:Fn3 P w K mg base k "_law_sides" S_law_sides) (F_law_pick:Fn3 P w K mg base k "_law_pick" S_law_pick) 
  (read:Rd sp 1 (Bk.UR S_law_sides S_law_pick) WH):Fn3 P w K mg base (k+1) "_law_skew" sp:=
 qC (t3:=(Bk.UR S_law_sides S_law_pick)) F ZI bd hm (λcdv A outer s H E hr=>(qf (jA (qg F_law_sides hr rfl (qa (qc 0) qd)) (zB rfl (qp (qq (i:=1) (ZI.nd)) (qp (qq (i:=2) (ZI.nd)) zC)))) (qf (qM 3 ZI.nd (qA qe (qg F_law_pick hr rfl (qa (qc 0) (qa (qu (zW (qa qe (qa qe (qa qe (qa qe qd))))) (qg F_law_pick hr rfl (qa (qc 0) (qa qe qd)))) qd))))) (qf (qM 4 ZI.nd (qu (zW (qa (qc 3) (qa qe (qa qe qd)))) (qg F_law_pick hr rfl (qa (qc 0) (qa qe qd))))) (qo (qr (qv (qa qK (qa (qc 1) (qa (qc 2) (qa (qc 3) (qa (qg F_law_pick hr rfl (qa (qc 0) (qa (qc 4) qd))) (qa (qg F_law_pick hr rfl (qa (qc 0) (qa (qc 4) qd))) qd))))))))))))) read
abbrev QH:Stmt:=top 37
abbrev EC:List Str:=["_law_left_here","_law_rows","_law_columns","_law_banks","_law_places","_law_turn"]
abbrev EU:List Str:=["_law_left_here"]
def jj:FnScope EC EU (qk QH):=⟨rfl,rfl,rfl,by decide +kernel,rfl,by decide +kernel,by decide +kernel⟩
def LK {S_law_sides:Sp3} {S_law_pick:Sp3} {S_law_gcd:Sp3} (F:Fun K "_law_rests" "_law_rests" QH f fd) (bd:zi K fd EU []) (hm:mg "_law_rests" = some (.ref f)) (F_law_sides:Fn3 P w K mg base k "_law_sides" S_law_sides) (F_law_pick:Fn3 P w K mg base k "_law_pick" S_law_pick) (F_law_gcd:Fn3 P w K mg base k "_law_gcd" S_law_gcd) (m_range:mg "range" = none)
  (read:Rd sp 1 (Bk.YK S_law_sides S_law_pick S_law_gcd) EC):Fn3 P w K mg base (k+1) "_law_rests" sp:=
 qC (t3:=(Bk.YK S_law_sides S_law_pick S_law_gcd)) F jj bd hm (λcdv A outer s H E hr=>(qf (jA (qg F_law_sides hr rfl (qa (qc 0) qd)) (zB rfl (qp (qq (i:=1) (jj.nd)) (qp (qq (i:=2) (jj.nd)) zC)))) (qf (qM 3 jj.nd (qA qe (qg F_law_pick hr rfl (qa (qc 0) (qa (qu (zW (qa qe (qa qe (qa qe qd)))) (qg F_law_pick hr rfl (qa (qc 0) (qa qe qd)))) qd))))) (qf (qM 4 jj.nd (qA (JS (U3 (zp (JS (qc 1)) (qc 2)) (qc 3))) (qg F_law_pick hr rfl (qa (qc 0) (qa qe qd))))) (qf (JK PassesOwn.never rfl (qU rfl m_range (qa qe qd) (h1:=by intro _ _ _ h;simpa [qb,qh] using h)) (qq (i:=5) (jj.nd)) (qo (zr (qL qdv jV (qg F_law_gcd hr rfl (qa (qc 3) (qa (qc 4) qd))) qe (qB _)) (qo (qM 4 jj.nd (qA (qc 4) qe))) qR))) (qo (qr (qv (qa qK (qa (qc 1) (qa (qc 2) (qa (qc 3) (qa (qc 4) qd))))))))))))) read
abbrev ZS:Stmt:=top 38
abbrev SY:List Str:=["_law_left_here","_law_most","_law_high","_law_low","_law_masks","_law_wide"]
abbrev W9:List Str:=["_law_left_here","_law_most"]
def J9:FnScope SY W9 (qk ZS):=⟨rfl,rfl,rfl,by decide +kernel,rfl,by decide +kernel,by decide +kernel⟩
def qad {S_law_pick:Sp3} (F:Fun K "_law_bits" "_law_bits" ZS f fd) (bd:zi K fd W9 []) (hm:mg "_law_bits" = some (.ref f)) (F_law_pick:Fn3 P w K mg base k "_law_pick" S_law_pick) (m_range:mg "range" = none) (m_tuple:mg "tuple" = none)
  (read:Rd sp 2 (Bk.US S_law_pick) SY):Fn3 P w K mg base (k+1) "_law_bits" sp:=
 qC (t3:=(Bk.US S_law_pick)) F J9 bd hm (λcdv A outer s H E hr=>(qf (VS (i:=2) (j:=3) rfl J9.nd rfl rfl (by decide) rfl rfl (qa (qg F_law_pick hr rfl (qa (qc 0) (qa (qA (qc 1) qe) qd))) (qa (qg F_law_pick hr rfl (qa (qc 0) (qa (qA (qc 1) qe) qd))) qd))) (qf (UF 4 ["_law_t","_law_left_here"] [none,some 0] rfl J9.nd (qU rfl m_range (qa (qg F_law_pick hr rfl (qa (qc 0) (qa qe qd))) qd) (h1:=by intro _ _ _ h;simpa [qb,qh] using h)) (λ_ _ _=>(jgn 0)) (λ_ _ _=>zQ) (λ_ _ _=>(qg F_law_pick hr rfl (qa (qc 1) (qa qe qd)))) (by kernel_rfl) (by kernel_rfl) rfl rfl) (qf (qM 5 J9.nd (qu (zW (qa qe (qa qe (qa qe (qa qe (qa qe (qa qe (qa qe (qa qe (qa qe qd)))))))))) (qA (qc 2) (qc 3)))) (qo (qr (qv (qa qK (qa (qc 2) (qa (qc 3) (qa (zA zD QE rfl m_tuple PyProof.Rows.boot_tuple (qa (YE ["_law_mask","_law_wide"] [none,some 5] rfl (JP (qc 4)) (λ_ _ _=>(jgn 0)) (λ_ _ _=>zQ) (λ_ _ _=>(QR (qc 0) (qc 1))) (by kernel_rfl) (by kernel_rfl)) qd)) qd))))))))))) read
abbrev QC:Stmt:=top 39
abbrev RK:List Str:=["_law_left_here","_law_rows","_law_columns","_law_banks","_law_cells_here"]
abbrev ES:List Str:=["_law_left_here"]
def QM:FnScope RK ES (qk QC):=⟨rfl,rfl,rfl,by decide +kernel,rfl,by decide +kernel,by decide +kernel⟩
def ML {S_law_sides:Sp3} {S_law_pick:Sp3} (F:Fun K "_law_table" "_law_table" QC f fd) (bd:zi K fd ES []) (hm:mg "_law_table" = some (.ref f)) (F_law_sides:Fn3 P w K mg base k "_law_sides" S_law_sides) (F_law_pick:Fn3 P w K mg base k "_law_pick" S_law_pick) (m_range:mg "range" = none) (m_tuple:mg "tuple" = none)
  (read:Rd sp 1 (Bk.J1 S_law_sides S_law_pick) RK):Fn3 P w K mg base (k+1) "_law_table" sp:=
 qC (t3:=(Bk.J1 S_law_sides S_law_pick)) F QM bd hm (λcdv A outer s H E hr=>(qf (jA (qg F_law_sides hr rfl (qa (qc 0) qd)) (zB rfl (qp (qq (i:=1) (QM.nd)) (qp (qq (i:=2) (QM.nd)) zC)))) (qf (qM 3 QM.nd (qA qe (qg F_law_pick hr rfl (qa (qc 0) (qa (qu (zW (qa qe (qa qe (qa qe qd)))) (qg F_law_pick hr rfl (qa (qc 0) (qa qe qd)))) qd))))) (qf (UF 4 ["_law_i","_law_left_here","_law_banks","_law_columns"] [none,some 0,some 3,some 2] rfl QM.nd (qU rfl m_range (qa (qc 1) qd) (h1:=by intro _ _ _ h;simpa [qb,qh] using h)) (λ_ _ _=>(jgn 0)) (λ_ _ _=>zQ) (λ_ _ _=>(zA zD QE rfl m_tuple PyProof.Rows.boot_tuple (qa (YE ["_law_j","_law_left_here","_law_banks"] [none,some 1,some 2] rfl (qU rfl m_range (qa (qc 3) qd) (h1:=by intro _ _ _ h;simpa [qb,qh] using h)) (λ_ _ _=>(jgn 0)) (λ_ _ _=>zQ) (λ_ _ _=>(qg F_law_pick hr rfl (qa (qc 1) (qa (qc 2) qd)))) (by kernel_rfl) (by kernel_rfl)) qd))) (by kernel_rfl) (by kernel_rfl) rfl rfl) (qo (qr (qv (qa qK (qa (qc 3) (qa (zA zD QE rfl m_tuple PyProof.Rows.boot_tuple (qa (qc 4) qd)) qd)))))))))) read
abbrev QP:Stmt:=top 40
abbrev RG:List Str:=["_law_left_here","_law_rows","_law_columns","_law_banks","_law_way","_law_high","_law_low","_law_masks","_law_wide","_law_places","_law_turn","_law_cells_here"]
abbrev U7:List Str:=["_law_left_here"]
def zb:FnScope RG U7 (qk QP):=⟨rfl,rfl,rfl,by decide +kernel,rfl,by decide +kernel,by decide +kernel⟩
def K7 {S_law_pick:Sp3} {S_law_gcd:Sp3} (F:Fun K "_law_small" "_law_small" QP f fd) (bd:zi K fd U7 []) (hm:mg "_law_small" = some (.ref f)) (F_law_pick:Fn3 P w K mg base k "_law_pick" S_law_pick) (F_law_gcd:Fn3 P w K mg base k "_law_gcd" S_law_gcd) (m_range:mg "range" = none) (m_tuple:mg "tuple" = none)
  (read:Rd sp 1 (Bk.J7 S_law_pick S_law_gcd) RG):Fn3 P w K mg base (k+1) "_law_small" sp:=
 qC (t3:=(Bk.J7 S_law_pick S_law_gcd)) F zb bd hm (λcdv A outer s H E hr=>(qf (jA (qv (qa (qA qe (qg F_law_pick hr rfl (qa (qc 0) (qa qe qd)))) (qa (qA qe (qg F_law_pick hr rfl (qa (qc 0) (qa qe qd)))) (qa (qA qe (qg F_law_pick hr rfl (qa (qc 0) (qa qe qd)))) qd)))) (zB rfl (qp (qq (i:=1) (zb.nd)) (qp (qq (i:=2) (zb.nd)) (qp (qq (i:=3) (zb.nd)) zC))))) (qf (qM 4 zb.nd (qg F_law_pick hr rfl (qa (qc 0) (qa qe qd)))) (qf (zr (qL (ze hr.units) qJ (qc 4) qe (qB _)) (qo (qr (qv (qa qK (qa (qc 1) (qa (qc 2) (qa (qc 3) (qa (qg F_law_pick hr rfl (qa (qc 0) (qa (qc 3) qd))) (qa (qg F_law_pick hr rfl (qa (qc 0) (qa qe qd))) qd))))))))) qR) (qf (zr (qL (ze hr.units) qJ (qc 4) qe (qB _)) (qf (VS (i:=5) (j:=6) rfl zb.nd rfl rfl (by decide) rfl rfl (qa (qg F_law_pick hr rfl (qa (qc 0) (qa qe qd))) (qa (qg F_law_pick hr rfl (qa (qc 0) (qa qe qd))) qd))) (qf (UF 7 ["_law_t","_law_left_here"] [none,some 0] rfl zb.nd (qU rfl m_range (qa (qg F_law_pick hr rfl (qa (qc 0) (qa qe qd))) qd) (h1:=by intro _ _ _ h;simpa [qb,qh] using h)) (λ_ _ _=>(jgn 0)) (λ_ _ _=>zQ) (λ_ _ _=>(qg F_law_pick hr rfl (qa (qc 1) (qa qe qd)))) (by kernel_rfl) (by kernel_rfl) rfl rfl) (qf (qM 8 zb.nd (qu (zW (qa qe (qa qe (qa qe (qa qe (qa qe qd)))))) (qA (qc 5) (qc 6)))) (qo (qr (qv (qa qK (qa (qc 5) (qa (qc 6) (qa (zA zD QE rfl m_tuple PyProof.Rows.boot_tuple (qa (YE ["_law_mask","_law_wide"] [none,some 8] rfl (JP (qc 7)) (λ_ _ _=>(jgn 0)) (λ_ _ _=>zQ) (λ_ _ _=>(QR (qc 0) (qc 1))) (by kernel_rfl) (by kernel_rfl)) qd)) qd)))))))))) qR) (qf (zr (qL (ze hr.units) qJ (qc 4) qe (qB _)) (qf (qM 9 zb.nd (qA (JS (U3 (zp (JS (qc 1)) (qc 2)) (qc 3))) (qg F_law_pick hr rfl (qa (qc 0) (qa qe qd))))) (qf (JK PassesOwn.never rfl (qU rfl m_range (qa qe qd) (h1:=by intro _ _ _ h;simpa [qb,qh] using h)) (qq (i:=10) (zb.nd)) (qo (zr (qL qdv jV (qg F_law_gcd hr rfl (qa (qc 3) (qa (qc 9) qd))) qe (qB _)) (qo (qM 9 zb.nd (qA (qc 9) qe))) qR))) (qo (qr (qv (qa qK (qa (qc 1) (qa (qc 2) (qa (qc 3) (qa (qc 9) qd)))))))))) qR) (qf (UF 11 ["_law_i","_law_left_here","_law_banks","_law_columns"] [none,some 0,some 3,some 2] rfl zb.nd (qU rfl m_range (qa (qc 1) qd) (h1:=by intro _ _ _ h;simpa [qb,qh] using h)) (λ_ _ _=>(jgn 0)) (λ_ _ _=>zQ) (λ_ _ _=>(zA zD QE rfl m_tuple PyProof.Rows.boot_tuple (qa (YE ["_law_j","_law_left_here","_law_banks"] [none,some 1,some 2] rfl (qU rfl m_range (qa (qc 3) qd) (h1:=by intro _ _ _ h;simpa [qb,qh] using h)) (λ_ _ _=>(jgn 0)) (λ_ _ _=>zQ) (λ_ _ _=>(qg F_law_pick hr rfl (qa (qc 1) (qa (qc 2) qd)))) (by kernel_rfl) (by kernel_rfl)) qd))) (by kernel_rfl) (by kernel_rfl) rfl rfl) (qo (qr (qv (qa qK (qa (qc 3) (qa (zA zD QE rfl m_tuple PyProof.Rows.boot_tuple (qa (qc 11) qd)) qd))))))))))))) read
abbrev jD:Stmt:=top 41
abbrev YF:List Str:=["_law_left_here","_law_way","_law_inner","_law_some"]
abbrev YV:List Str:=["_law_left_here"]
def j9:FnScope YF YV (qk jD):=⟨rfl,rfl,rfl,by decide +kernel,rfl,by decide +kernel,by decide +kernel⟩
def R6 {S_law_pick:Sp3} {S_law_skew:Sp3} {S_law_rests:Sp3} {S_law_bits:Sp3} {S_law_table:Sp3} {S_law_small:Sp3} (F:Fun K "_law_dealing" "_law_dealing" jD f fd) (bd:zi K fd YV []) (hm:mg "_law_dealing" = some (.ref f)) (F_law_pick:Fn3 P w K mg base k "_law_pick" S_law_pick) (F_law_skew:Fn3 P w K mg base k "_law_skew" S_law_skew) (F_law_rests:Fn3 P w K mg base k "_law_rests" S_law_rests) (F_law_bits:Fn3 P w K mg base k "_law_bits" S_law_bits) (F_law_table:Fn3 P w K mg base k "_law_table" S_law_table) (F_law_small:Fn3 P w K mg base k "_law_small" S_law_small) 
  (read:Rd sp 1 (Bk.Q1 S_law_pick S_law_skew S_law_rests S_law_bits S_law_table S_law_small) YF):Fn3 P w K mg base (k+1) "_law_dealing" sp:=
 qC (t3:=(Bk.Q1 S_law_pick S_law_skew S_law_rests S_law_bits S_law_table S_law_small)) F j9 bd hm (λcdv A outer s H E hr=>(qf (qM 1 j9.nd (qg F_law_pick hr rfl (qa (qc 0) (qa qe qd)))) (qf (zr (qL TV jV (qc 1) qe (qB _)) (qo (qr (qg F_law_skew hr rfl (qa (qc 0) qd)))) qR) (qf (zr (qL (ze hr.units) qJ (qc 1) qe (qB _)) (qo (qr (qg F_law_rests hr rfl (qa (qc 0) qd)))) qR) (qf (zr (qL (ze hr.units) qJ (qc 1) qe (qB _)) (qo (qr (qg F_law_bits hr rfl (qa (qc 0) (qa qe qd))))) qR) (qf (zr (qL (ze hr.units) qJ (qc 1) qe (qB _)) (qo (qr (qg F_law_table hr rfl (qa (qc 0) qd)))) qR) (qf (zr (qL (ze hr.units) qJ (qc 1) qe (qB _)) (qf (qM 2 j9.nd (qv (qa qK (qa (qv (qa qK (qa (qA qe (qg F_law_pick hr rfl (qa (qc 0) (qa qe qd)))) (qa qe (qa qe (qa qe (qa qe qd))))))) (qa (qv (qa qK (qa qe (qa (qv (qa (qv (qa qe (qa qe qd))) qd)) qd)))) qd))))) (qf (qM 3 j9.nd (zW (qa (qv (qa qK (qa (qc 2) (qa (qg F_law_small hr rfl (qa (qc 0) qd)) qd)))) (qa (qv (qa qK (qa (qg F_law_small hr rfl (qa (qc 0) qd)) (qa (qc 2) qd)))) qd)))) (qf (W2 (CN (qc 3) (qa (qv (qa qK (qa (qv (qa qK (qa qe (qa qe (qa qe (qa qe (qa qe qd))))))) (qa (qv (qa qK (qa qe (qa qe (qa qe (qa qe qd)))))) qd)))) qd))) (qf (W2 (CN (qc 3) (qa (qv (qa qK (qa (qv (qa qK (qa qe (qa qe (qa qe (qa qe qd)))))) (qa (qv (qa qK (qa qe (qa qe (qa qe (qa qe (qa qe qd))))))) qd)))) qd))) (qo (qr (qu (qc 3) (qg F_law_pick hr rfl (qa (qc 0) (qa qe qd)))))))))) qR) (qo (qr (qv (qa qK (qa (qg F_law_small hr rfl (qa (qc 0) qd)) (qa (qg F_law_small hr rfl (qa (qc 0) qd)) qd))))))))))))) read
abbrev ZE:Stmt:=top 42
abbrev S4:List Str:=["_law_dealing_here","_law_two","_law_one","_law_other"]
abbrev W6:List Str:=["_law_dealing_here"]
def EW:FnScope S4 W6 (qk ZE):=⟨rfl,rfl,rfl,by decide +kernel,rfl,by decide +kernel,by decide +kernel⟩
def V7 (S_law_size:Sp3):TS3:=(qx (za (tb3 (o3 (in3 false) (o3 ix3 (v3 0) (c3 (.int 0))) (qP (qb (c3 (.str "skew")) (qb (c3 (.str "rests")) qh))))) (qD (JX (v3 0) (sp3 (c3 (.int 1))) (sp3 (c3 (.int 4))))) qw) (qx (za (tb3 (o3 (zh false) (o3 ix3 (v3 0) (c3 (.int 0))) (c3 (.str "bits")))) (qx (qG (zM (qb (c3 (.int 1)) (qb (c3 (.int 2)) (qb (c3 (.int 4)) (qb (c3 (.int 8)) (qb (c3 (.int 16)) (qb (c3 (.int 32)) qh))))))) (gn3 1)) (qD (qP (qb (o3 ix3 (v3 1) (o3 ix3 (v3 0) (c3 (.int 1)))) (qb (o3 ix3 (v3 1) (o3 ix3 (v3 0) (c3 (.int 2)))) (qb (o3 ix3 (v3 1) (cb3 jE (qb (o3 ix3 (v3 0) (c3 (.int 3))) qh))) qh)))))) qw) (qx (za (tb3 (o3 (zh false) (o3 ix3 (v3 0) (c3 (.int 0))) (c3 (.str "table")))) (qD (qP (qb (cb3 jE (qb (o3 ix3 (v3 0) (c3 (.int 2))) qh)) (qb (cb3 jE (qb (o3 ix3 (o3 ix3 (v3 0) (c3 (.int 2))) (c3 (.int 0))) qh)) (qb (o3 ix3 (v3 0) (c3 (.int 1))) qh))))) qw) (qx (jU 2 3 (qb (cb3 S_law_size (qb (o3 ix3 (v3 0) (c3 (.int 1))) qh)) (qb (cb3 S_law_size (qb (o3 ix3 (v3 0) (c3 (.int 2))) qh)) qh))) (qD (cb3 qI (qb (lc3 (qed (qb (v3 2) (qb (v3 3) qh))) (qN 2 (qj (gn3 0) (qj (gn3 1) qO))) tt3 (o3 (iC Q7 (·*·)) (v3 0) (v3 1)) [none,none]) qh)))))))
def EV {S_law_size:Sp3} (F:Fun K "_law_size" "_law_size" ZE f fd) (bd:zi K fd W6 []) (hm:mg "_law_size" = some (.ref f)) (F_law_size:Fn3 P w K mg base k "_law_size" S_law_size) (m_len:mg "len" = none) (m_zip:mg "zip" = none) (m_tuple:mg "tuple" = none)
  (read:Rd sp 1 (V7 S_law_size) S4):Fn3 P w K mg base (k+1) "_law_size" sp:=
 qC (t3:=(V7 S_law_size)) F EW bd hm (λcdv A outer s H E hr=>(qf (zr (qL qdx qj3 (qu (qc 0) qe) (qv (qa qK (qa qK qd))) (by with_unfolding_all rfl)) (qo (qr (qaC (qc 0) (TC qe) (TC qe)))) qR) (qf (zr (qL (ze hr.units) qJ (qu (qc 0) qe) qK (qB _)) (qf (qM 1 EW.nd (zW (qa qe (qa qe (qa qe (qa qe (qa qe (qa qe qd)))))))) (qo (qr (qv (qa (qu (qc 1) (qu (qc 0) qe)) (qa (qu (qc 1) (qu (qc 0) qe)) (qa (qu (qc 1) (qz zd zt rfl m_len PySem.boot_len (qa (qu (qc 0) qe) qd))) qd))))))) qR) (qf (zr (qL (ze hr.units) qJ (qu (qc 0) qe) qK (qB _)) (qo (qr (qv (qa (qz zd zt rfl m_len PySem.boot_len (qa (qu (qc 0) qe) qd)) (qa (qz zd zt rfl m_len PySem.boot_len (qa (qu (qu (qc 0) qe) qe) qd)) (qa (qu (qc 0) qe) qd)))))) qR) (qf (VS (i:=2) (j:=3) rfl EW.nd rfl rfl (by decide) rfl rfl (qa (qg F_law_size hr rfl (qa (qu (qc 0) qe) qd)) (qa (qg F_law_size hr rfl (qa (qu (qc 0) qe) qd)) qd))) (qo (qr (zA zD QE rfl m_tuple PyProof.Rows.boot_tuple (qa (YE ["_law_x","_law_y"] [none,none] rfl (qj5 rfl m_zip (qa (qc 2) (qa (qc 3) qd))) (λ_ _ _=>(zB rfl (qp (jgn 0) (qp (jgn 1) zC)))) (λ_ _ _=>zQ) (λ_ _ _=>(zp (qc 0) (qc 1))) (by kernel_rfl) (by kernel_rfl)) qd))))))))) read
abbrev JM:Stmt:=top 43
abbrev RV:List Str:=["_law_number","_law_found","_law_t"]
abbrev RZ:List Str:=["_law_number"]
def UN:FnScope RV RZ (qk JM):=⟨rfl,rfl,rfl,by decide +kernel,rfl,by decide +kernel,by decide +kernel⟩
def qa6 (F:Fun K "_law_odd" "_law_odd" JM f fd) (bd:zi K fd RZ []) (hm:mg "_law_odd" = some (.ref f))  (m_range:mg "range" = none)
  (read:Rd sp 1 (Bk.DT) RV):Fn3 P w K mg base (k+1) "_law_odd" sp:=
 qC (t3:=(Bk.DT)) F UN bd hm (λcdv A outer s H E hr=>(qf (qM 1 UN.nd XU) (qf (JK PassesOwn.never rfl (qU rfl m_range (qa qe qd) (h1:=by intro _ _ _ h;simpa [qb,qh] using h)) (qq (i:=2) (UN.nd)) (qo (qM 1 UN.nd (JL (LY hr.units) RD (qc 1) (JL (ze hr.units) qJ (QR (U3 (qc 0) (qu (zW (qa qe (qa qe (qa qe (qa qe (qa qe (qa qe (qa qe (qa qe (qa qe qd)))))))))) (qc 2))) qe) qe (qB _)) (qB _))))) (qo (qr (qc 1)))))) read
abbrev ZJ:Stmt:=top 44
abbrev SQ:List Str:=["_law_dealing_here","_law_i","_law_j","_law_rows","_law_columns","_law_banks","_law_some","_law_high","_law_wide","_law_more"]
abbrev W1:List Str:=["_law_dealing_here","_law_i","_law_j"]
def jg:FnScope SQ W1 (qk ZJ):=⟨rfl,rfl,rfl,by decide +kernel,rfl,by decide +kernel,by decide +kernel⟩
def EO {S_law_size:Sp3} {S_law_odd:Sp3} {S_law_bank:Sp3} (F:Fun K "_law_bank" "_law_bank" ZJ f fd) (bd:zi K fd W1 []) (hm:mg "_law_bank" = some (.ref f)) (F_law_size:Fn3 P w K mg base k "_law_size" S_law_size) (F_law_odd:Fn3 P w K mg base k "_law_odd" S_law_odd) (F_law_bank:Fn3 P w K mg base k "_law_bank" S_law_bank) (m_enumerate:mg "enumerate" = none) (m_sum:mg "sum" = none)
  (read:Rd sp 3 (Bk.UI S_law_size S_law_odd S_law_bank) SQ):Fn3 P w K mg base (k+1) "_law_bank" sp:=
 qC (t3:=(Bk.UI S_law_size S_law_odd S_law_bank)) F jg bd hm (λcdv A outer s H E hr=>(qf (jA (qg F_law_size hr rfl (qa (qc 0) qd)) (zB rfl (qp (qq (i:=3) (jg.nd)) (qp (qq (i:=4) (jg.nd)) (qp (qq (i:=5) (jg.nd)) zC))))) (qf (zr (qL (ze hr.units) qJ (qu (qc 0) qe) qK (qB _)) (qo (qr (QR (qA (zp (qu (qc 0) qe) (qc 1)) (zp (qu (qc 0) qe) (qc 2))) (qc 5)))) qR) (qf (zr (qL (ze hr.units) qJ (qu (qc 0) qe) qK (qB _)) (qo (qr (QR (qA (zp (qc 1) (qc 4)) (qc 2)) (qc 5)))) qR) (qf (zr (qL (ze hr.units) qJ (qu (qc 0) qe) qK (qB _)) (qf (UF 6 ["_law_t","_law_mask","_law_j","_law_i","_law_columns"] [none,none,some 2,some 1,some 4] rfl jg.nd (qda rfl m_enumerate (qa (qu (qc 0) qe) qd)) (λ_ _ _=>(zB rfl (qp (jgn 0) (qp (jgn 1) zC)))) (λ_ _ _=>qcd (XE (qg F_law_odd hr rfl (qa (KC (qA (zp (qc 3) (qc 4)) (qc 2)) (qc 1)) qd)))) (λ_ _ _=>(qu (zW (qa qe (qa qe (qa qe (qa qe (qa qe qd)))))) (qc 0))) (by kernel_rfl) (by kernel_rfl) rfl rfl) (qo (qr (qz (DN rfl) qdb rfl m_sum PyProof.Rows.boot_sum (qa (qc 6) qd))))) qR) (qf (zr (qL (ze hr.units) qJ (qu (qc 0) qe) qK (qB _)) (qo (qr (qu (qu (qu (qc 0) qe) (qc 1)) (qc 2)))) qR) (qf (jA (qg F_law_size hr rfl (qa (qu (qc 0) qe) qd)) (zB rfl (qp (qq (i:=7) (jg.nd)) (qp (qq (i:=8) (jg.nd)) (qp (qq (i:=9) (jg.nd)) zC))))) (qo (qr (qA (zp (qg F_law_bank hr rfl (qa (qu (qc 0) qe) (qa (U3 (qc 1) (qc 7)) (qa (U3 (qc 2) (qc 8)) qd)))) (qc 9)) (qg F_law_bank hr rfl (qa (qu (qc 0) qe) (qa (QR (qc 1) (qc 7)) (qa (QR (qc 2) (qc 8)) qd)))))))))))))) read
abbrev ZR:Stmt:=top 45
abbrev W5:List Str:=["_law_left_here"]
abbrev WV:List Str:=["_law_left_here"]
def NV:FnScope W5 WV (qk ZR):=⟨rfl,rfl,rfl,by decide +kernel,rfl,by decide +kernel,by decide +kernel⟩
def M8 {S_law_pick:Sp3} (F:Fun K "_law_many" "_law_many" ZR f fd) (bd:zi K fd WV []) (hm:mg "_law_many" = some (.ref f)) (F_law_pick:Fn3 P w K mg base k "_law_pick" S_law_pick) 
  (read:Rd sp 1 (Bk.UD S_law_pick) W5):Fn3 P w K mg base (k+1) "_law_many" sp:=
 qC (t3:=(Bk.UD S_law_pick)) F NV bd hm (λcdv A outer s H E hr=>(qo (qr (qA qe (qg F_law_pick hr rfl (qa (qc 0) (qa (qu (zW (qa qe (qa qe (qa qe (qa qe (qa qe (qa qe (qa qe (qa qe qd))))))))) (qg F_law_pick hr rfl (qa (qc 0) (qa qe qd)))) qd))))))) read
abbrev ZB:Stmt:=top 46
abbrev W0:List Str:=["_law_left_here","_law_way","_law_lying","_law_high","_law_wide","_law_down","_law_along","_law_pairs","_law_far","_law_turn","_law_pair"]
abbrev WW:List Str:=["_law_left_here"]
def ji:FnScope W0 WW (qk ZB):=⟨rfl,rfl,rfl,by decide +kernel,rfl,by decide +kernel,by decide +kernel⟩
def N2 {S_law_pick:Sp3} {S_law_many:Sp3} (F:Fun K "_law_walk" "_law_walk" ZB f fd) (bd:zi K fd WW []) (hm:mg "_law_walk" = some (.ref f)) (F_law_pick:Fn3 P w K mg base k "_law_pick" S_law_pick) (F_law_many:Fn3 P w K mg base k "_law_many" S_law_many) (m_int:mg "int" = none) (m_range:mg "range" = none) (m_tuple:mg "tuple" = none)
  (read:Rd sp 1 (Bk.UO S_law_pick S_law_many) W0):Fn3 P w K mg base (k+1) "_law_walk" sp:=
 qC (t3:=(Bk.UO S_law_pick S_law_many)) F ji bd hm (λcdv A outer s H E hr=>(qf (qM 1 ji.nd (qg F_law_pick hr rfl (qa (qc 0) (qa qe qd)))) (qf (zr (qL TV jV (qc 1) qe (qB _)) (qo (qr (qv (qa (qu (zW (qa qK (qa qK (qa qK (qa qK qd))))) (qc 1)) (qa (qg F_law_many hr rfl (qa (qc 0) qd)) qd))))) qR) (qf (zr (qL TV jV (qc 1) qe (qB _)) (qf (VS (i:=2) (j:=3) rfl ji.nd rfl rfl (by decide) rfl rfl (qa (qg F_law_pick hr rfl (qa (qc 0) (qa qe qd))) (qa (qA qe (qg F_law_pick hr rfl (qa (qc 0) (qa qe qd)))) qd))) (qf (qM 4 ji.nd (qA qe (qg F_law_pick hr rfl (qa (qc 0) (qa (U3 qe (qc 3)) qd))))) (qo (qr (qu (zW (qa (qv (qa qK (qa (qc 3) (qa (qc 4) qd)))) (qa (qv (qa qK (qa (qc 4) (qa (qc 3) qd)))) qd))) (qc 2)))))) qR) (qf (zr (qL TV jV (qc 1) qe (qB _)) (qf (VS (i:=5) (j:=6) rfl ji.nd rfl rfl (by decide) rfl rfl (qa (U2 (qg F_law_pick hr rfl (qa (qc 0) (qa qe qd))) qe) (qa (U2 (qg F_law_pick hr rfl (qa (qc 0) (qa qe qd))) qe) qd))) (qf (zr (qL (ze hr.units) qJ (qg F_law_pick hr rfl (qa (qc 0) (qa qe qd))) qe (qB _)) (qo (qr (qv (qa qK (qa (zp qe (qc 5)) (qa (qA (zp qe (qc 6)) (zA D0 TL rfl m_int PyProof.Rows.boot_int (qa (V1 (JL (ze hr.units) qJ (qc 5) qe (qB _)) (WC (JL (ze hr.units) qJ (qc 6) qe (qB _)))) qd))) (qa (qA qe (qg F_law_pick hr rfl (qa (qc 0) (qa qe qd)))) qd))))))) qR) (qo (qr (qv (qa qK (qa (qc 5) (qa (qA (qc 6) (zA D0 TL rfl m_int PyProof.Rows.boot_int (qa (V1 (JL (ze hr.units) qJ (qc 5) qe (qB _)) (WC (JL (ze hr.units) qJ (qc 6) qe (qB _)))) qd))) (qa (qg F_law_many hr rfl (qa (qc 0) qd)) qd))))))))) qR) (qf (VS (i:=7) (j:=8) rfl ji.nd rfl rfl (by decide) rfl rfl (qa (zW qd) (qa (qA qe (zp qe (zA D0 TL rfl m_int PyProof.Rows.boot_int (qa (JL (ze hr.units) qJ (qg F_law_pick hr rfl (qa (qc 0) (qa qe qd))) qe (qB _)) qd)))) qd))) (qf (JK PassesOwn.never rfl (qU rfl m_range (qa (qg F_law_many hr rfl (qa (qc 0) qd)) qd) (h1:=by intro _ _ _ h;simpa [qb,qh] using h)) (qq (i:=9) (ji.nd)) (qf (qM 10 ji.nd (qv (qa (zp (qc 8) (U2 (qg F_law_pick hr rfl (qa (qc 0) (qa qe qd))) qe)) (qa (zp (qc 8) (U2 (qg F_law_pick hr rfl (qa (qc 0) (qa qe qd))) qe)) qd)))) (qo (zr (qL (qcr hr.units) qch (qc 10) (qc 7) (by with_unfolding_all rfl)) (qo (W2 (CN (qc 7) (qa (qc 10) qd)))) qR)))) (qo (qr (qv (qa qK (qa (zA zD QE rfl m_tuple PyProof.Rows.boot_tuple (qa (qc 7) qd)) qd)))))))))))) read
abbrev QK:Stmt:=top 47
abbrev YS:List Str:=["_law_walk_here","_law_found","_law_p","_law_down","_law_along"]
abbrev U8:List Str:=["_law_walk_here"]
def QL:FnScope YS U8 (qk QK):=⟨rfl,rfl,rfl,by decide +kernel,rfl,by decide +kernel,by decide +kernel⟩
def MH (F:Fun K "_law_cells" "_law_cells" QK f fd) (bd:zi K fd U8 []) (hm:mg "_law_cells" = some (.ref f))  (m_list:mg "list" = none) (m_range:mg "range" = none)
  (read:Rd sp 1 (Bk.J5) YS):Fn3 P w K mg base (k+1) "_law_cells" sp:=
 qC (t3:=(Bk.J5)) F QL bd hm (λcdv A outer s H E hr=>(qf (zr (qL (ze hr.units) qJ (qu (qc 0) qe) qK (qB _)) (qo (qr (zA XF qau rfl m_list PyProof.Rows.boot_list (qa (qu (qc 0) qe) qd)))) qR) (qf (zr (qL (ze hr.units) qJ (qu (qc 0) qe) qK (qB _)) (qf (qM 1 QL.nd (zW qd)) (qf (JK PassesOwn.never rfl (qU rfl m_range (qa (qu (qc 0) qe) qd) (h1:=by intro _ _ _ h;simpa [qb,qh] using h)) (qq (i:=2) (QL.nd)) (qo (W2 (RB (qc 1) (qa (YE ["_law_q","_law_p"] [none,some 2] rfl (qU rfl m_range (qa (qu (qc 0) qe) qd) (h1:=by intro _ _ _ h;simpa [qb,qh] using h)) (λ_ _ _=>(jgn 0)) (λ_ _ _=>zQ) (λ_ _ _=>(qv (qa (qc 1) (qa (qc 0) qd)))) (by kernel_rfl) (by kernel_rfl)) qd))))) (qo (qr (qc 1))))) qR) (qf (jA (qhw (CZ (qv (qa qe (qa qe qd))) (CZ (qv (qa qe (qa qe qd))) (CZ (qv (qa qe (qa qe qd))) (CZ (qv (qa qe (qa (JS qe) qd))) (CZ (qaC (qc 0) (TC qe) (TC qe)) ql0))))) (qu (qc 0) qe)) (zB rfl (qp (qq (i:=3) (QL.nd)) (qp (qq (i:=4) (QL.nd)) zC)))) (qo (qr (YE ["_law_t","_law_down","_law_along"] [none,some 3,some 4] rfl (qU rfl m_range (qa (qu (qc 0) (JS qe)) qd) (h1:=by intro _ _ _ h;simpa [qb,qh] using h)) (λ_ _ _=>(jgn 0)) (λ_ _ _=>zQ) (λ_ _ _=>(qv (qa (zp (qc 0) (qc 1)) (qa (zp (qc 0) (qc 2)) qd)))) (by kernel_rfl) (by kernel_rfl)))))))) read
abbrev jR:Stmt:=top 48
abbrev Z7:List Str:=["_law_dealing_here","_law_walk_here","_law_rows","_law_columns","_law_banks","_law_cells_here","_law_downs","_law_alongs","_law_found","_law_i"]
abbrev V5:List Str:=["_law_dealing_here","_law_walk_here"]
def zy:FnScope Z7 V5 (qk jR):=⟨rfl,rfl,rfl,by decide +kernel,rfl,by decide +kernel,by decide +kernel⟩
def TZ {S_law_size:Sp3} {S_law_cells:Sp3} (F:Fun K "_law_starts" "_law_starts" jR f fd) (bd:zi K fd V5 []) (hm:mg "_law_starts" = some (.ref f)) (F_law_size:Fn3 P w K mg base k "_law_size" S_law_size) (zf:Fn3 P w K mg base k "_law_cells" S_law_cells) (m_min:mg "min" = none) (m_max:mg "max" = none) (m_range:mg "range" = none)
  (read:Rd sp 2 (Bk.Z5 S_law_size S_law_cells) Z7):Fn3 P w K mg base (k+1) "_law_starts" sp:=
 qC (t3:=(Bk.Z5 S_law_size S_law_cells)) F zy bd hm (λcdv A outer s H E hr=>(qf (jA (qg F_law_size hr rfl (qa (qc 0) qd)) (zB rfl (qp (qq (i:=2) (zy.nd)) (qp (qq (i:=3) (zy.nd)) (qp (qq (i:=4) (zy.nd)) zC))))) (qf (qM 5 zy.nd (qg zf hr rfl (qa (qc 1) qd))) (qf (VS (i:=6) (j:=7) rfl zy.nd rfl rfl (by decide) rfl rfl (qa (YE ["_law_p","_law_q"] [none,none] rfl (JP (qc 5)) (λ_ _ _=>(zB rfl (qp (jgn 0) (qp (jgn 1) zC)))) (λ_ _ _=>zQ) (λ_ _ _=>(qc 0)) (by kernel_rfl) (by kernel_rfl)) (qa (YE ["_law_p","_law_q"] [none,none] rfl (JP (qc 5)) (λ_ _ _=>(zB rfl (qp (jgn 0) (qp (jgn 1) zC)))) (λ_ _ _=>zQ) (λ_ _ _=>(qc 1)) (by kernel_rfl) (by kernel_rfl)) qd))) (qf (qM 8 zy.nd (zW qd)) (qf (JK PassesOwn.never rfl (VL rfl m_range (qa (JS (qz (WA rfl) CL rfl m_min PyProof.Rows.boot_min (qa (qc 6) qd))) (qa (U2 (qc 2) (qz (DM rfl) X7 rfl m_max PyProof.Rows.boot_max (qa (qc 6) qd))) qd)) (h1:=by intro _ _ _ h;simpa [qb,qh] using h)) (qq (i:=9) (zy.nd)) (qo (W2 (RB (qc 8) (qa (YE ["_law_j","_law_i"] [none,some 9] rfl (VL rfl m_range (qa (JS (qz (WA rfl) CL rfl m_min PyProof.Rows.boot_min (qa (qc 7) qd))) (qa (U2 (qc 3) (qz (DM rfl) X7 rfl m_max PyProof.Rows.boot_max (qa (qc 7) qd))) qd)) (h1:=by intro _ _ _ h;simpa [qb,qh] using h)) (λ_ _ _=>(jgn 0)) (λ_ _ _=>zQ) (λ_ _ _=>(qv (qa (qc 1) (qa (qc 0) qd)))) (by kernel_rfl) (by kernel_rfl)) qd))))) (qo (qr (qc 8))))))))) read
abbrev ZM:Stmt:=top 49
abbrev UU:List Str:=["_law_dealing_here","_law_walk_here","_law_start"]
abbrev W7:List Str:=["_law_dealing_here","_law_walk_here","_law_start"]
def N5:FnScope UU W7 (qk ZM):=⟨rfl,rfl,rfl,by decide +kernel,rfl,by decide +kernel,by decide +kernel⟩
def NF {S_law_cells:Sp3} {S_law_bank:Sp3} (F:Fun K "_law_from" "_law_from" ZM f fd) (bd:zi K fd W7 []) (hm:mg "_law_from" = some (.ref f)) (zf:Fn3 P w K mg base k "_law_cells" S_law_cells) (F_law_bank:Fn3 P w K mg base k "_law_bank" S_law_bank) 
  (read:Rd sp 3 (Bk.UQ S_law_cells S_law_bank) UU):Fn3 P w K mg base (k+1) "_law_from" sp:=
 qC (t3:=(Bk.UQ S_law_cells S_law_bank)) F N5 bd hm (λcdv A outer s H E hr=>(qo (qr (YE ["_law_p","_law_q","_law_dealing_here","_law_start"] [none,none,some 0,some 2] rfl (JP (qg zf hr rfl (qa (qc 1) qd))) (λ_ _ _=>(zB rfl (qp (jgn 0) (qp (jgn 1) zC)))) (λ_ _ _=>zQ) (λ_ _ _=>(qg F_law_bank hr rfl (qa (qc 2) (qa (qA (qu (qc 3) qe) (qc 0)) (qa (qA (qu (qc 3) qe) (qc 1)) qd))))) (by kernel_rfl) (by kernel_rfl))))) read
abbrev QF:Stmt:=top 50
abbrev J4:List Str:=["_law_some","_law_found","_law_l"]
abbrev EM:List Str:=["_law_some"]
def VP:FnScope J4 EM (qk QF):=⟨rfl,rfl,rfl,by decide +kernel,rfl,by decide +kernel,by decide +kernel⟩
def J3:TS3:=(qx (qG (zM qh) (gn3 1)) (qx (XY (zE (qb (cb3 jE (qb (v3 0) qh)) qh)) (gn3 2) (zw (bm3 JF (v3 1) (qb (lc3 (zE (qb (v3 2) qh)) (gn3 0) (tb3 (o3 (zh false) (o3 ix3 (v3 2) (v3 0)) (o3 ix3 (v3 2) (v3 1)))) (qP (qb (v3 0) (qb (v3 1) qh))) [none,some 2,some 0]) qh)))) (qD (v3 1))))
def LF (F:Fun K "_law_alike" "_law_alike" QF f fd) (bd:zi K fd EM []) (hm:mg "_law_alike" = some (.ref f))  (m_len:mg "len" = none) (m_range:mg "range" = none)
  (read:Rd sp 1 (J3) J4):Fn3 P w K mg base (k+1) "_law_alike" sp:=
 qC (t3:=(J3)) F VP bd hm (λcdv A outer s H E hr=>(qf (qM 1 VP.nd (zW qd)) (qf (JK PassesOwn.never rfl (qU rfl m_range (qa (qz zd zt rfl m_len PySem.boot_len (qa (qc 0) qd)) qd) (h1:=by intro _ _ _ h;simpa [qb,qh] using h)) (qq (i:=2) (VP.nd)) (qo (W2 (RB (qc 1) (qa (YE ["_law_k","_law_l","_law_some"] [none,some 2,some 0] rfl (qU rfl m_range (qa (qc 2) qd) (h1:=by intro _ _ _ h;simpa [qb,qh] using h)) (λ_ _ _=>(jgn 0)) (λ_ _ _=>qcd (qL (ze hr.units) qJ (qu (qc 2) (qc 0)) (qu (qc 2) (qc 1)) (qB _))) (λ_ _ _=>(qv (qa (qc 0) (qa (qc 1) qd)))) (by kernel_rfl) (by kernel_rfl)) qd))))) (qo (qr (qc 1)))))) read
abbrev QN:Stmt:=top 51
abbrev YI:List Str:=["_law_left_here","_law_dealing_here","_law_walk_here","_law_start","_law_some","_law_k","_law_l","_law_found","_law_alike_here"]
abbrev EQ:List Str:=["_law_left_here","_law_dealing_here","_law_walk_here","_law_start"]
def zR:FnScope YI EQ (qk QN):=⟨rfl,rfl,rfl,by decide +kernel,rfl,by decide +kernel,by decide +kernel⟩
def J8 (S_law_from:Sp3) (S_law_pick:Sp3) (S_law_alike:Sp3):TS3:=(qx (qG (cb3 S_law_from (qb (v3 1) (qb (v3 2) (qb (v3 3) qh)))) (gn3 4)) (qx (jU 5 6 (qb (cb3 S_law_pick (qb (v3 0) (qb (cb3 jE (qb (v3 4) qh)) qh))) (qb (cb3 S_law_pick (qb (v3 0) (qb (cb3 jE (qb (v3 4) qh)) qh))) qh))) (qx (qG (zM (qb (qP (qb (v3 5) (qb (v3 6) qh))) (qb (qP (qb (v3 6) (qb (v3 5) qh))) (qb (qP (qb (v3 5) (qb (v3 5) qh))) (qb (qP (qb (v3 5) (qb (cb3 jE (qb (v3 4) qh)) qh))) (qb (qP (qb (u3 QV (c3 (.int 1))) (qb (v3 6) qh))) (qb (qP (qb (o3 (iI (·-·)) (v3 5) (cb3 jE (qb (v3 4) qh))) (qb (v3 6) qh))) (qb (qP (qb (c3 (.int 0)) (qb (o3 (iI (·-·)) (cb3 jE (qb (v3 4) qh)) (c3 (.int 1))) qh))) qh)))))))) (gn3 7)) (qx (qG (cb3 S_law_alike (qb (v3 4) qh)) (gn3 8)) (qx (za (tb3 (o3 (zh true) (v3 8) (zM qh))) (qx (qG (o3 ix3 (v3 8) (cb3 S_law_pick (qb (v3 0) (qb (cb3 jE (qb (v3 8) qh)) qh)))) (qN 2 (qj (gn3 5) (qj (gn3 6) qO)))) (qG (o3 q0 (v3 7) (zM (qb (qP (qb (v3 5) (qb (v3 6) qh))) (qb (qP (qb (v3 6) (qb (v3 5) qh))) (qb (o3 ix3 (v3 8) (u3 QV (c3 (.int 1)))) qh))))) (gn3 7))) qw) (qD (lc3 (YQ (v3 7)) (gn3 0) tt3 (qP (qb (o3 q0 (qP (qb (v3 2) qh)) (v3 0)) (qb (o3 (qoh false) (v3 0) (v3 1)) qh))) [none,some 8,some 3])))))))
def MJ {S_law_from:Sp3} {S_law_pick:Sp3} {S_law_alike:Sp3} (F:Fun K "_law_asked" "_law_asked" QN f fd) (bd:zi K fd EQ []) (hm:mg "_law_asked" = some (.ref f)) (jK:Fn3 P w K mg base k "_law_from" S_law_from) (F_law_pick:Fn3 P w K mg base k "_law_pick" S_law_pick) (jn:Fn3 P w K mg base k "_law_alike" S_law_alike) (m_len:mg "len" = none)
  (read:Rd sp 4 (J8 S_law_from S_law_pick S_law_alike) YI):Fn3 P w K mg base (k+1) "_law_asked" sp:=
 qC (t3:=(J8 S_law_from S_law_pick S_law_alike)) F zR bd hm (λcdv A outer s H E hr=>(qf (qM 4 zR.nd (qg jK hr rfl (qa (qc 1) (qa (qc 2) (qa (qc 3) qd))))) (qf (VS (i:=5) (j:=6) rfl zR.nd rfl rfl (by decide) rfl rfl (qa (qg F_law_pick hr rfl (qa (qc 0) (qa (qz zd zt rfl m_len PySem.boot_len (qa (qc 4) qd)) qd))) (qa (qg F_law_pick hr rfl (qa (qc 0) (qa (qz zd zt rfl m_len PySem.boot_len (qa (qc 4) qd)) qd))) qd))) (qf (qM 7 zR.nd (zW (qa (qv (qa (qc 5) (qa (qc 6) qd))) (qa (qv (qa (qc 6) (qa (qc 5) qd))) (qa (qv (qa (qc 5) (qa (qc 5) qd))) (qa (qv (qa (qc 5) (qa (qz zd zt rfl m_len PySem.boot_len (qa (qc 4) qd)) qd))) (qa (qv (qa (JS qe) (qa (qc 6) qd))) (qa (qv (qa (U2 (qc 5) (qz zd zt rfl m_len PySem.boot_len (qa (qc 4) qd))) (qa (qc 6) qd))) (qa (qv (qa qe (qa (U2 (qz zd zt rfl m_len PySem.boot_len (qa (qc 4) qd)) qe) qd))) qd))))))))) (qf (qM 8 zR.nd (qg jn hr rfl (qa (qc 4) qd))) (qf (zr (qL (LY hr.units) RD (qc 8) (zW qd) (qB _)) (qf (jA (qu (qc 8) (qg F_law_pick hr rfl (qa (qc 0) (qa (qz zd zt rfl m_len PySem.boot_len (qa (qc 8) qd)) qd)))) (zB rfl (qp (qq (i:=5) (zR.nd)) (qp (qq (i:=6) (zR.nd)) zC)))) (qo (qM 7 zR.nd (qA (qc 7) (zW (qa (qv (qa (qc 5) (qa (qc 6) qd))) (qa (qv (qa (qc 6) (qa (qc 5) qd))) (qa (qu (qc 8) (JS qe)) qd)))))))) qR) (qo (qr (YE ["_law_one","_law_alike_here","_law_start"] [none,some 8,some 3] rfl (JP (qc 7)) (λ_ _ _=>(jgn 0)) (λ_ _ _=>zQ) (λ_ _ _=>(qv (qa (qA (qv (qa (qc 2) qd)) (qc 0)) (qa (JL (qms hr.units) qch (qc 0) (qc 1) (by with_unfolding_all rfl)) qd)))) (by kernel_rfl) (by kernel_rfl)))))))))) read
abbrev VQ:Stmt:=top 52
abbrev qbV:List Str:=["_law_script","_law_k","_law_left_here","_law_dealing_here","_law_walk_here","_law_some","_law_things","_law_turn","_law_thing","_law_due","_law_found","_law_told"]
abbrev qjS:List Str:=["_law_script"]
def Y9:FnScope qbV qjS (qk VQ):=⟨rfl,rfl,rfl,by decide +kernel,rfl,by decide +kernel,by decide +kernel⟩
def qhM (S_law_left:Sp3) (S_law_dealing:Sp3) (S_law_walk:Sp3) (S_law_starts:Sp3) (S_law_pick:Sp3) (S_law_asked:Sp3) (S_shows_clash:Sp3) (S_clash:Sp3):TS3:=(qx (XY (zE (qb (o3 q0 (c3 (.int 1)) (cb3 VE (qb (c3 (.int 6)) (qb (cb3 jE (qb (v3 0) qh)) qh)))) qh)) (gn3 1) (qx (qG (cb3 S_law_left (qb (v3 0) (qb (v3 1) qh))) (gn3 2)) (qx (jU 3 4 (qb (cb3 S_law_dealing (qb (v3 2) qh)) (qb (cb3 S_law_walk (qb (v3 2) qh)) qh))) (qx (qG (cb3 S_law_starts (qb (v3 3) (qb (v3 4) qh))) (gn3 5)) (qx (qG (zM (qb (qP (qb (qP (qb (qP (qb (c3 (.int 0)) (qb (c3 (.int 99)) qh))) (qb (c3 (.int 0)) (qb (c3 (.int 1)) qh)))) (qb (c3 (.bl false)) qh))) (qb (qP (qb (qP (qb (qP (qb (u3 QV (c3 (.int 30))) (qb (c3 (.int 0)) qh))) (qb (c3 (.int 0)) (qb (c3 (.int 1)) qh)))) (qb (c3 (.bl false)) qh))) qh))) (gn3 6)) (qx (XY (zE (qb (o3 (iC Q7 (·*·)) (c3 (.int 8)) (cb3 ZW (qb (o3 (zh true) (v3 5) (zM qh)) qh))) qh)) (gn3 7) (qG (o3 q0 (v3 6) (cb3 S_law_asked (qb (v3 2) (qb (v3 3) (qb (v3 4) (qb (o3 ix3 (v3 5) (cb3 S_law_pick (qb (v3 2) (qb (cb3 jE (qb (v3 5) qh)) qh)))) qh)))))) (gn3 6))) (qx (XY (YQ (v3 6)) (qN 2 (qj (gn3 8) (qj (gn3 9) qO))) (qx (qG (cb3 S_shows_clash (qb (v3 3) (qb (v3 4) (qb (v3 8) qh)))) (gn3 10)) (za (or3 (JB (tb3 (JH (λt=>QQ t "bool") (v3 10)))) (tb3 (o3 (zh true) (v3 10) (v3 9)))) (qD (c3 (.bl false))) qw))) (qx (qG (cb3 S_clash (qb (v3 3) (qb (v3 4) qh))) (gn3 11)) (qx (za (VB (tb3 (o3 (YD true) (v3 11) (c3 .non))) (tb3 (o3 (qi4 true) (cb3 S_shows_clash (qb (v3 3) (qb (v3 4) (qb (v3 11) qh)))) (c3 (.bl true))))) (qD (c3 (.bl false))) qw) (za (tb3 (o3 (qi4 true) (cb3 S_shows_clash (qb (v3 3) (qb (v3 4) (qb (c3 .non) qh)))) (c3 (.bl false)))) (qD (c3 (.bl false))) qw)))))))))) (qD (c3 (.bl true))))
def qjF {S_law_left:Sp3} {S_law_dealing:Sp3} {S_law_walk:Sp3} {S_law_starts:Sp3} {S_law_pick:Sp3} {S_law_asked:Sp3} {S_shows_clash:Sp3} {S_clash:Sp3} (F:Fun K "law" "law" VQ f fd) (F_law_left:Fn3 P w K mg base k "_law_left" S_law_left) (F_law_dealing:Fn3 P w K mg base k "_law_dealing" S_law_dealing) (F_law_walk:Fn3 P w K mg base k "_law_walk" S_law_walk) (zO:Fn3 P w K mg base k "_law_starts" S_law_starts) (F_law_pick:Fn3 P w K mg base k "_law_pick" S_law_pick) (F_law_asked:Fn3 P w K mg base k "_law_asked" S_law_asked) (qQ:Fn3 P w K mg base k "shows_clash" S_shows_clash) (V3:Fn3 P w K mg base k "clash" S_clash) (m_len:mg "len" = none) (m_min:mg "min" = none) (m_range:mg "range" = none) (m_int:mg "int" = none) (m_isinstance:mg "isinstance" = none) (m_bool:mg "bool" = none)
  (read:Rd sp 1 (qhM S_law_left S_law_dealing S_law_walk S_law_starts S_law_pick S_law_asked S_shows_clash S_clash) qbV):FnOk P w K mg base CX0 (k+1) f fd qjS (lSp K sp):=
 qeg (t3:=(qhM S_law_left S_law_dealing S_law_walk S_law_starts S_law_pick S_law_asked S_shows_clash S_clash)) F Y9 (λcdv A outer s H E hr=>(qf (JK PassesOwn.never rfl (qU rfl m_range (qa (qA qe (qz (qcT rfl) qiu rfl m_min PyProof.Rows.boot_min (qa qe (qa (qz zd zt rfl m_len PySem.boot_len (qa (qc 0) qd)) qd)))) qd) (h1:=by intro _ _ _ h;simpa [qb,qh] using h)) (qq (i:=1) (Y9.nd)) (qf (qM 2 Y9.nd (qg F_law_left hr rfl (qa (qc 0) (qa (qc 1) qd)))) (qf (VS (i:=3) (j:=4) rfl Y9.nd rfl rfl (by decide) rfl rfl (qa (qg F_law_dealing hr rfl (qa (qc 2) qd)) (qa (qg F_law_walk hr rfl (qa (qc 2) qd)) qd))) (qf (qM 5 Y9.nd (qg zO hr rfl (qa (qc 3) (qa (qc 4) qd)))) (qf (qM 6 Y9.nd (zW (qa (qv (qa (qv (qa (qv (qa qe (qa qe qd))) (qa qe (qa qe qd)))) (qa XU qd))) (qa (qv (qa (qv (qa (qv (qa (JS qe) (qa qe qd))) (qa qe (qa qe qd)))) (qa XU qd))) qd)))) (qf (JK PassesOwn.never rfl (qU rfl m_range (qa (zp qe (zA D0 TL rfl m_int PyProof.Rows.boot_int (qa (JL (LY hr.units) RD (qc 5) (zW qd) (qB _)) qd))) qd) (h1:=by intro _ _ _ h;simpa [qb,qh] using h)) (qq (i:=7) (Y9.nd)) (qo (qM 6 Y9.nd (qA (qc 6) (qg F_law_asked hr rfl (qa (qc 2) (qa (qc 3) (qa (qc 4) (qa (qu (qc 5) (qg F_law_pick hr rfl (qa (qc 2) (qa (qz zd zt rfl m_len PySem.boot_len (qa (qc 5) qd)) qd)))) qd))))))))) (qf (JK PassesOwn.never rfl (JP (qc 6)) (zB rfl (qp (qq (i:=8) (Y9.nd)) (qp (qq (i:=9) (Y9.nd)) zC))) (qf (qM 10 Y9.nd (qg qQ hr rfl (qa (qc 3) (qa (qc 4) (qa (qc 8) qd))))) (qo (zr (jpt (qig (SJ (XE (LX (qc 10) rfl m_isinstance rfl m_bool PyProof.Rows.boot_bool))) (qcR (qL (LY hr.units) RD (qc 10) (qc 9) (qB _))))) (qo (qr XU)) qR)))) (qf (qM 11 Y9.nd (qg V3 hr rfl (qa (qc 3) (qa (qc 4) qd)))) (qf (zr (jpt (qjm (qL qca qaR (qc 11) MP (qB _)) (qiB (qL qce qaS (qg qQ hr rfl (qa (qc 3) (qa (qc 4) (qa (qc 11) qd)))) XU (qB _))))) (qo (qr XU)) qR) (qo (zr (qL qce qaS (qg qQ hr rfl (qa (qc 3) (qa (qc 4) (qa MP qd)))) XU (qB _)) (qo (qr XU)) qR))))))))))) (qo (qr XU)))) read
def qdM {d:Nat} (h:d<=5):L2.atI [T.int 1,.int 2,.int 4,.int 8,.int 16,.int 32] (d:Int)=some (.int (2 ^ d)):=by
 have:d=0\/d=1\/d=2\/d=3\/d=4\/d=5:=by omega
 rcases this with rfl|rfl|rfl|rfl|rfl|rfl<;>rfl
def LG {s l1 l2:Str} {xs:List T} {R S:TS3} {d:Ends3} {τ:St3} {G:Gp} (hτ:τ[0]?=some (some (T.tup (.str s::xs)))):qx (za (tb3 (o3 (in3 false) (o3 ix3 (v3 0) (c3 (.int 0))) (qP (qb (c3 (.str l1)) (qb (c3 (.str l2)) qh))))) R qw) S d τ G=(if s=l1\/s=l2 then R { d with nx:=S d } τ G else S d τ G):=by
 have s2:[T.str l1,T.str l2].length<=sizeLine:=by simp [sizeLine_eq]
 simp only [qx,za,tb3,o3,v3,hτ,c3,L3.ixT,qbk,qP,qb,qh,in3,qw];by_cases e1:s=l1
 ·subst e1;simp [zq,eqF,sizeLine_eq]
 ·have e1':¬ l1=s:=λz=>e1 z.symm;by_cases e2:s=l2
  ·subst e2;simp [zq,eqF,sizeLine_eq]
  ·have e2':¬ l2=s:=λz=>e2 z.symm;simp [zq,eqF,sizeLine_eq,e1,e2,e1',e2']
def EG (n:Nat):∀ ts G q,jZ (n+1) ts G q->ts.length=1/\V7 (jZ n) (RO q) (qm ["_law_dealing_here","_law_two","_law_one","_law_other"] ts) G:=by
 rintro ts G q ⟨d,rfl,hd,ok,h⟩;refine ⟨rfl,?_⟩;have h0:=h G Ex.refl;unfold V7;cases d with
 |skew r c b x y=>
  show qx _ _ _ [some (.tup [.str "skew",.int r,.int c,.int b,.int x,.int y]),none,none,none] G;rw [LG rfl,if_pos (.inl rfl)];simp [sl3,qD,JX,sp3,v3,c3,L3.Z4,HT.sIx];exact h0
 |rests r c b x=>
  show qx _ _ _ [some (.tup [.str "rests",.int r,.int c,.int b,.int x]),none,none,none] G;rw [LG rfl,if_pos (.inr rfl)];simp [sl3,qD,JX,sp3,v3,c3,L3.Z4,HT.sIx];exact h0
 |bits hh l ms=>
  obtain ⟨k1,k2,k3,_⟩:=ok;show qx _ _ _ [some (.tup [.str "bits",.int hh,.int l,.tup (ms.map T.int)]),none,none,none] G;rw [LG rfl,if_neg (by decide),zV rfl,if_pos rfl];simp [qx,qG,gn3,qD,jw,za,zw,VH,qw,v3,c3,o3,u3,QV,L3.ixT,L3.ixR,q0,iI,iC,iB,zh,qZ,YD,tb3,VB,or3,JB,zk,UV,ja,if3,ch3,cb3,qb,qh,JH,tyT,QQ,qP,zM,JX,np3,sp3,qN,qj,qO,zF,JY,jU,qm,bm3,JG,JF,jE,VD,VE,UX,ZW,qI,zT,Y8,UY,VI,Z4,HT.sIx,zo,in3,zq,eqF,gu,sizeLine_eq,getElem?_cons_zero,getElem?_cons_succ];intro p hp;have ix:∀ k:Nat,k<=5->L2.atI [T.int 1,.int 2,.int 4,.int 8,.int 16,.int 32] (k:Int)=some (.int (2 ^ k)):=λk hk=>qdM hk;simp [qx,qG,gn3,qD,jw,za,zw,VH,qw,v3,c3,o3,u3,QV,L3.ixT,L3.ixR,q0,iI,iC,iB,zh,qZ,YD,tb3,VB,or3,JB,zk,UV,ja,if3,ch3,cb3,qb,qh,JH,tyT,QQ,qP,zM,JX,np3,sp3,qN,qj,qO,zF,JY,jU,qm,bm3,JG,JF,jE,VD,VE,UX,ZW,qI,zT,Y8,UY,VI,Z4,HT.sIx,zo,in3,zq,eqF,gu,sizeLine_eq,getElem?_cons_zero,getElem?_cons_succ,qbk,qc2,qcW,qky,ix hh (by omega),ix l (by omega),ix ms.length (by omega)];exact h _ (ZP hp)
 |table b cells=>
  have L:=Dl.lims ok;obtain ⟨k1,k2,k3,k4,c,k5,k6,k7⟩:=ok;cases cells with
  |nil=>simp at k3
  |cons row cells=>
   show qx _ _ _ [some (.tup [.str "table",.int b,.tup (qam row::cells.map qam)]),none,none,none] G;rw [LG rfl,if_neg (by decide),zV rfl,if_neg (by decide),zV rfl,if_pos rfl];simp [qam,qbk,qc2,qcW,qx,qG,gn3,qD,jw,za,zw,VH,qw,v3,c3,o3,u3,QV,L3.ixT,L3.ixR,q0,iI,iC,iB,zh,qZ,YD,tb3,VB,or3,JB,zk,UV,ja,if3,ch3,cb3,qb,qh,JH,tyT,QQ,qP,zM,JX,np3,sp3,qN,qj,qO,zF,JY,jU,qm,bm3,JG,JF,jE,VD,VE,UX,ZW,qI,zT,Y8,UY,VI,Z4,HT.sIx,zo,in3,zq,eqF,gu,sizeLine_eq,getElem?_cons_zero,getElem?_cons_succ];simpa [XT,Dl.R,Dl.C,Dl.B] using h0
 |joined d e=>
  have Ld:=Dl.lims ok.1;have Le:=Dl.lims ok.2.1;have:1<=n:=by simp [Dl.dep] at hd;omega
  obtain ⟨m,rfl⟩:∃ m,n=m+1:=⟨n-1,by omega⟩
  show qx _ _ _ [some (.tup [.str "joined",d.t,e.t]),none,none,none] G;rw [LG rfl,if_neg (by decide),zV rfl,if_neg (by decide),zV rfl,if_neg (by decide)];refine jb λnx1 q1=>?_;simp only [jU,qb,qh,cb3,o3,v3,c3,L3.ixT,qc2,qcW,getElem?_cons_zero];refine ⟨d,rfl,by simp [Dl.dep] at hd;omega,ok.1,λG1 E1=>?_⟩;refine ⟨e,rfl,by simp [Dl.dep] at hd;omega,ok.2.1,λG2 E2=>?_⟩;simp;rw [q1];have e1:=Le.r1;have e2:=Le.r2;have e3:=Le.c1;have e4:=Le.c2;have e5:=Le.b1;have e6:=Le.b2;simp [XT,lc3,qed,ZX,qdG,SB,tt3,cap,qx,qG,gn3,qD,jw,za,zw,VH,qw,v3,c3,o3,u3,QV,L3.ixT,L3.ixR,q0,iI,iC,iB,zh,qZ,YD,tb3,VB,or3,JB,zk,UV,ja,if3,ch3,cb3,qb,qh,JH,tyT,QQ,qP,zM,JX,np3,sp3,qN,qj,qO,zF,JY,jU,qm,bm3,JG,JF,jE,VD,VE,UX,ZW,qI,zT,Y8,UY,VI,L2.atI,ixN,Z4,HT.sIx,zo,in3,zq,eqF,gu,sizeLine_eq,getElem?_cons_zero,getElem?_cons_succ];refine ⟨cm (by omega) (by omega),cm (by omega) (by omega),cm (by omega) (by omega),λp hp=>?_⟩;exact h _ ((E1.trans E2).trans (ZP hp))
end K17
namespace K17
open PySem L2 L3 Pu
def YN:PuS (Bk.YT):=(WX (RH (qiW (λt=>QQ t "int") (bV 0)) (qmN (qiW (λt=>QQ t "bool") (bV 0)))))
def qX:List PyData->Option PyData:=Pu.run YN.f 1 1 1000000000 false
def LL:Rd (PSp qX false) 1 (Bk.YT) YC:=zS YN YC 1 1000000000 false
def K4 {x0:PyData}:qX [x0]=ER false (YN.f 1000000000 [.sh x0]):=id rfl
def DE:PuS (Bk.EY (PSp qX false)):=(WX (RH (qiW (λt=>QQ t "tuple") (bV 0)) (RH (bO (qav false) (qV NP (qi (bV 0) qW)) (j4 2)) (RH (qV (ju qX false) (qi (bO VJ (bV 0) (j4 0)) qW)) (qV (ju qX false) (qi (bO VJ (bV 0) (j4 1)) qW))))))
def zK:List PyData->Option PyData:=Pu.run DE.f 1 1 1000000000 false
def qbc:Rd (PSp zK false) 1 (Bk.EY (PSp qX false)) JQ:=zS DE JQ 1 1000000000 false
def qbo {x0:PyData}:zK [x0]=ER false (DE.f 1000000000 [.sh x0]):=id rfl
def zH:PuS (K17.jq (PSp qX false)):=(WX (RH (qV (ju qX false) (qi (bV 0) qW)) (bCh (opB λi j=>decide (i<=j)) (opB λi j=>decide (i<j)) (j4 0) (bV 0) (bV 1))))
def qH:List PyData->Option PyData:=Pu.run zH.f 2 2 1000000000 false
def DI:Rd (PSp qH false) 2 (K17.jq (PSp qX false)) zL:=zS zH zL 2 1000000000 false
def D6 {x0 x1:PyData}:qH [x0,x1]=ER false (zH.f 1000000000 [.sh x0,.sh x1]):=id rfl
def jH:PuS (K17.YJ (PSp qH false)):=(EF (sIf (bOr (qiq (bTb (qV (ju qH false) (qi (bV 1) (qi (qV NP (qi (bV 0) qW)) qW))))) (qiq (bTb (qV (ju qH false) (qi (bV 2) (qi (qV NP (qi (bV 0) qW)) qW)))))) (WX (bBl false)) XZ) (WX (RH (bO (opB λi j=>decide (i<j)) (bV 1) (bV 2)) (bO (qav false) (bO VJ (bV 0) (bV 1)) (bO VJ (bV 0) (bV 2))))))
def jh:List PyData->Option PyData:=Pu.run jH.f 3 3 1000000000 false
def MO:Rd (PSp jh false) 3 (K17.YJ (PSp qH false)) j3:=zS jH j3 3 1000000000 false
def MD {x0 x1 x2:PyData}:jh [x0,x1,x2]=ER false (jH.f 1000000000 [.sh x0,.sh x1,.sh x2]):=id rfl
def ZH:PuS (Bk.DF (PSp zK false) (Bk.js 3)):=(EF (sIf (qiq (bTb (qV (ju zK false) (qi (bV 1) qW)))) (WX (bBl false)) XZ) (EF (N7 (qV (fSz 2) (qi (bV 0) qW)) (LW 3 (jk (gN 2) (jk (gN 3) (jk (gN 4) K3)))) [true] ⟨rfl⟩) (WX (RH (bCh (opB λi j=>decide (i<=j)) (opB λi j=>decide (i<j)) (j4 0) (bO VJ (bV 1) (j4 0)) (bV 2)) (bCh (opB λi j=>decide (i<=j)) (opB λi j=>decide (i<j)) (j4 0) (bO VJ (bV 1) (j4 1)) (bV 3))))))
def QT:List PyData->Option PyData:=Pu.run ZH.f 2 5 1000000000 false
def qbw:Rd (PSp QT false) 2 (Bk.DF (PSp zK false) (Bk.js 3)) VN:=zS ZH VN 2 1000000000 false
def qa1 {x0 x1:PyData}:QT [x0,x1]=ER false (ZH.f 1000000000 [.sh x0,.sh x1,.un,.un,.un]):=id rfl
def CI:PuS (Bk.X8 (Bk.js 3) (PSp Pv.zj true)):=(EF (N7 (qV (fSz 2) (qi (bV 0) qW)) (LW 3 (jk (gN 2) (jk (gN 3) (jk (gN 4) K3)))) [true] ⟨rfl⟩) (EF (qdD (qV (ju Pv.zj true) (qi (bV 1) qW)) 5 [false,true] ⟨rfl⟩) (EF (qdD (bLc (qbd (bV 5)) (LW 2 (jk (gN 0) (jk (gN 1) K3))) bTt (bV 0) [none,none] ⟨rfl⟩) 6 [false,false,false,false,false,true] ⟨rfl⟩) (EF (qdD (bLc (qbd (bV 5)) (LW 2 (jk (gN 0) (jk (gN 1) K3))) bTt (bV 1) [none,none] ⟨rfl⟩) 7 [false,false,false,false,false,true] ⟨rfl⟩) (WX (qn6 (LN (qi (qdA (qV qbX (qi (bV 6) qW))) (qi (bO (opI (·-·)) (bV 2) (qV qcM (qi (bV 6) qW))) qW))) (gN 0) bTt (LN (qi (qdA (qV qbX (qi (bV 3) qW))) (qi (bO (opI (·-·)) (bV 2) (qV qcM (qi (bV 3) qW))) qW))) (gN 1) bTt (UZ (qi (bV 0) (qi (bV 1) qW)) ⟨rfl⟩) [none,none,some 3,some 7] ⟨rfl⟩ ⟨rfl⟩ ⟨rfl⟩))))))
def Z8:List PyData->Option PyData:=Pu.run CI.f 2 8 1000000000 true
def qcD:Rd (PSp Z8 true) 2 (Bk.X8 (Bk.js 3) (PSp Pv.zj true)) CM:=zS CI CM 2 1000000000 true
def qdm {x0 x1:PyData}:Z8 [x0,x1]=ER true (CI.f 1000000000 [.sh x0,.sh x1,.un,.un,.un,.un,.un,.un]):=id rfl
def DQ:PuS (Bk.DA (PSp Pv.zj true)):=(WX (bLc (qbd (qV (ju Pv.zj true) (qi (bV 0) qW))) (LW 2 (jk (gN 0) (jk (gN 1) K3))) bTt (UZ (qi (bO KJ (bO VJ (bV 2) (j4 0)) (bV 0)) (qi (bO KJ (bO VJ (bV 2) (j4 1)) (bV 1)) qW)) ⟨rfl⟩) [none,none,some 1] ⟨rfl⟩))
def zI:List PyData->Option PyData:=Pu.run DQ.f 2 2 1000000000 true
def qbs:Rd (PSp zI true) 2 (Bk.DA (PSp Pv.zj true)) DK:=zS DQ DK 2 1000000000 true
def qbv {x0 x1:PyData}:zI [x0,x1]=ER true (DQ.f 1000000000 [.sh x0,.sh x1]):=id rfl
def UA:PuS (Bk.UP (PSp zI true) (PSp QT false) (PSp zK false)):=(WX (RH (qV (ju zK false) (qi (bV 2) qW)) (qV qqL (qi (bLc (qbd (qV (ju zI true) (qi (bV 1) (qi (bV 2) qW)))) (gN 0) bTt (qV (ju QT false) (qi (bV 1) (qi (bV 0) qW))) [none,some 0] ⟨rfl⟩) qW))))
def zn:List PyData->Option PyData:=Pu.run UA.f 3 3 1000000000 false
def qaf:Rd (PSp zn false) 3 (Bk.UP (PSp zI true) (PSp QT false) (PSp zK false)) UM:=zS UA UM 3 1000000000 false
def NT {x0 x1 x2:PyData}:zn [x0,x1,x2]=ER false (UA.f 1000000000 [.sh x0,.sh x1,.sh x2]):=id rfl
def UT:PuS (Bk.UG (PSp zn false) (PSp zI true)):=(EF (sIf (qiq (bTb (qV (ju zn false) (qi (bV 0) (qi (bV 1) (qi (bV 2) qW)))))) qrm XZ) (WX (qV (ju zI true) (qi (bV 1) (qi (bV 2) qW)))))
def jI:List PyData->Option PyData:=Pu.run UT.f 3 3 1000000000 true
def NG:Rd (PSp jI true) 3 (Bk.UG (PSp zn false) (PSp zI true)) UB:=zS UT UB 3 1000000000 true
def NE {x0 x1 x2:PyData}:jI [x0,x1,x2]=ER true (UT.f 1000000000 [.sh x0,.sh x1,.sh x2]):=id rfl
def Z6:PuS (Bk.ZZ (PSp jI true) (Bk.JT 3)):=(WX (bLc (qbd (qV (ju jI true) (qi (bV 0) (qi (bV 1) (qi (bV 2) qW))))) (gN 0) bTt (qV (fBi 2) (qi (bV 1) (qi (bV 0) qW))) [none,some 0] ⟨rfl⟩))
def qY:List PyData->Option PyData:=Pu.run Z6.f 3 3 1000000000 true
def TQ:Rd (PSp qY true) 3 (Bk.ZZ (PSp jI true) (Bk.JT 3)) QJ:=zS Z6 QJ 3 1000000000 true
def TY {x0 x1 x2:PyData}:qY [x0,x1,x2]=ER true (Z6.f 1000000000 [.sh x0,.sh x1,.sh x2]):=id rfl
def TD:PuS (Bk.KA (PSp Z8 true) (PSp qY true) (PSp Pv.zl false)):=(EF (qhR (qbd (qV (ju Z8 true) (qi (bV 0) (qi (bV 1) qW)))) (gN 2) (EF (qdD (qV (ju Pv.zl false) (qi (qV (ju qY true) (qi (bV 0) (qi (bV 1) (qi (bV 2) qW)))) qW)) 3 [true,true,true] ⟨rfl⟩) (sIf (bTb (bO (qil true) (bV 3) qiw)) (WX (UZ (qi (bV 2) (qi (bO VJ (bV 3) (j4 0)) (qi (bO VJ (bV 3) (j4 1)) qW))) ⟨rfl⟩)) XZ)) [true,true] ⟨rfl⟩) (WX qiw))
def V3:List PyData->Option PyData:=Pu.run TD.f 2 4 1000000000 false
def qey:Rd (PSp V3 false) 2 (Bk.KA (PSp Z8 true) (PSp qY true) (PSp Pv.zl false)) C6:=zS TD C6 2 1000000000 false
def qex {x0 x1:PyData}:V3 [x0,x1]=ER false (TD.f 1000000000 [.sh x0,.sh x1,.un,.un]):=id rfl
def jr:PuS (K17.Q2 (PSp qY true) (PSp jh false) (PSp zn false)):=(EF (sIf (bOr (qiq (bTb (qiW (λt=>QQ t "tuple") (bV 2)))) (bTb (bO (qav true) (qV NP (qi (bV 2) qW)) (j4 3)))) (WX (bBl false)) XZ) (EF (N7 (bV 2) (LW 3 (jk (gN 3) (jk (gN 4) (jk (gN 5) K3)))) [false,false,true] ⟨rfl⟩) (WX (RH (qV (ju zn false) (qi (bV 0) (qi (bV 1) (qi (bV 3) qW)))) (qV (ju jh false) (qi (qV (ju qY true) (qi (bV 0) (qi (bV 1) (qi (bV 3) qW)))) (qi (bV 4) (qi (bV 5) qW))))))))
def qQ:List PyData->Option PyData:=Pu.run jr.f 3 6 1000000000 false
def SG:Rd (PSp qQ false) 3 (K17.Q2 (PSp qY true) (PSp jh false) (PSp zn false)) jP:=zS jr jP 3 1000000000 false
def U5 {x0 x1 x2:PyData}:qQ [x0,x1,x2]=ER false (jr.f 1000000000 [.sh x0,.sh x1,.sh x2,.un,.un,.un]):=id rfl
def jm:PuS (Bk.J5):=(EF (sIf (bTb (bO (qav false) (bO VJ (bV 0) (j4 0)) (qiX "cells"))) (WX (qV qon (qi (bO VJ (bV 0) (j4 1)) qW))) XZ) (EF (sIf (bTb (bO (qav false) (bO VJ (bV 0) (j4 0)) (qiX "block"))) (EF (qdD (qdB qW ⟨rfl⟩) 1 [] ⟨rfl⟩) (EF (qhR (LN (qi (bO VJ (bV 0) (j4 1)) qW)) (gN 2) (qn4 (bLc (LN (qi (bO VJ (bV 0) (j4 2)) qW)) (gN 0) bTt (UZ (qi (bV 1) (qi (bV 0) qW)) ⟨rfl⟩) [none,some 2] ⟨rfl⟩) 1 [true,false,true] ⟨rfl⟩) [true] ⟨rfl⟩) (qdP 1))) XZ) (EF (N7 (qlJ ["row","column","slant","back","step"] (qi (UZ (qi (j4 0) (qi (j4 1) qW)) ⟨rfl⟩) (qi (UZ (qi (j4 1) (qi (j4 0) qW)) ⟨rfl⟩) (qi (UZ (qi (j4 1) (qi (j4 1) qW)) ⟨rfl⟩) (qi (UZ (qi (j4 1) (qi (qdA (j4 1)) qW)) ⟨rfl⟩) (qi (bSl (bV 0) (bSp (j4 1)) (bSp (j4 3))) qW))))) (bO VJ (bV 0) (j4 0))) (LW 2 (jk (gN 3) (jk (gN 4) K3))) [true] ⟨rfl⟩) (WX (bLc (LN (qi (bO VJ (bV 0) (qdA (j4 1))) qW)) (gN 0) bTt (UZ (qi (bO (opC Q7 (·*·)) (bV 0) (bV 1)) (qi (bO (opC Q7 (·*·)) (bV 0) (bV 2)) qW)) ⟨rfl⟩) [none,some 3,some 4] ⟨rfl⟩)))))
def zf:List PyData->Option PyData:=Pu.run jm.f 1 5 1000000000 true
def MF:Rd (PSp zf true) 1 (Bk.J5) YS:=zS jm YS 1 1000000000 true
def MU {x0:PyData}:zf [x0]=ER true (jm.f 1000000000 [.sh x0,.un,.un,.un,.un]):=id rfl
def Z3:PuS (Bk.Z5 (Bk.jZ 3) (PSp zf true)):=(EF (N7 (qV (qqF 2) (qi (bV 0) qW)) (LW 3 (jk (gN 2) (jk (gN 3) (jk (gN 4) K3)))) [true] ⟨rfl⟩) (EF (qdD (qV (ju zf true) (qi (bV 1) qW)) 5 [false,true] ⟨rfl⟩) (EF (qqe (qi (bLc (qbd (bV 5)) (LW 2 (jk (gN 0) (jk (gN 1) K3))) bTt (bV 0) [none,none] ⟨rfl⟩) (qi (bLc (qbd (bV 5)) (LW 2 (jk (gN 0) (jk (gN 1) K3))) bTt (bV 1) [none,none] ⟨rfl⟩) qW)) 6 7 [false,false,false,false,false,true] ⟨rfl⟩) (EF (qdD (qdB qW ⟨rfl⟩) 8 [] ⟨rfl⟩) (EF (qhR (LN (qi (qdA (qV qbX (qi (bV 6) qW))) (qi (bO (opI (·-·)) (bV 2) (qV qcM (qi (bV 6) qW))) qW))) (gN 9) (qn4 (bLc (LN (qi (qdA (qV qbX (qi (bV 7) qW))) (qi (bO (opI (·-·)) (bV 3) (qV qcM (qi (bV 7) qW))) qW))) (gN 0) bTt (UZ (qi (bV 1) (qi (bV 0) qW)) ⟨rfl⟩) [none,some 9] ⟨rfl⟩) 8 [false,false,false,true,false,false,false,true,false,true] ⟨rfl⟩) [false,false,true,false,false,false,true] ⟨rfl⟩) (qdP 8))))))
def zO:List PyData->Option PyData:=Pu.run Z3.f 2 10 1000000000 true
def KS:Rd (PSp zO true) 2 (Bk.Z5 (Bk.jZ 3) (PSp zf true)) Z7:=zS Z3 Z7 2 1000000000 true
def KU {x0 x1:PyData}:zO [x0,x1]=ER true (Z3.f 1000000000 [.sh x0,.sh x1,.un,.un,.un,.un,.un,.un,.un,.un]):=id rfl
def UH:PuS (Bk.UQ (PSp zf true) (Bk.ZF 3)):=(WX (bLc (qbd (qV (ju zf true) (qi (bV 1) qW))) (LW 2 (jk (gN 0) (jk (gN 1) K3))) bTt (qV (qqi 2) (qi (bV 2) (qi (bO KJ (bO VJ (bV 3) (j4 0)) (bV 0)) (qi (bO KJ (bO VJ (bV 3) (j4 1)) (bV 1)) qW)))) [none,none,some 0,some 2] ⟨rfl⟩))
def jK:List PyData->Option PyData:=Pu.run UH.f 3 3 1000000000 true
def NR:Rd (PSp jK true) 3 (Bk.UQ (PSp zf true) (Bk.ZF 3)) UU:=zS UH UU 3 1000000000 true
def M4 {x0 x1 x2:PyData}:jK [x0,x1,x2]=ER true (UH.f 1000000000 [.sh x0,.sh x1,.sh x2]):=id rfl
def YG:PuS (K17.J3):=(EF (qdD (qdB qW ⟨rfl⟩) 1 [] ⟨rfl⟩) (EF (qhR (LN (qi (qV NP (qi (bV 0) qW)) qW)) (gN 2) (qn4 (bLc (LN (qi (bV 2) qW)) (gN 0) (bTb (bO (qav false) (bO VJ (bV 2) (bV 0)) (bO VJ (bV 2) (bV 1)))) (UZ (qi (bV 0) (qi (bV 1) qW)) ⟨rfl⟩) [none,some 2,some 0] ⟨rfl⟩) 1 [true,false,true] ⟨rfl⟩) [true] ⟨rfl⟩) (qdP 1)))
def jn:List PyData->Option PyData:=Pu.run YG.f 1 3 1000000000 true
def MM:Rd (PSp jn true) 1 (K17.J3) J4:=zS YG J4 1 1000000000 true
def MG {x0:PyData}:jn [x0]=ER true (YG.f 1000000000 [.sh x0,.un,.un]):=id rfl
def YR:PwS 0 (K17.J8 (PSp jK true) Bk.qF (PSp jn true)):=(K1 (qdH (eOf (qV (ju jK true) (qi (bV 1) (qi (bV 2) (qi (bV 3) qW))))) 4 [false,true,true,true] ⟨rfl⟩ ⟨rfl⟩) (K1 (qpt (MR (eDr qc0 (aOf (qi (qV NP (qi (bV 4) qW)) qW))) (MR (eDr qc0 (aOf (qi (qV NP (qi (bV 4) qW)) qW))) (aOf qW))) 5 6 [false,false,false,false,true] ⟨rfl⟩ ⟨rfl⟩) (K1 (qdH (eOf (qdB (qi (UZ (qi (bV 5) (qi (bV 6) qW)) ⟨rfl⟩) (qi (UZ (qi (bV 6) (qi (bV 5) qW)) ⟨rfl⟩) (qi (UZ (qi (bV 5) (qi (bV 5) qW)) ⟨rfl⟩) (qi (UZ (qi (bV 5) (qi (qV NP (qi (bV 4) qW)) qW)) ⟨rfl⟩) (qi (UZ (qi (qdA (j4 1)) (qi (bV 6) qW)) ⟨rfl⟩) (qi (UZ (qi (bO (opI (·-·)) (bV 5) (qV NP (qi (bV 4) qW))) (qi (bV 6) qW)) ⟨rfl⟩) (qi (UZ (qi (j4 0) (qi (bO (opI (·-·)) (qV NP (qi (bV 4) qW)) (j4 1)) qW)) ⟨rfl⟩) qW))))))) ⟨rfl⟩)) 7 [false,false,false,false,true,true,true] ⟨rfl⟩ ⟨rfl⟩) (K1 (qdH (eOf (qV (ju jn true) (qi (bV 4) qW))) 8 [false,false,false,false,true] ⟨rfl⟩ ⟨rfl⟩) (K1 (wIf (cOf (bTb (bO (qav true) (bV 8) (qdB qW ⟨rfl⟩)))) (K1 (qlp (eO VJ (eOf (bV 8)) (eDr qc0 (aOf (qi (qV NP (qi (bV 8) qW)) qW)))) (LW 2 (jk (gN 5) (jk (gN 6) K3))) [false,false,false,false,false,false,false,false,true] ⟨rfl⟩ ⟨rfl⟩) (qdH (eOf (bO qck (bV 7) (qdB (qi (UZ (qi (bV 5) (qi (bV 6) qW)) ⟨rfl⟩) (qi (UZ (qi (bV 6) (qi (bV 5) qW)) ⟨rfl⟩) (qi (bO VJ (bV 8) (qdA (j4 1))) qW))) ⟨rfl⟩))) 7 [false,false,false,false,false,true,true,true,true] ⟨rfl⟩ ⟨rfl⟩)) qcI) (qnz (eOf (bLc (qbd (bV 7)) (gN 0) bTt (UZ (qi (bO KJ (UZ (qi (bV 2) qW) ⟨rfl⟩) (bV 0)) (qi (bO (qmu false) (bV 0) (bV 1)) qW)) ⟨rfl⟩) [none,some 8,some 3] ⟨rfl⟩))))))))
def jX:Wm:=qqJ YR 4 9 true
def MK:Rd (DSp jX.W true) 4 (K17.J8 (PSp jK true) Bk.qF (PSp jn true)) YI:=qiP YR YI 4 true
def K9 {x0 x1 x2:PyData} {n:Nat} {Q:QD}:jX.W [x0,x1,x2] n Q=(4=4/\YR.w [.un,.sh x0,.sh x1,.sh x2,.un,.un,.un,.un,.un] n (qoq true Q)):=id rfl
def qpm (S_law_dealing:Sp3) (S_law_walk:Sp3) (S_law_starts:Sp3) (S_law_pick:Sp3) (S_law_asked:Sp3) (S_shows_clash:Sp3) (S_clash:Sp3):TS3:=(qx (jU 3 4 (qb (cb3 S_law_dealing (qb (v3 2) qh)) (qb (cb3 S_law_walk (qb (v3 2) qh)) qh))) (qx (qG (cb3 S_law_starts (qb (v3 3) (qb (v3 4) qh))) (gn3 5)) (qx (qG (zM (qb (qP (qb (qP (qb (qP (qb (c3 (.int 0)) (qb (c3 (.int 99)) qh))) (qb (c3 (.int 0)) (qb (c3 (.int 1)) qh)))) (qb (c3 (.bl false)) qh))) (qb (qP (qb (qP (qb (qP (qb (u3 QV (c3 (.int 30))) (qb (c3 (.int 0)) qh))) (qb (c3 (.int 0)) (qb (c3 (.int 1)) qh)))) (qb (c3 (.bl false)) qh))) qh))) (gn3 6)) (qx (XY (zE (qb (o3 (iC Q7 (·*·)) (c3 (.int 8)) (cb3 ZW (qb (o3 (zh true) (v3 5) (zM qh)) qh))) qh)) (gn3 7) (qG (o3 q0 (v3 6) (cb3 S_law_asked (qb (v3 2) (qb (v3 3) (qb (v3 4) (qb (o3 ix3 (v3 5) (cb3 S_law_pick (qb (v3 2) (qb (cb3 jE (qb (v3 5) qh)) qh)))) qh)))))) (gn3 6))) (qx (XY (YQ (v3 6)) (qN 2 (qj (gn3 8) (qj (gn3 9) qO))) (qx (qG (cb3 S_shows_clash (qb (v3 3) (qb (v3 4) (qb (v3 8) qh)))) (gn3 10)) (za (or3 (JB (tb3 (JH (λt=>QQ t "bool") (v3 10)))) (tb3 (o3 (zh true) (v3 10) (v3 9)))) (qD (c3 (.bl false))) qw))) (qx (qG (cb3 S_clash (qb (v3 3) (qb (v3 4) qh))) (gn3 11)) (qx (za (VB (tb3 (o3 (YD true) (v3 11) (c3 .non))) (tb3 (o3 (qi4 true) (cb3 S_shows_clash (qb (v3 3) (qb (v3 4) (qb (v3 11) qh)))) (c3 (.bl true))))) (qD (c3 (.bl false))) qw) (za (tb3 (o3 (qi4 true) (cb3 S_shows_clash (qb (v3 3) (qb (v3 4) (qb (c3 .non) qh)))) (c3 (.bl false)))) (qD (c3 (.bl false))) qw))))))))
def TR:=((qdH (eO KJ (eOf (bV 6)) (eDr (dSp jX true) (MR (eOf (bV 3)) (MR (eOf (bV 4)) (MR (eO VJ (eOf (bV 5)) (eDr qc0 (aOf (qi (qV NP (qi (bV 5) qW)) qW)))) (aOf qW)))))) 6 [false,false,false,true,true,true,true] ⟨rfl⟩ ⟨rfl⟩):PwS 2 _)
def T0:=((K1 (qdH (eOf (qV (ju qQ false) (qi (bV 3) (qi (bV 4) (qi (bV 8) qW))))) 10 [false,false,false,true,true,false,false,false,true] ⟨rfl⟩ ⟨rfl⟩) (wIf (cOf (bOr (qiq (bTb (qiW (λt=>QQ t "bool") (bV 10)))) (bTb (bO (qav true) (bV 10) (bV 9))))) (qnz (eOf (bBl false))) qcI)):PwS 2 _)
def qeu:PwS 2 (qpm Bk.QB Bk.Y7 (PSp zO true) Bk.qF (DSp jX.W true) (PSp qQ false) (PSp V3 false)):=(K1 (qpt (MR (eDr qaD (aOf qW)) (MR (eDr qkh (aOf qW)) (aOf qW))) 3 4 [] ⟨rfl⟩ ⟨rfl⟩) (K1 (qdH (eOf (qV (ju zO true) (qi (bV 3) (qi (bV 4) qW)))) 5 [false,false,false,true,true] ⟨rfl⟩ ⟨rfl⟩) (K1 (qdH (eOf (qdB (qi (UZ (qi (UZ (qi (UZ (qi (j4 0) (qi (j4 99) qW)) ⟨rfl⟩) (qi (j4 0) (qi (j4 1) qW))) ⟨rfl⟩) (qi (bBl false) qW)) ⟨rfl⟩) (qi (UZ (qi (UZ (qi (UZ (qi (qdA (j4 30)) (qi (j4 0) qW)) ⟨rfl⟩) (qi (j4 0) (qi (j4 1) qW))) ⟨rfl⟩) (qi (bBl false) qW)) ⟨rfl⟩) qW)) ⟨rfl⟩)) 6 [] ⟨rfl⟩ ⟨rfl⟩) (K1 (qpg (iOf (LN (qi (bO (opC Q7 (·*·)) (j4 8) (qV qqs (qi (bO (qav true) (bV 5) (qdB qW ⟨rfl⟩)) qW))) qW))) (gN 7) TR [false,false,false,false,false,true] ⟨rfl⟩ ⟨rfl⟩) (K1 (qpg (iOf (qbd (bV 6))) (LW 2 (jk (gN 8) (jk (gN 9) K3))) T0 [false,false,false,false,false,false,true] ⟨rfl⟩ ⟨rfl⟩) (K1 (qdH (eOf (qV (ju V3 false) (qi (bV 3) (qi (bV 4) qW)))) 11 [false,false,false,true,true] ⟨rfl⟩ ⟨rfl⟩) (K1 (wIf (cOf (qqo (bTb (bO (qil true) (bV 11) qiw)) (bTb (bO (qiQ true) (qV (ju qQ false) (qi (bV 3) (qi (bV 4) (qi (bV 11) qW)))) (bBl true))))) (qnz (eOf (bBl false))) qcI) (wIf (cOf (bTb (bO (qiQ true) (qV (ju qQ false) (qi (bV 3) (qi (bV 4) (qi qiw qW)))) (bBl false)))) (qnz (eOf (bBl false))) qcI))))))))
def qk4 (h:∀ k:Nat,k<=60->qeu.w [.un,.sh (.int k),.un,.un,.un,.un,.un,.un,.un,.un,.un,.un] 0 okW):Rd S7 1 (K17.qhM Bk.YZ Bk.QB Bk.Y7 (PSp zO true) Bk.qF (DSp jX.W true) (PSp qQ false) (PSp V3 false)) qbV:=qev qeu qbV 6 9 ⟨by decide,by decide⟩ rfl h
end K17
namespace K17
open PySem L2 L3 Pu Pv
open Bk (Wk Dl Dr jy jp)
def s1:QQ "int" "int" = true:=rfl
def s2:QQ "int" "bool" = false:=rfl
def s3:QQ "tuple" "tuple" = true:=rfl
def t2:((1+1:Nat):Int)=2:=rfl
def qhN {i:Int}:qX [.int i]=some (.bool true):=by
 rw [K4]
 try simp only [Pu.pwA,YN,s1,s2]
def qje {p:Int×Int}:zK [pD p]=some (.bool true):=by
 rw [qbo]
 try simp only [Pu.pwA,DE,pD,s3,t2,qhN]
def inT (d:Dl) (p:Int×Int):Prop:=Bk.Inn d p.1 p.2
def inW (d:Dl) (p:Int×Int):Bool:=(decide (0<=p.1)&&decide (p.1<d.R))&&(decide (0<=p.2)&&decide (p.2<d.C))
def qle {d:Dl} {p:Int×Int} (h:inW d p=true):inT d p:=by
 simp only [inW,Bool.and_eq_true,decide_eq_true_eq] at h;exact ⟨h.1.1,h.1.2,h.2.1,h.2.2⟩
def qk8 {d:Dl} {p:Int×Int} (h:inT d p):inW d p=true:=by
 obtain ⟨h1,h2,h3,h4⟩:=h;simp only [inW,Bool.and_eq_true,decide_eq_true_eq];exact ⟨⟨h1,h2⟩,h3,h4⟩
def qoG {d:Dl} {p:Int×Int} (hp:d.dep<=2) (ok:d.Ok):QT [dlD d,pD p]=some (.bool (inW d p)):=by
 have sz:=qg7 (n:=2) hp ok;have e:=qje (p:=p);rw [qa1];simp only [pD] at e;unfold inW;by_cases h1:0<=p.1
 ·by_cases h2:p.1<d.R
  ·by_cases h3:0<=p.2
   ·try simp only [Pu.pwA,ZH,pD,e,qcx,sz,siz,h1,h2,h3,decide_true,Bool.true_and]
   ·try simp only [Pu.pwA,ZH,pD,e,qcx,sz,siz,h1,h2,h3,decide_true,decide_false,Bool.true_and,Bool.false_and]
  ·try simp only [Pu.pwA,ZH,pD,e,qcx,sz,siz,h1,h2,decide_true,decide_false,Bool.true_and,Bool.false_and]
 ·try simp only [Pu.pwA,ZH,pD,e,qcx,sz,siz,h1,decide_false,Bool.false_and]
def bk (d:Dl) (p:Int×Int):Int:=d.bank p.1 p.2
def sh (s:Int×Int) (cs:List (Int×Int)):List (Int×Int):=cs.map λp=>(s.1+p.1,s.2+p.2)
def qqz {w:Wk} {s:Int×Int} (ok:Big w):zI [Wk.d w,pD s]=some (.list ((sh s w.pc).map pD)):=by
 have hl:=RF ok;rw [qbv]
 try simp only [Pu.pwA,DQ,WU ok]
 rw [ZQ (ds:=w.pc.map pD) (fs:=(sh s w.pc).map pD)]
 ·try simp only [Pu.pwA]
 ·try simp only [Pu.pwA,WU ok]
 ·rw [sh,map_map];refine jv λp hp=>?_
  try simp only [Pu.pwA,VF,pD,Function.comp_def]
 ·simp [sh];omega
def isS (d:Dl) (w:Wk) (s:Int×Int):Bool:=(sh s w.pc).all (inW d)
def qmx {d:Dl} {w:Wk} {s:Int×Int} (hp:d.dep<=2) (okd:d.Ok) (ok:Big w):zn [dlD d,Wk.d w,pD s]=some (.bool (isS d w s)):=by
 have hl:=RF ok;rw [NT]
 try simp only [Pu.pwA,UA,qje]
 rw [ZQ (ds:=(sh s w.pc).map pD) (fs:=((sh s w.pc).map (inW d)).map PyData.bool)]
 ·try simp only [Pu.pwA,qbJ]
  rw [List.all_map];rfl
 ·try simp only [Pu.pwA,qqz ok]
 ·rw [map_map];refine jv λq hq=>?_
  try simp only [Pu.pwA,VF,qoG hp okd,Function.comp_def]
 ·simp [sh];omega
def qgr {d:Dl} {w:Wk} {s:Int×Int} (h:isS d w s=true):∀ q∈sh s w.pc,inT d q:=λq hq=>qle (List.all_eq_true.mp h q hq)
def qcP {d:Dl} {w:Wk} {s:Int×Int} (h:∀ q∈sh s w.pc,inT d q):isS d w s=true:=List.all_eq_true.mpr λq hq=>qk8 (h q hq)
def qq9 {d:Dl} {w:Wk} {s:Int×Int} (hp:d.dep<=2) (okd:d.Ok) (ok:Big w) (h:∀ q∈sh s w.pc,inT d q):jI [dlD d,Wk.d w,pD s]=some (.list ((sh s w.pc).map pD)):=by
 rw [NE]
 try simp only [Pu.pwA,UT,qmx hp okd ok,qcP h,qqz ok]
def bks (d:Dl) (s:Int×Int) (cs:List (Int×Int)):List Int:=(sh s cs).map (bk d)
def qql {d:Dl} {w:Wk} {s:Int×Int} (hp:d.dep<=2) (okd:d.Ok) (ok:Big w) (h:∀ q∈sh s w.pc,inT d q):qY [dlD d,Wk.d w,pD s]=some (.list ((bks d s w.pc).map PyData.int)):=by
 have hl:=RF ok;rw [TY]
 try simp only [Pu.pwA,Z6]
 rw [ZQ (ds:=(sh s w.pc).map pD) (fs:=(bks d s w.pc).map PyData.int)]
 ·try simp only [Pu.pwA]
 ·try simp only [Pu.pwA,qq9 hp okd ok h]
 ·rw [bks,map_map];refine jv λq hq=>?_
  try simp only [Pu.pwA,VF,qor,pD,qpB (n:=2) hp okd (h q hq),bk,Function.comp_def]
 ·simp [bks,sh];omega
end K17
namespace K17
open PySem L2 L3 Pu Pv
open Bk (Wk Dl Dr jy jp JR lnD lnA faO Fst Un2 j8 QA U1)
def NS {i:Nat} {es ds:List PyData} {ρ:Rho} (h:slot ρ i=some ds) (hl:ds.length+es.length<=16777216):ql2 i (.list es) ρ=some (.nx (ρ.set i (.ow (ds++es)))):=by unfold ql2;rw [h];simp only [Option.bind_some];exact jt hl
def qiV {s:Str} {m:Int}:slD (.tuple [.str s,.int m]) (some 1) (some 3)=some (.tuple [.int m]):=NO (by simp [HT.sIx])
def qiL {s:Str} {u v m:Int}:slD (.tuple [.str s,.int u,.int v,.int m]) (some 1) (some 3)=some (.tuple [.int u,.int v]):=NO (by simp [HT.sIx])
def qph {x y:PyData}:L2.atI [x,y] (-1)=some y:=rfl
def qp8 {x y z w:PyData}:L2.atI [x,y,z,w] (-1)=some w:=rfl
def qqK {w:Wk} (ok:Big w):zf [Wk.d w]=some (.list (w.pc.map pD)):=by
 rw [MU];cases w with
 |cells ps=>
  try simp only [Pu.pwA,jm,Wk.d,eq_self,Wk.pc]
 |block h v=>
  obtain ⟨h1,h2⟩:=ok
  try simp (disch:=omega) only [Pu.pwA,jm,Wk.d,eq_self,L3.U6,Wk.pc,qbB,Int.toNat_natCast]
  rw [Option.bind_assoc];refine KN (Q:=λo=>ER true o=_) (jY 0 h) (λi ρ=>∃ s2 s3 s4,ρ=[.sh (Wk.d (.block h v)),.ow ((jp i v).map pD),s2,s3,s4]) ⟨_,_,_,rfl⟩ ?_ ?_
  ·rintro i x ρ hx ⟨s2,s3,s4,rfl⟩;obtain ⟨hi,rfl⟩:=YX hx
   try simp only [Pu.pwA,Wk.d]
   rw [ZQ (ds:=(jY 0 v).map PyData.int) (fs:=((List.range v).map λ(q:Nat)=>((i:Int),(q:Int))).map pD)]
   rotate_left
   ·try simp (disch:=omega) only [Pu.pwA,qbB,Int.toNat_natCast]
   ·unfold jY;rw [map_map,map_map];refine jv λq hq=>?_
    try simp only [Pu.pwA,VF,pD,Int.zero_add,Function.comp_def]
   ·simp;omega
   try simp only [Pu.pwA]
   rw [NS (ds:=(jp i v).map pD) rfl (by
    have:=Nat.mul_le_mul (show i<=1000 by omega) h2;rw [length_map,Bk.DC,length_map,length_map,length_range];omega)]
   try simp only [Pu.pwA]
   rw [Bk.SR,List.map_append];exact ⟨_,_,_,rfl⟩
  ·rintro ρ ⟨s2,s3,s4,rfl⟩;rw [UJ]
   try simp only [Pu.pwA]
 |step d a m=>
  obtain ⟨h1,h2,h3⟩:=ok;have e5:qdY ["row","column","slant","back","step"] [.tuple [.int 0,.int 1],.tuple [.int 1,.int 0],.tuple [.int 1,.int 1],.tuple [.int 1,.int (-1)],.tuple [.int d,.int a]] "step" = some (.tuple [.int d,.int a]):=rfl
  try simp only [Pu.pwA,jm,Wk.d,L3.WD,L3.DY,Wk.pc,qiL,e5]
  rw [ZQ (ds:=(jY 0 m).map PyData.int) (fs:=(jy d a m).map pD)]
  ·try simp only [Pu.pwA]
  ·try simp (disch:=omega) only [Pu.pwA,qp8,qbB,Int.toNat_natCast]
  ·unfold jy jY;rw [map_map,map_map];refine jv λt ht=>?_;have:=mem_range.mp ht
   try simp (disch:=omega) only [Pu.pwA,VF,pD,KQ,Int.zero_add,Function.comp_def]
  ·simp [jy];omega
 |line k m=>
  obtain ⟨h1,h2⟩:=ok;have key:∀ (d a:Int),(-1000<=d/\d<=1000)->(-1000<=a/\a<=1000)->∀ s:Str,Str.ofString "cells" ≠ s->Str.ofString "block" ≠ s->qdY ["row","column","slant","back","step"] [.tuple [.int 0,.int 1],.tuple [.int 1,.int 0],.tuple [.int 1,.int 1],.tuple [.int 1,.int (-1)],.tuple [.int (m:Int)]] s=some (.tuple [.int d,.int a])->ER true (jm.f 1000000000 [.sh (.tuple [.str s,.int (m:Int)]),.un,.un,.un,.un])=some (.list ((jy d a m).map pD)):=by
   intro d a hd ha s n1 n2 e5;have n1':¬ s=Str.ofString "cells" := λz=>n1 z.symm;have n2':¬ s=Str.ofString "block" := λz=>n2 z.symm
   try simp only [Pu.pwA,jm,n1',n2',qiV,e5]
   rw [ZQ (ds:=(jY 0 m).map PyData.int) (fs:=(jy d a m).map pD)]
   ·try simp only [Pu.pwA]
   ·try simp (disch:=omega) only [Pu.pwA,qph,qbB,Int.toNat_natCast]
   ·unfold jy jY;rw [map_map,map_map];refine jv λt ht=>?_;have:=mem_range.mp ht
    try simp (disch:=omega) only [Pu.pwA,VF,pD,KQ,Int.zero_add,Function.comp_def]
   ·simp [jy];omega
  have:(k=0\/k=1\/k=2\/k=3):=by omega
  rcases this with rfl|rfl|rfl|rfl
  ·exact key 0 1 (by omega) (by omega) "row" (by decide) (by decide) rfl
  ·exact key 1 0 (by omega) (by omega) "column" (by decide) (by decide) rfl
  ·exact key 1 1 (by omega) (by omega) "slant" (by decide) (by decide) rfl
  ·exact key 1 (-1) (by omega) (by omega) "back" (by decide) (by decide) rfl
def qlq {i j:Nat} {m:List Bool} {x y:List PyData} {ρ:Rho}:qeh i j m [.list x,.list y] ρ=some (.nx (((dm m ρ).set i (.sh (.list x))).set j (.sh (.list y)))):=id rfl
def qp6 {d:Dl} {w:Wk} (hp:d.dep<=2) (okd:d.Ok) (ok:Big w) (hc:Cb w.pc):zO [dlD d,Wk.d w]=some (.list ((stI d.R d.C w.pc).map pD)):=by
 have hl:=RF ok;have l:=Dl.lims okd;have:=l.r1;have:=l.r2;have:=l.c1;have:=l.c2;obtain ⟨⟨h1,h2,h3⟩,⟨h4,h5,h6⟩⟩:=hc.lim;rw [KU]
 try simp only [Pu.pwA,Z3,qj1,qg7 (n:=2) hp okd,siz,qqK ok]
 rw [ZQ (ds:=w.pc.map pD) (fs:=(dn w.pc).map PyData.int) rfl (by
  rw [dn,map_map];refine jv λp hp=>?_
  try simp only [Pu.pwA,VF,pD,Function.comp_def]) (by simp [dn];omega)]
 try simp only [Pu.pwA]
 rw [ZQ (ds:=w.pc.map pD) (fs:=(al w.pc).map PyData.int) rfl (by
  rw [al,map_map];refine jv λp hp=>?_
  try simp only [Pu.pwA,VF,pD,Function.comp_def]) (by simp [al];omega)]
 try simp only [Pu.pwA]
 have n1:dn w.pc≠[]:=by simp [dn,hc.ne]
 have n2:al w.pc≠[]:=by simp [al,hc.ne]
 try simp (disch:=omega) only [Pu.pwA,qlq,qec n1,qd6 n1,qiE]
 have row:∀ i:Int,(jY (-(mn (al w.pc))) (d.C-mx (al w.pc) - -(mn (al w.pc))).toNat).length<=4096:=λi=>by rw [UJ];omega
 have rows:(jY (-(mn (dn w.pc))) (d.R-mx (dn w.pc) - -(mn (dn w.pc))).toNat).length<=4096:=by rw [UJ];omega
 have fl:∀ i,(((jY (-(mn (dn w.pc))) (d.R-mx (dn w.pc) - -(mn (dn w.pc))).toNat).take i).flatMap λi=>(jY (-(mn (al w.pc))) (d.C-mx (al w.pc) - -(mn (al w.pc))).toNat).map λj=>(i,j)).length<=i*4096:=λi=>by
  rw [qaU];exact Nat.mul_le_mul (by rw [List.length_take];omega) (row 0)
 refine KN (Q:=λo=>ER true o=_) (jY (-(mn (dn w.pc))) (d.R-mx (dn w.pc) - -(mn (dn w.pc))).toNat) (λi ρ=>∃ s9,ρ=[.sh (dlD d),.sh (Wk.d w),.sh (.int d.R),.sh (.int d.C),.sh (.int d.B),.sh (.list (w.pc.map pD)),.sh (.list ((dn w.pc).map PyData.int)),.sh (.list ((al w.pc).map PyData.int)),.ow ((((jY (-(mn (dn w.pc))) (d.R-mx (dn w.pc) - -(mn (dn w.pc))).toNat).take i).flatMap λi=>(jY (-(mn (al w.pc))) (d.C-mx (al w.pc) - -(mn (al w.pc))).toNat).map λj=>(i,j)).map pD),s9]) ⟨_,rfl⟩ ?_ ?_
 ·rintro i x ρ hx ⟨s9,rfl⟩;have hi:=(List.getElem?_eq_some_iff.mp hx).1
  try simp only [Pu.pwA]
  rw [ZQ (ds:=(jY (-(mn (al w.pc))) (d.C-mx (al w.pc) - -(mn (al w.pc))).toNat).map PyData.int) (fs:=((jY (-(mn (al w.pc))) (d.C-mx (al w.pc) - -(mn (al w.pc))).toNat).map λj=>(x,j)).map pD)]
  rotate_left
  ·try simp (disch:=omega) only [Pu.pwA,qec n2,qd6 n2,qiE]
  ·rw [map_map];refine jv λq hq=>?_
   try simp only [Pu.pwA,VF,pD,Function.comp_def]
  ·rw [length_map,length_map];have:=row 0;omega
  try simp only [Pu.pwA]
  rw [NS rfl (by
   rw [length_map,length_map,length_map];have a:=fl i;have b:=row 0;have:=Nat.mul_le_mul (show i<=4095 by omega) (Nat.le_refl 4096);omega)]
  try simp only [Pu.pwA]
  rw [List.take_add_one,hx,Option.toList_some,List.flatMap_append,List.map_append];exact ⟨.sh (.int x),by simp⟩
 ·rintro ρ ⟨s9,rfl⟩;rw [List.take_length]
  try simp only [Pu.pwA]
  rfl
def qpA {R C:Int} {cs:List (Int×Int)} {s:Int×Int} (h:s∈stI R C cs) {p:Int×Int} (hp:p∈cs):(0<=s.1+p.1/\s.1+p.1<R)/\(0<=s.2+p.2/\s.2+p.2<C):=by
 obtain ⟨i,hi,h⟩:=List.mem_flatMap.mp h;obtain ⟨j,hj,rfl⟩:=mem_map.mp h;have a:=WF hi;have b:=WF hj;have m1:=qbr (show p.1∈dn cs from mem_map.mpr ⟨p,hp,rfl⟩);have m2:=qeo (show p.1∈dn cs from mem_map.mpr ⟨p,hp,rfl⟩);have m3:=qbr (show p.2∈al cs from mem_map.mpr ⟨p,hp,rfl⟩);have m4:=qeo (show p.2∈al cs from mem_map.mpr ⟨p,hp,rfl⟩);simp only;omega
def qkd {d:Dl} {cs:List (Int×Int)} {s:Int×Int} (h:s∈stI d.R d.C cs):∀ q∈sh s cs,inT d q:=λq hq=>by
 obtain ⟨p,hp,rfl⟩:=mem_map.mp hq;obtain ⟨⟨h1,h2⟩,h3,h4⟩:=qpA h hp;exact ⟨h1,h2,h3,h4⟩
def TM {t:Nat} {u:Int} (h:t<=16) (hu:-16<=u/\u<=16):-256<=(t:Int)*u/\(t:Int)*u<=256:=by
 have a:(t:Int)*u<=(t:Int)*16:=Int.mul_le_mul_of_nonneg_left hu.2 (Int.natCast_nonneg _);have b:(t:Int)*(-16)<=(t:Int)*u:=Int.mul_le_mul_of_nonneg_left hu.1 (Int.natCast_nonneg _);omega
def qpu {w:Wk} (ok:w.Ok):Cb w.pc:=by
 have h:=Bk.qcX ok;refine ⟨λe=>by rw [e] at h;simp at h,λp hp=>?_⟩;cases w with
 |cells ps=>have:=ok.2.2.2 p hp;omega
 |block h v=>
  obtain ⟨i,hi,hq⟩:=List.mem_flatMap.mp hp;obtain ⟨j,hj,rfl⟩:=mem_map.mp hq;have:=mem_range.mp hi;have:=mem_range.mp hj;obtain ⟨_,_,h3,h4,_⟩:=ok;simp only;omega
 |step u v m=>
  obtain ⟨t,ht,rfl⟩:=mem_map.mp hp;have:=mem_range.mp ht;obtain ⟨h1,h2,h3,h4⟩:=ok;have b1:=TM (t:=t) (u:=u) (by omega) h1;have b2:=TM (t:=t) (u:=v) (by omega) h2;simp only;omega
 |line k m=>
  obtain ⟨t,ht,rfl⟩:=mem_map.mp hp;have:=mem_range.mp ht;obtain ⟨h1,h2,h3⟩:=ok;have b0:(-16<=Bk.lnD k/\Bk.lnD k<=16)/\(-16<=Bk.lnA k/\Bk.lnA k<=16):=by
   match k,h1 with
   |0,_=>decide
   |1,_=>decide
   |2,_=>decide
   |3,_=>decide
  have b1:=TM (t:=t) (u:=Bk.lnD k) (by omega) b0.1;have b2:=TM (t:=t) (u:=Bk.lnA k) (by omega) b0.2;simp only;omega
def TK {n:Bool} {ps:List (Int×Int)}:eqD n (.list (ps.map pD)) (.list [])=some (.bool (if n then !decide (ps=[]) else decide (ps=[]))):=by
 have dp:∀ ps:List (Int×Int),qdF (ps.map pD)<=1:=λps=>by
  induction ps with
  |nil=>simp [qdF]
  |cons p ps ih=>simp only [map_cons,qdF,pD,dpt];omega
 have h:qd4 (.list (ps.map pD)) (.list [])=none:=rfl;unfold eqD;rw [h];simp only;rw [jt (by have:=dp ps;simp only [dpt];omega)];cases ps<;>simp [JC,U0]
def qqQ {d:Dl} {w:Wk} (hd:d.dep<=2) (okd:d.Ok) (ok:Big w) (hc:Cb w.pc):Z8 [dlD d,Wk.d w]=some (.list ((stI d.R d.C w.pc).map pD)):=by
 have hl:=RF ok;have l:=Dl.lims okd;have:=l.r1;have:=l.r2;have:=l.c1;have:=l.c2;obtain ⟨⟨h1,h2,h3⟩,⟨h4,h5,h6⟩⟩:=hc.lim;rw [qdm]
 try simp only [Pu.pwA,CI,qcx,qg7 (n:=2) hd okd,siz,WU ok]
 rw [ZQ (ds:=w.pc.map pD) (fs:=(dn w.pc).map PyData.int) rfl (by
  rw [dn,map_map];refine jv λp hp=>?_
  try simp only [Pu.pwA,VF,pD,Function.comp_def]) (by simp [dn];omega)]
 try simp only [Pu.pwA]
 rw [ZQ (ds:=w.pc.map pD) (fs:=(al w.pc).map PyData.int) rfl (by
  rw [al,map_map];refine jv λp hp=>?_
  try simp only [Pu.pwA,VF,pD,Function.comp_def]) (by simp [al];omega)]
 try simp only [Pu.pwA]
 have n1:dn w.pc≠[]:=by simp [dn,hc.ne]
 have n2:al w.pc≠[]:=by simp [al,hc.ne]
 rw [qcc (ds:=(jY (-(mn (dn w.pc))) (d.R-mx (dn w.pc) - -(mn (dn w.pc))).toNat).map PyData.int) (fs:=(stI d.R d.C w.pc).map pD)]
 ·try simp only [Pu.pwA]
 ·try simp (disch:=omega) only [Pu.pwA,qec n1,qd6 n1,qiE]
 ·have:(stI d.R d.C w.pc).map pD=(jY (-(mn (dn w.pc))) (d.R-mx (dn w.pc) - -(mn (dn w.pc))).toNat).flatMap λi=>(jY (-(mn (al w.pc))) (d.C-mx (al w.pc) - -(mn (al w.pc))).toNat).map λj=>pD (i,j):=by
   simp only [Pv.stI,List.map_flatMap,map_map,Function.comp_def]
  rw [this];refine qak λi hi=>?_
  try simp (disch:=omega) only [Pu.pwA,qfR,qec n2,qd6 n2,qiE]
  rw [jv (k:=λq=>pD (i,q)) λq hq=>?_]
  ·try simp only [Pu.pwA]
  ·try simp only [Pu.pwA,VF,pD]
 ·rw [length_map];exact qds hc l.r2 l.c2
def qrj {d:Dl} {w:Wk} {s:Int×Int} (hp:d.dep<=2) (okd:d.Ok) (ok:Big w) (h:∀ q∈sh s w.pc,inT d q):jK [dlD d,Wk.d w,pD s]=some (.list ((bks d s w.pc).map PyData.int)):=by
 have hl:=RF ok;rw [M4]
 try simp only [Pu.pwA,UH]
 rw [ZQ (ds:=w.pc.map pD) (fs:=(bks d s w.pc).map PyData.int)]
 ·try simp only [Pu.pwA]
 ·try simp only [Pu.pwA,qqK ok]
 ·rw [bks,sh,map_map,map_map];refine jv λp hp'=>?_;have:=qpY (n:=2) (i:=s.1+p.1) (j:=s.2+p.2) hp okd (h (s.1+p.1,s.2+p.2) (mem_map.mpr ⟨p,hp',rfl⟩))
  try simp only [Pu.pwA,VF,pD,qlT,this,bk,Function.comp_def]
 ·simp [bks,sh];omega
def qof {i e:Int}:qH [.int i,.int e]=some (.bool (decide (0<=i)&&decide (i<e))):=by
 rw [D6];by_cases z:0<=i
 ·try simp only [Pu.pwA,zH,qhN,z,decide_true,Bool.true_and]
 ·try simp only [Pu.pwA,zH,qhN,z,decide_false,Bool.false_and]
def alk (ns:List Int) (k l:Int):Bool:=decide (((0<=k/\k<l)/\l<(ns.length:Int))/\ns.getD k.toNat 0=ns.getD l.toNat 0)
def qd5 {ns:List Int} {k:Int} (h0:0<=k) (h1:k<(ns.length:Int)):L2.atI (ns.map PyData.int) k=some (.int (ns.getD k.toNat 0)):=by
 obtain ⟨i,rfl⟩:=Int.eq_ofNat_of_zero_le h0;have hi:i<ns.length:=by omega
 rw [atN (by simpa using hi),getElem?_map,getElem?_eq_getElem hi,Int.toNat_natCast,getD_eq_getElem?_getD,getElem?_eq_getElem hi];rfl
def qrp {ns:List Int} {k l:Int}:jh [.list (ns.map PyData.int),.int k,.int l]=some (.bool (alk ns k l)):=by
 rw [MD];by_cases c1:0<=k/\k<(ns.length:Int)
 ·by_cases c2:0<=l/\l<(ns.length:Int)
  ·have e1:=qd5 c1.1 c1.2;have e2:=qd5 c2.1 c2.2;by_cases c:k<l
   ·have e3:alk ns k l=decide (ns.getD k.toNat 0=ns.getD l.toNat 0):=by
     unfold alk;congr 1;rw [eq_iff_iff];exact ⟨λh=>h.2,λh=>⟨by omega,h⟩⟩
    rw [e3]
    try simp only [Pu.pwA,jH,qof,length_map,c1,c2,c,e1,e2,decide_true,Bool.true_and,Bool.and_self]
   ·have e3:alk ns k l=false:=by unfold alk;rw [decide_eq_false_iff_not];omega
    rw [e3]
    try simp only [Pu.pwA,jH,qof,length_map,c1,c2,c,decide_true,decide_false,Bool.and_self]
  ·have e3:alk ns k l=false:=by unfold alk;rw [decide_eq_false_iff_not];omega
   have e4:(decide (0<=l)&&decide (l<(ns.length:Int)))=false:=by
    rw [← Bool.not_eq_true,Bool.and_eq_true,decide_eq_true_eq,decide_eq_true_eq];exact c2
   rw [e3]
   try simp only [Pu.pwA,jH,qof,length_map,c1,e4,decide_true,Bool.and_self]
 ·have e3:alk ns k l=false:=by unfold alk;rw [decide_eq_false_iff_not];omega
  have e4:(decide (0<=k)&&decide (k<(ns.length:Int)))=false:=by
   rw [← Bool.not_eq_true,Bool.and_eq_true,decide_eq_true_eq,decide_eq_true_eq];exact c1
  rw [e3]
  try simp only [Pu.pwA,jH,qof,length_map,e4]
def t3:((1+1+1:Nat):Int)=3:=rfl
def qqB {d:Dl} {w:Wk} {s:Int×Int} {k l:Int} (hp:d.dep<=2) (okd:d.Ok) (ok:Big w):qQ [dlD d,Wk.d w,.tuple [pD s,.int k,.int l]]=some (.bool (isS d w s&&alk (bks d s w.pc) k l)):=by
 have ss:=qmx (s:=s) hp okd ok;rw [U5];cases e:isS d w s with
 |false=>
  rw [e] at ss
  try simp only [Pu.pwA,jr,s3,t3,ss,Bool.false_and]
 |true=>
  rw [e] at ss;have bf:=qql hp okd ok (qgr e)
  try simp only [Pu.pwA,jr,s3,t3,ss,bf,qrp,Bool.true_and]
def qqM {d:Dl} {w:Wk}:qQ [dlD d,Wk.d w,.none]=some (.bool false):=by
 have e:QQ "NoneType" "tuple" = false:=rfl;rw [U5]
 try simp only [Pu.pwA,jr,e]
def qhb {ns:List Int} {i j:Nat} (h:faO ns=some (i,j)):Fst ns i j:=by
 unfold Bk.faO at h;split at h
 ·rename_i c;have:=c.choose_spec;rw [Option.some.inj h] at this;exact this
 ·cases h
def qhs {ns:List Int} {i j:Nat} (F:Fst ns i j):alk ns i j=true:=by
 have h1:=F.ij;have h2:=F.jl;have h3:=F.eq;unfold alk;rw [decide_eq_true_eq];refine ⟨by omega,?_⟩;rw [Int.toNat_natCast,Int.toNat_natCast,getD_eq_getElem?_getD,getD_eq_getElem?_getD,h3]
def clP (d:Dl) (w:Wk) (r:PyData):Prop:=r=.none\/∃ (s:Int×Int) (k l:Int),r=.tuple [pD s,.int k,.int l]/\isS d w s=true/\alk (bks d s w.pc) k l=true
def qqV {d:Dl} {w:Wk} (hp:d.dep<=2) (okd:d.Ok) (ok:Big w) (hc:Cb w.pc):Tl (V3 [dlD d,Wk.d w]) (clP d w):=by
 have hl:=RF ok;rw [qex]
 try simp only [Pu.pwA,TD,qqQ hp okd ok hc]
 refine qeB (Q:=λo=>Tl (ER false o) (clP d w)) (stI d.R d.C w.pc) (λ_ ρ=>∃ s2 s3,ρ=[.sh (dlD d),.sh (Wk.d w),s2,s3]) (λr _=>clP d w r) ⟨_,_,rfl⟩ ?_ ?_ ?_
 ·rintro i s ρ hx ⟨s2,s3,rfl⟩;have hin:=qkd (mem_of_getElem? hx);have bf:=qql hp okd ok hin;have fa:=qjt (ns:=bks d s w.pc) (by simp [bks,sh];omega);cases e:faO (bks d s w.pc) with
  |none=>
   have:faD (bks d s w.pc)=.none:=by unfold faD;rw [e]
   rw [this] at fa
   try simp only [Pu.pwA,bf,fa,qp7]
   exact ⟨_,_,rfl⟩
  |some ij=>
   obtain ⟨a,b⟩:=ij;have:faD (bks d s w.pc)=.tuple [.int a,.int b]:=by unfold faD;rw [e]
   rw [this] at fa
   try simp only [Pu.pwA,bf,fa,qpG]
   exact .inr ⟨s,a,b,rfl,qcP hin,qhs (qhb e)⟩
 ·rintro ρ ⟨s2,s3,rfl⟩
  try simp only [Pu.pwA]
  exact ⟨_,rfl,.inl rfl⟩
 ·intro r b h
  try simp only [Pu.pwA]
  exact ⟨_,rfl,h⟩
def qfV (ns:List Int) (l:Int):List (Int×Int):=((jY 0 l.toNat).filter λk=>decide (ns.getD k.toNat 0=ns.getD l.toNat 0)).map λk=>(k,l)
def SX (ns:List Int):List (Int×Int):=(jY 0 ns.length).flatMap (qfV ns)
def qaj (ns:List Int) (l:Int):(qfV ns l).length<=l.toNat:=by
 unfold qfV;rw [length_map];have:=List.length_filter_le (λk:Int=>decide (ns.getD k.toNat 0=ns.getD l.toNat 0)) (jY 0 l.toNat);rw [UJ] at this;exact this
def qir {ns:List Int} {p:Int×Int}:p∈SX ns↔alk ns p.1 p.2=true:=by
 unfold SX qfV alk;rw [decide_eq_true_eq,List.mem_flatMap];constructor
 ·rintro ⟨l,hl,h⟩;obtain ⟨k,hk,rfl⟩:=mem_map.mp h;obtain ⟨h1,h2⟩:=List.mem_filter.mp hk;have a:=WF hl;have b:=WF h1;exact ⟨by simp only;omega,by simpa using h2⟩
 ·rintro ⟨h1,h2⟩;refine ⟨p.2,?_,mem_map.mpr ⟨p.1,List.mem_filter.mpr ⟨?_,by simpa using h2⟩,rfl⟩⟩
  ·unfold jY;exact mem_map.mpr ⟨p.2.toNat,mem_range.mpr (by omega),by omega⟩
  ·unfold jY;exact mem_map.mpr ⟨p.1.toNat,mem_range.mpr (by omega),by omega⟩
def qf0 {ns:List Int} (h:ns.length<=64):∀ i,i<=ns.length->(((jY 0 ns.length).take i).flatMap (qfV ns)).length<=i*64:=by
 intro i;induction i with
 |zero=>intro _;simp
 |succ i ih=>
  intro hi;have:=ih (by omega);rw [List.take_add_one,NB (by omega),Option.toList_some,List.flatMap_append,length_append];have b:=qaj ns (0+(i:Int));simp only [List.flatMap_cons,List.flatMap_nil,List.append_nil];omega
def qrr {ns:List Int} (h:ns.length<=64):jn [.list (ns.map PyData.int)]=some (.list ((SX ns).map pD)):=by
 rw [MG]
 try simp (disch:=omega) only [Pu.pwA,YG,length_map,qbB,Int.toNat_natCast]
 refine KN (Q:=λo=>ER true o=_) (jY 0 ns.length) (λi ρ=>∃ s2,ρ=[.sh (.list (ns.map PyData.int)),.ow ((((jY 0 ns.length).take i).flatMap (qfV ns)).map pD),s2]) ⟨_,rfl⟩ ?_ ?_
 ·rintro i x ρ hx ⟨s2,rfl⟩;have hx':=hx;obtain ⟨hi,rfl⟩:=YX hx;have ln:=qf0 h i (by omega);have rl:=qaj ns (0+(i:Int))
  try simp only [Pu.pwA]
  rw [ZQ (ds:=(jY 0 i).map PyData.int) (fs:=(qfV ns (0+(i:Int))).map pD)]
  rotate_left
  ·try simp (disch:=omega) only [Pu.pwA,Int.zero_add,qbB,Int.toNat_natCast]
  ·unfold qfV;rw [map_map,show (0+(i:Int)).toNat=i by omega];refine qbf λk hk=>?_;have kb:=WF hk;have e1:=qd5 (ns:=ns) (k:=k) (by omega) (by omega);have e2:=qd5 (ns:=ns) (k:=(0+(i:Int))) (by omega) (by omega);rw [show (0+(i:Int)).toNat=i by omega] at e2;by_cases c:ns.getD k.toNat 0=ns.getD i 0
   ·try simp only [Pu.pwA,VF,pD,e1,e2,c,decide_true,Function.comp_def]
   ·try simp only [Pu.pwA,VF,pD,e1,e2,c,decide_false,Function.comp_def]
  ·rw [length_map];omega
  try simp only [Pu.pwA]
  rw [NS rfl (by rw [length_map,length_map];omega)]
  try simp only [Pu.pwA]
  rw [List.take_add_one,hx',Option.toList_some,List.flatMap_append,List.map_append];exact ⟨.sh (.int (0+(i:Int))),by simp⟩
 ·rintro ρ ⟨s2,rfl⟩;rw [List.take_length]
  try simp only [Pu.pwA]
  rfl
def qhi {ns:List Int} (h:ns.length<=64):(SX ns).length<=4096:=by
 have:=qf0 h ns.length (Nat.le_refl _);rw [List.take_of_length_le (by simp [jY])] at this;unfold SX;omega
def qaL {k l:Int}:∀ ps:List (Int×Int),qaQ (.tuple [.int k,.int l]) (ps.map pD)=some (decide ((k,l)∈ps))
 |[]=>rfl
 |p::ps=>by
  have e:JC (pD p) (.tuple [.int k,.int l])=some (decide (p=(k,l))):=by
   obtain ⟨a,b⟩:=p;simp only [pD,JC,U0];by_cases c1:a=k<;>by_cases c2:b=l<;>simp [c1,c2]
  rw [map_cons,qaQ,e,qaL ps];simp only;congr 1;by_cases c:p=(k,l)
  ·subst c;simp
  ·have:¬ (k,l)=p:=λz=>c z.symm;by_cases c2:(k,l)∈ps<;>simp [c,c2,this]
def qbY {k l:Int} {ps:List (Int×Int)}:qoc false (.tuple [.int k,.int l]) (.list (ps.map pD))=some (.bool (decide ((k,l)∈ps))):=by
 refine (jt λy hy=>?_).trans ?_
 ·obtain ⟨p,_,rfl⟩:=mem_map.mp hy;simp [pD,dpt,qdF]
 ·rw [qaL];rfl
def qjp {ns:List Int} {k l:Int}:decide ((k,l)∈SX ns)=alk ns k l:=by
 rw [Bool.eq_iff_iff,decide_eq_true_eq,qir]
def thD (d:Dl) (w:Wk) (q:(Int×Int)×Int×Int):PyData:=.tuple [.tuple [pD q.1,.int q.2.1,.int q.2.2],.bool (isS d w q.1&&alk (bks d q.1 w.pc) q.2.1 q.2.2)]
def qq8 {d:Dl} {w:Wk} {s:Int×Int} {n:Nat} {Q:QD} (hp:d.dep<=2) (okd:d.Ok) (ok:w.Ok) (hin:∀ q∈sh s w.pc,inT d q) (hn:n<900000) (h:∀ ks:List (Int×Int),ks.length<=10->Q (.list (ks.map λp=>thD d w (s,p))) (n+3)):jX.W [dlD d,Wk.d w,pD s] n Q:=by
 have big:=qfX ok;have pl:=Bk.qcX ok;have lf:=qrj hp okd big hin;have is:=qcP hin;have bl:(bks d s w.pc).length=w.pc.length:=by simp [bks,sh]
 unfold thD at h;simp only [is,Bool.true_and] at h;generalize bks d s w.pc=ns at *;have la:=qrr (ns:=ns) (by omega);have ll:=qhi (ns:=ns) (by omega);rw [K9];refine ⟨rfl,?_⟩;unfold YR;refine KL λY1 h1=>?_
 try simp only [Pu.pwA,lf]
 rw [h1];refine KL λY2 h2=>?_
 try simp only [Pu.pwA,length_map]
 refine ⟨by omega,by omega,λk k0 k1=>⟨by omega,by omega,λl l0 l1=>?_⟩⟩
 try simp only [Pu.pwA]
 rw [h2];refine KL λY3 h3=>?_
 try simp only [Pu.pwA,length_map]
 rw [h3];refine KL λY4 h4=>?_
 try simp only [Pu.pwA,la]
 rw [h4];refine qcC (λρ' m=>m<=n+3/\∃ (ks:List (Int×Int)) (s4 s5 s6 s7 s8:Sl),ρ'=[.un,.sh (dlD d),.sh (Wk.d w),.sh (pD s),s4,s5,s6,s7,s8]/\ks.length<=10/\s7.d=some (.list (ks.map pD))/\s8.d=some (.list ((SX ns).map pD))) ?_ ?_
 ·by_cases c:SX ns=[]
  ·try simp only [Pu.pwA,TK,c,decide_true,Bool.not_true,qgM]
   exact ⟨by omega,[(k,l),(l,k),(k,k),(k,(ns.length:Int)),(-1,l),(k-ns.length,l),(0,(ns.length:Int)-1)],_,_,_,_,_,rfl,by simp,rfl,rfl⟩
  ·have l0:0<(SX ns).length:=List.length_pos_iff.mpr c
   try simp only [Pu.pwA,TK,c,decide_false,Bool.not_false,length_map]
   refine ⟨by omega,by omega,λt t0 t1=>?_⟩;obtain ⟨i,rfl⟩:=Int.eq_ofNat_of_zero_le t0;have hi:i<(SX ns).length:=by omega
   have ai:L2.atI ((SX ns).map pD) (i:Int)=some (pD (SX ns)[i]):=by
    rw [atN (by simpa using hi),getElem?_map,getElem?_eq_getElem hi];rfl
   have az:L2.atI ((SX ns).map pD) (-1)=some (pD ((SX ns)[(SX ns).length-1])):=by
    have:=qlF (xs:=(SX ns).map pD) (j:=1) (by omega) (by simp;omega);rw [length_map,getElem?_map,getElem?_eq_getElem (by omega)] at this;exact this
   generalize (SX ns)[i]=p at *;generalize (SX ns)[(SX ns).length-1]=q at *
   try simp only [Pu.pwA,ai,pD]
   have cl:qnO (.list [PyData.tuple [.int k,.int l],.tuple [.int l,.int k],.tuple [.int k,.int k],.tuple [.int k,.int (ns.length:Int)],.tuple [.int (-1),.int l],.tuple [.int (k-ns.length),.int l],.tuple [.int 0,.int ((ns.length:Int)-1)]]) (.list [.tuple [.int p.1,.int p.2],.tuple [.int p.2,.int p.1],pD q])=some (.list (([(k,l),(l,k),(k,k),(k,(ns.length:Int)),(-1,l),(k-ns.length,l),(0,(ns.length:Int)-1),p,(p.2,p.1),q]:List (Int×Int)).map pD)):=qk5 (by simp)
   try simp only [Pu.pwA,az,cl,qgM]
   exact ⟨by omega,_,_,_,_,_,_,rfl,by simp,rfl,rfl⟩
 ·rintro ρ' m ⟨hm,ks,s4,s5,s6,s7,s8,rfl,hk,h7,h8⟩
  try simp only [Pu.pwA,h7,h8]
  rw [ZQ (ds:=ks.map pD) (fs:=ks.map λp=>PyData.tuple [.tuple [pD s,.int p.1,.int p.2],.bool (alk ns p.1 p.2)])]
  ·try simp only [Pu.pwA]
   exact ⟨_,hm,h ks hk⟩
  ·try simp only [Pu.pwA,h7]
  ·refine jv λp hp'=>?_;have e2:qiN (.tuple [pD s]) (.tuple [.int p.1,.int p.2])=some (.tuple [pD s,.int p.1,.int p.2]):=jt (by rw [sizeLine_eq];simp);have e3:=qbY (k:=p.1) (l:=p.2) (ps:=SX ns);rw [qjp] at e3;simp only [VF,pD] at e2 e3 ⊢
   try simp only [Pu.pwA,h8,e2,e3]
  ·simp;omega
def qli {i j:Nat} {m:List Bool} {d:Dl} {w:Wk} {ρ:Rho}:qeh i j m [dlD d,Wk.d w] ρ=some (.nx (((dm m ρ).set i (.sh (dlD d))).set j (.sh (Wk.d w)))):=by
 cases d<;>cases w<;>rfl
def qhC {w:Wk} (ok:w.Ok):w.pc≠[]/\∃ p∈w.pc,(-16<=p.1/\p.1<=16)/\(-16<=p.2/\p.2<=16):=by
 have hl:=(Bk.qcX ok).1;obtain ⟨p,r,e⟩:=List.exists_cons_of_length_pos (show 0<w.pc.length by omega);refine ⟨by rw [e];simp,p,by rw [e];simp,?_⟩;cases w with
 |cells ps=>exact ok.2.2.2 p (by show p∈Wk.pc (.cells ps);rw [e];simp)
 |line k m=>
  obtain ⟨n,rfl⟩:∃ n,m=n+1:=⟨m-1,by have:=ok.2.1;omega⟩
  simp only [Wk.pc,jy,List.range_succ_eq_map,map_cons] at e;injection e with e _;subst e;simp
 |step u v m=>
  obtain ⟨n,rfl⟩:∃ n,m=n+1:=⟨m-1,by have:=ok.2.2.1;omega⟩
  simp only [Wk.pc,jy,List.range_succ_eq_map,map_cons] at e;injection e with e _;subst e;simp
 |block h v=>
  obtain ⟨n,rfl⟩:∃ n,h=n+1:=⟨h-1,by have:=ok.1;omega⟩
  obtain ⟨n',rfl⟩:∃ n,v=n+1:=⟨v-1,by have:=ok.2.1;omega⟩
  simp only [Wk.pc,jp,List.range_succ_eq_map,map_cons,List.flatMap_cons,cons_append] at e;injection e with e _;subst e;simp
def qaN {d:Dl} {w:Wk} {s:Int×Int} (ok:w.Ok) (h:∀ p:Int×Int,(-16<=p.1/\p.1<=16)->(-16<=p.2/\p.2<=16)->¬ inT d (s.1+p.1,s.2+p.2)):isS d w s=false:=by
 obtain ⟨_,p,hp,h1,h2⟩:=qhC ok;cases e:isS d w s with
 |false=>rfl
 |true=>exact absurd (qgr e _ (mem_map.mpr ⟨p,hp,rfl⟩)) (h p h1 h2)
def qmW:∀ k:Nat,k<=60->qeu.w [.un,.sh (.int k),.un,.un,.un,.un,.un,.un,.un,.un,.un,.un] 0 okW:=by
 intro k hk;unfold qeu;refine KL λY1 h1=>?_
 try simp only [Pu.pwA]
 refine ⟨by omega,λd D dp=>⟨by omega,λw hw=>?_⟩⟩
 try simp only [Pu.pwA,qli]
 rw [h1];have hR:=D.r2;have hC:=D.c2;have lm:=Dl.lims D.ok;have cb:=qpu hw;have big:=qfX hw;have sl:=qds (R:=d.R) (C:=d.C) cb lm.r2 lm.c2;refine KL λY2 h2=>?_
 try simp only [Pu.pwA,qp6 dp D.ok big cb]
 rw [h2];refine KL λY3 h3=>?_
 try simp only [Pu.pwA]
 rw [h3];have f1:isS d w (0,99)=false:=qaN hw λp h1 h2 z=>by obtain ⟨_,_,_,z4⟩:=z;simp only at z4;omega
 have f2:isS d w (-30,0)=false:=qaN hw λp h1 h2 z=>by obtain ⟨z1,_⟩:=z;simp only at z1;omega
 refine qcC (λρ' m=>∃ (qs:List ((Int×Int)×Int×Int)) (s5 s6 s7:Sl),ρ'=[.un,.sh (.int k),.un,.sh (dlD d),.sh (Wk.d w),s5,s6,s7,.un,.un,.un,.un]/\s6.d=some (.list (qs.map (thD d w)))) ?_ ?_
 ·by_cases es:stI d.R d.C w.pc=[]
  ·try simp (disch:=omega) only [Pu.pwA,TK,es,decide_true,Bool.not_true,KQ,qbB]
   exact ⟨[((0,99),0,1),((-30,0),0,1)],_,_,_,rfl,by simp [thD,f1,f2,pD,Sl.d]⟩
  ·have l0:0<(stI d.R d.C w.pc).length:=List.length_pos_iff.mpr es
   try simp (disch:=omega) only [Pu.pwA,TK,es,decide_false,Bool.not_false,KQ,qbB]
   refine qaV (jY 0 (8*1:Int).toNat) TR.mn (λi ρ n=>n<=1060+10*i/\∃ (qs:List ((Int×Int)×Int×Int)) (s5 s6 s7:Sl),ρ=[.un,.sh (.int k),.un,.sh (dlD d),.sh (Wk.d w),s5,s6,s7,.un,.un,.un,.un]/\qs.length<=2+10*i/\s5.d=some (.list ((stI d.R d.C w.pc).map pD))/\s6.d=some (.list (qs.map (thD d w)))) ⟨by omega,[((0,99),0,1),((-30,0),0,1)],_,_,_,rfl,by simp,rfl,by simp [thD,f1,f2,pD,Sl.d]⟩ ?_ ?_
   ·rintro i x ρ n hx ⟨hn,qs,s5,s6,s7,rfl,ql,h5,h6⟩;have hi:i<8:=(List.getElem?_eq_some_iff.mp hx).1;refine ⟨_,rfl,?_⟩;unfold TR
    try simp only [Pu.pwA,h5,h6,length_map]
    refine ⟨by omega,by omega,λt t0 t1=>?_⟩;obtain ⟨j,rfl⟩:=Int.eq_ofNat_of_zero_le t0;have hj:j<(stI d.R d.C w.pc).length:=by omega
    have ai:L2.atI ((stI d.R d.C w.pc).map pD) (j:Int)=some (pD (stI d.R d.C w.pc)[j]):=by
     rw [atN (by simpa using hj),getElem?_map,getElem?_eq_getElem hj];rfl
    have sm:=List.getElem_mem hj;generalize (stI d.R d.C w.pc)[j]=s at *
    try simp only [Pu.pwA,ai]
    refine qq8 dp D.ok hw (qkd sm) (by omega) λks hk'=>?_;have e:qiN (.list (qs.map (thD d w))) (.list (ks.map λp=>thD d w (s,p)))=some (.list ((qs++ks.map λp=>(s,p)).map (thD d w))):=by
     rw [qjI (by simp;omega),List.map_append,map_map];rfl
    try simp only [Pu.pwA,e]
    exact ⟨by omega,qs++ks.map λp=>(s,p),_,_,_,rfl,by simp;omega,by rw [Pu.qnV,h5],rfl⟩
   ·rintro ρ n ⟨hn,qs,s5,s6,s7,rfl,ql,h5,h6⟩;exact ⟨qs,_,_,_,rfl,h6⟩
 ·rintro ρ' m ⟨qs,s5,s6,s7,rfl,h6⟩;refine KL λY4 h4=>?_
  try simp only [Pu.pwA,h6]
  refine qaV (f:=thD d w) qs T0.mn (λ_ ρ _=>∃ s5 s6 s7 s8 s9 s10,ρ=[.un,.sh (.int k),.un,.sh (dlD d),.sh (Wk.d w),s5,s6,s7,s8,s9,s10,.un]) ⟨_,_,_,_,_,_,rfl⟩ ?_ ?_
  ·rintro i q ρ n hx ⟨s5,s6,s7,s8,s9,s10,rfl⟩;refine ⟨_,rfl,?_⟩;have sc:=qqB (s:=q.1) (k:=q.2.1) (l:=q.2.2) dp D.ok big;unfold T0;have sb:QQ "bool" "bool" = true:=rfl
   try simp only [Pu.pwA,thD,sc,sb,Bool.not_true,bne_self_eq_false]
   exact ⟨_,_,_,_,_,_,rfl⟩
  ·rintro ρ n ⟨s5,s6,s7,s8,s9,s10,rfl⟩
   try simp only [Pu.pwA]
   rw [h4];refine KL λY5 h5=>?_;obtain ⟨r,er,hr⟩:=qqV dp D.ok big cb;rcases hr with rfl|⟨s,a,b,rfl,i1,i2⟩
   ·try simp only [Pu.pwA,er]
    rw [h5]
    try simp only [Pu.pwA,qqM,bne_self_eq_false]
   ·have sc:=qqB (s:=s) (k:=a) (l:=b) dp D.ok big;rw [i1,i2] at sc
    try simp only [Pu.pwA,er]
    rw [h5]
    try simp only [Pu.pwA,sc,qqM,Bool.and_self,bne_self_eq_false]
end K17
namespace K17
open PySem L2 L3 Bk
abbrev qjq : Env := { scope := PySem.Challenge.pw_bankwalk_k17_clashes_shown.main.scope,locals := mainNs,globals := mainNs,cells := [],code := .ref 13,frame := some 14 }
abbrev qc8 : List Stmt := PySem.W.behindTheImports PySem.Challenge.pw_bankwalk_k17_clashes_shown
abbrev TB:Code:=.body qc8 qjq
abbrev qku:List Frame:=[PySem.W.topFrame ⟨0,0,0,0⟩]
def zg:Obj:=Hd.oT []
def jG:Obj:=⟨.none,none,.fields #[],#[]⟩
def qoi:Obj:=Hd.oC [.str "<module>" 182,.str "<module>" 183,.str "/claim/cut.py" 184,.int (1) 0,.int (0) 0,.int (0) 0,.int (0) 0,.int (0) 0,.ref 11,.bool false,.int (181) 0,.ref 12,.none,.none,.none,.none,.int (185) 0,.int (1) 0,.str "/claim/cut.py" 186]
def qn9:Obj:=⟨.type "frame",none,.plain,#[some (.ref 13),some (.ref 3),some (.ref 3),none,some (.str "__main__" 164),none,some (.ref 0)]⟩
def qjz (P:Params):Heap:=⟨Array.mk [PySem.W.boot_o_0 P,PySem.W.boot_o_1 P,PySem.W.boot_o_2 P,PySem.W.boot_o_3 P,PySem.W.boot_o_4 P,PySem.W.boot_o_5 P,PySem.W.boot_o_6 P,PySem.W.boot_o_7 P,PySem.W.boot_o_8 P,PySem.W.boot_o_9 P,PySem.W.boot_o_10 P,zg,jG,qoi,qn9],{ }⟩
def qln (P:Params):PySem.W.BT:=(Hd.nd (PySem.W.boot_o_0 P) (Hd.nd (PySem.W.boot_o_1 P) (Hd.nd (PySem.W.boot_o_3 P) (Hd.lf (PySem.W.boot_o_7 P)) (Hd.lf zg)) (Hd.nd (PySem.W.boot_o_5 P) (Hd.lf (PySem.W.boot_o_9 P)) (Hd.lf qoi))) (Hd.nd (PySem.W.boot_o_2 P) (Hd.nd (PySem.W.boot_o_4 P) (Hd.lf (PySem.W.boot_o_8 P)) (Hd.lf jG)) (Hd.nd (PySem.W.boot_o_6 P) (Hd.lf (PySem.W.boot_o_10 P)) (Hd.lf qn9))))
set_option maxRecDepth 100000 in
set_option maxHeartbeats 0 in
def qkX (w : World) (os : OsState) : PySem.W.topGo treeTable PySem.Challenge.pw_bankwalk_k17_clashes_shown w 11 (some (Value.ref 6)) 12 ⟨PySem.W.boot_heap w.params,Array.mk [],PySem.W.boot_drawn,PySem.W.boot_toks,os⟩ (PySem.W.topStub PySem.Challenge.pw_bankwalk_k17_clashes_shown) = some (⟨qjz w.params,#[],{ },187,os⟩,⟨denote treeTable TB,TB,⟨0,0,0,0⟩,qku⟩) := by kernel_rfl
set_option maxRecDepth 100000 in
set_option maxHeartbeats 0 in
def qkf (w : World) (os : OsState) : PySem.W.segRun treeTable PySem.Challenge.pw_bankwalk_k17_clashes_shown w 11 (some (Value.ref 6)) 1 1 ⟨qjz w.params,#[],{ },187,os⟩ (PySem.W.blockOf qc8 qjq TB ⟨0,0,0,0⟩ qku) = some (.next,(⟨qln w.params,15,{ },#[],{ },187,os⟩ : PySem.W.SharedT).abs,TB,⟨0,0,0,0⟩) := by kernel_rfl
def qqP (P:Params):Obj:=Hd.oD P 25 [(.str "__name__" 165,.str "bankwalk.walks" 353),(.str "__doc__" 166,.none),(.str "__package__" 167,.none),(.str "__loader__" 168,.builtin "__main__.__loader__#opaque"),(.str "__spec__" 169,.none),(.str "__annotations__" 170,.ref 6),(.str "__builtins__" 171,.ref 4),(.str "__file__" 173,.str "/claim/cut.py" 172),(.str "__cached__" 174,.none),(.str "is_number" 195,.ref 21),(.str "is_pair" 202,.ref 28),(.str "is_number_below" 210,.ref 35),(.str "first_alike" 219,.ref 42),(.str "are_alike" 228,.ref 49),(.str "BankError" 248,.ref 59),(.str "NoStart" 264,.ref 72),(.str "size_of" 280,.ref 81),(.str "number_of" 291,.ref 88),(.str "is_word" 302,.ref 95),(.str "odd_in_common" 312,.ref 102),(.str "bits_bank" 318,.ref 107),(.str "parted" 329,.ref 114),(.str "joined_bank" 343,.ref 121),(.str "bank_in" 352,.ref 128),(.str "STRIDES" 372,.ref 129)]
def qrv:Obj:=⟨.none,none,.fields #[.int (2) 0,.int (0) 0,.ref 20,.int (4) 0,.int (0) 0,.ref 27,.int (6) 0,.int (0) 0,.ref 34,.int (8) 0,.int (0) 0,.ref 41,.int (14) 0,.int (0) 0,.ref 48,.int (19) 0,.int (0) 0,.ref 55,.int (21) 0,.int (0) 0,.ref 68,.int (24) 0,.int (0) 0,.ref 80,.int (35) 0,.int (0) 0,.ref 87,.int (38) 0,.int (0) 0,.ref 94,.int (43) 0,.int (0) 0,.ref 101,.int (50) 0,.int (0) 0,.ref 106,.int (52) 0,.int (0) 0,.ref 113,.int (55) 0,.int (0) 0,.ref 120,.int (59) 0,.int (0) 0,.ref 127],#[]⟩
def qqn:Obj:=Hd.oN JQ 192
def qqu:Obj:=Hd.oG "is_number" QI
def qo1:Obj:=Hd.oK "is_number" 189 2 1 181 15 16 .none (.ref 17) (.ref 18) 19 193 194
def qhn:Obj:=Hd.oF "is_number" QI (.str "bankwalk.basics" 187) (.ref 20)
def qnU:Obj:=Hd.oN JQ 199
def qne:Obj:=Hd.oG "is_pair" JJ
def qhP:Obj:=Hd.oK "is_pair" 196 4 1 181 22 23 .none (.ref 24) (.ref 25) 26 200 201
def qhD:Obj:=Hd.oF "is_pair" JJ (.str "bankwalk.basics" 187) (.ref 27)
def qkp:Obj:=Hd.oN zL 206
def qlH:Obj:=Hd.oG "is_number_below" zz
def qhU:Obj:=Hd.oK "is_number_below" 203 6 2 181 29 30 .none (.ref 31) (.ref 32) 33 208 209
def qim:Obj:=Hd.oF "is_number_below" zz (.str "bankwalk.basics" 187) (.ref 34)
def qll:Obj:=Hd.oN j3 214
def qkI:Obj:=Hd.oG "first_alike" jC
def qio:Obj:=Hd.oK "first_alike" 211 8 1 181 36 37 .none (.ref 38) (.ref 39) 40 217 218
def qhj:Obj:=Hd.oF "first_alike" jC (.str "bankwalk.basics" 187) (.ref 41)
def qmt:Obj:=Hd.oN j3 223
def qnv:Obj:=Hd.oG "are_alike" QW
def qhS:Obj:=Hd.oK "are_alike" 220 14 3 181 43 44 .none (.ref 45) (.ref 46) 47 226 227
def qii:Obj:=Hd.oF "are_alike" QW (.str "bankwalk.basics" 187) (.ref 48)
def qnA:Obj:=Hd.oT [.type "ValueError"]
def qeF:Obj:=⟨.type "builtin_function_or_method",none,.fields #[.builtin "type.__prepare__",.type "type"],#[]⟩
def qnM (P:Params):Obj:=Hd.oD P 4 [(.str "__module__" 238,.str "bankwalk.errors" 229),(.str "__qualname__" 240,.str "BankError" 239),(.str "__firstlineno__" 242,.int (19) 241),(.str "__static_attributes__" 243,.ref 57)]
def qmh:Obj:=Hd.oC [.str "BankError" 233,.str "BankError" 234,.str "/claim/cut.py" 235,.int (19) 0,.int (0) 0,.int (0) 0,.int (0) 0,.int (0) 0,.ref 53,.bool false,.int (181) 0,.ref 54,.none,.none,.none,.none,.int (236) 0,.int (19) 0,.str "/claim/cut.py" 237]
def qnQ:Obj:=⟨.type "frame",none,.plain,#[some (.ref 55),some (.ref 3),some (.ref 52),none,some (.str "bankwalk.errors" 229),none,some (.ref 0)]⟩
def qnf (P:Params):Obj:=Hd.oD P 3 [(.str "__module__" 238,.str "bankwalk.errors" 229),(.str "__firstlineno__" 242,.int (19) 241),(.str "__static_attributes__" 243,.ref 57),(.str "__weakref__" 245,.ref 60),(.str "__doc__" 246,.none)]
def qmY:Obj:=⟨.type "type",none,.cls ({ name:=Str.ofString "BankError",bases:=[Value.type "ValueError"],  mro:=    [Value.ref 59,Value.type "ValueError",Value.type "Exception",Value.type "BaseException",Value.type "object"],  ns:=58,qualname:=Str.ofString "BankError",subclasses:=[Value.ref 72] }),#[some (.ref 50),none,some (.str "BankError" 231),some (.str "BankError" 239),some (.builtin "ValueError.__new__"),some (.bool true)]⟩
def qnJ:Obj:=⟨.type "getset_descriptor",none,.fields #[.str "__weakref__" 244,.ref 59,.builtin "ExceptionGroup.__weakref__",.none],#[]⟩
def qmJ:Obj:=⟨.type "super",none,.fields #[.ref 59,.ref 59,.ref 59],#[]⟩
def qkw:Obj:=⟨.type "builtin_function_or_method",none,.fields #[.builtin "object.__init_subclass__",.ref 59],#[]⟩
def qkv:Obj:=Hd.oT [.ref 59]
def qm1 (P:Params):Obj:=Hd.oD P 4 [(.str "__module__" 256,.str "bankwalk.errors" 229),(.str "__qualname__" 258,.str "NoStart" 257),(.str "__firstlineno__" 260,.int (21) 259),(.str "__static_attributes__" 261,.ref 70)]
def qm2:Obj:=Hd.oC [.str "NoStart" 251,.str "NoStart" 252,.str "/claim/cut.py" 253,.int (21) 0,.int (0) 0,.int (0) 0,.int (0) 0,.int (0) 0,.ref 66,.bool false,.int (181) 0,.ref 67,.none,.none,.none,.none,.int (254) 0,.int (21) 0,.str "/claim/cut.py" 255]
def qlC:Obj:=⟨.type "frame",none,.plain,#[some (.ref 68),some (.ref 3),some (.ref 65),none,some (.str "bankwalk.errors" 229),none,some (.ref 0)]⟩
def qkD (P:Params):Obj:=Hd.oD P 2 [(.str "__module__" 256,.str "bankwalk.errors" 229),(.str "__firstlineno__" 260,.int (21) 259),(.str "__static_attributes__" 261,.ref 70),(.str "__doc__" 262,.none)]
def qkb:Obj:=⟨.type "type",none,.cls ({ name:=Str.ofString "NoStart",bases:=[Value.ref 59],  mro:=    [Value.ref 72,Value.ref 59,Value.type "ValueError",Value.type "Exception",Value.type "BaseException",      Value.type "object"],  ns:=71,qualname:=Str.ofString "NoStart" }),#[some (.ref 63),none,some (.str "NoStart" 249),some (.str "NoStart" 257),some (.builtin "ValueError.__new__"),some (.bool true)]⟩
def qjM:Obj:=⟨.type "super",none,.fields #[.ref 72,.ref 72,.ref 72],#[]⟩
def qnR:Obj:=⟨.type "builtin_function_or_method",none,.fields #[.builtin "object.__init_subclass__",.ref 72],#[]⟩
def qkT:Obj:=Hd.oN RR 270
def qkJ:Obj:=Hd.oG "size_of" JN
def qhQ:Obj:=Hd.oK "size_of" 267 24 1 181 75 76 .none (.ref 77) (.ref 78) 79 278 279
def qhA:Obj:=Hd.oF "size_of" JN (.str "bankwalk.dealings" 265) (.ref 80)
def qjU:Obj:=Hd.oN EL 284
def qmU:Obj:=Hd.oG "number_of" QS
def qh2:Obj:=Hd.oK "number_of" 281 35 2 181 82 83 .none (.ref 84) (.ref 85) 86 289 290
def qih:Obj:=Hd.oF "number_of" QS (.str "bankwalk.dealings" 265) (.ref 87)
def qmi:Obj:=Hd.oN VN 295
def qlc:Obj:=Hd.oG "is_word" JW
def qhd:Obj:=Hd.oK "is_word" 292 38 2 181 89 90 .none (.ref 91) (.ref 92) 93 300 301
def qhh:Obj:=Hd.oF "is_word" JW (.str "bankwalk.dealings" 265) (.ref 94)
def qi9:Obj:=Hd.oN ZN 306
def qki:Obj:=Hd.oG "odd_in_common" zY
def qh7:Obj:=Hd.oK "odd_in_common" 303 43 2 181 96 97 .none (.ref 98) (.ref 99) 100 310 311
def qhu:Obj:=Hd.oF "odd_in_common" zY (.str "bankwalk.dealings" 265) (.ref 101)
def qks:Obj:=Hd.oG "bits_bank" QG
def qik:Obj:=Hd.oK "bits_bank" 313 50 2 181 103 104 .none .none .none 105 316 317
def qiK:Obj:=Hd.oF "bits_bank" QG (.str "bankwalk.dealings" 265) (.ref 106)
def qnb:Obj:=Hd.oN TN 322
def qjr:Obj:=Hd.oG "parted" VM
def qiy:Obj:=Hd.oK "parted" 319 52 3 181 108 109 .none (.ref 110) (.ref 111) 112 327 328
def qiI:Obj:=Hd.oF "parted" VM (.str "bankwalk.dealings" 265) (.ref 113)
def qnP:Obj:=Hd.oN JZ 333
def qjJ:Obj:=Hd.oG "joined_bank" jB
def qiM:Obj:=Hd.oK "joined_bank" 330 55 3 181 115 116 .none (.ref 117) (.ref 118) 119 341 342
def qiO:Obj:=Hd.oF "joined_bank" jB (.str "bankwalk.dealings" 265) (.ref 120)
def qk3:Obj:=Hd.oN CY 347
def qkH:Obj:=Hd.oG "bank_in" JI
def qis:Obj:=Hd.oK "bank_in" 344 59 2 181 122 123 .none (.ref 124) (.ref 125) 126 350 351
def qiS:Obj:=Hd.oF "bank_in" JI (.str "bankwalk.dealings" 265) (.ref 127)
def qhY (P:Params):Obj:=Hd.oD P 4 [(.str "row" 355,.ref 130),(.str "column" 358,.ref 131),(.str "slant" 361,.ref 132),(.str "back" 364,.ref 133)]
def qhk:Obj:=Hd.oT [.int (0) 356,.int (1) 357]
def qiA:Obj:=Hd.oT [.int (1) 359,.int (0) 360]
def qhc:Obj:=Hd.oT [.int (1) 362,.int (1) 363]
def qiT:Obj:=Hd.oT [.int (1) 365,.int (-1) 367]
def qkM (P:Params):PySem.W.BT:=(Hd.nd (PySem.W.boot_o_0 P) (Hd.nd (PySem.W.boot_o_1 P) (Hd.nd (qqP P) (Hd.nd (PySem.W.boot_o_7 P) (Hd.nd zg (Hd.nd qkp (Hd.nd qkv (Hd.lf qis) .nil) (Hd.lf qhh)) (Hd.nd qnv (Hd.lf qkJ) (Hd.lf zg))) (Hd.nd jG (Hd.nd zg (Hd.lf (qkD P)) (Hd.lf zg)) (Hd.nd qmh (Hd.lf qh2) (Hd.lf qjJ)))) (Hd.nd zg (Hd.nd qqu (Hd.nd qim (Hd.nd jG (Hd.lf qiA) .nil) (Hd.lf zg)) (Hd.nd qeF (Hd.lf jG) (Hd.lf zg))) (Hd.nd qhP (Hd.nd zg (Hd.lf zg) (Hd.lf qiK)) (Hd.nd qmY (Hd.lf qmi) (Hd.lf jG))))) (Hd.nd (PySem.W.boot_o_5 P) (Hd.nd (PySem.W.boot_o_9 P) (Hd.nd qqn (Hd.nd qlH (Hd.nd (qm1 P) (Hd.lf (qhY P)) .nil) (Hd.lf jG)) (Hd.nd qii (Hd.lf qhA) (Hd.lf qiy))) (Hd.nd zg (Hd.nd qio (Hd.lf qjM) (Hd.lf qks)) (Hd.nd zg (Hd.lf zg) (Hd.lf qiO)))) (Hd.nd qoi (Hd.nd qhn (Hd.nd jG (Hd.nd qlC (Hd.lf qiT) .nil) (Hd.lf qh7)) (Hd.nd zg (Hd.lf zg) (Hd.lf qnP))) (Hd.nd zg (Hd.nd qmt (Hd.lf qkT) (Hd.lf jG)) (Hd.nd qmJ (Hd.lf qlc) (Hd.lf zg)))))) (Hd.nd (PySem.W.boot_o_2 P) (Hd.nd (PySem.W.boot_o_4 P) (Hd.nd (PySem.W.boot_o_8 P) (Hd.nd jG (Hd.nd zg (Hd.nd qeF (Hd.lf qiS) .nil) (Hd.lf zg)) (Hd.nd qhS (Hd.lf qhQ) (Hd.lf qjr))) (Hd.nd qnU (Hd.nd qkI (Hd.lf qkb) (Hd.lf jG)) (Hd.nd qnQ (Hd.lf qih) (Hd.lf qiM)))) (Hd.nd qrv (Hd.nd qo1 (Hd.nd zg (Hd.nd qm2 (Hd.lf qhc) .nil) (Hd.lf qki)) (Hd.nd (qnM P) (Hd.lf qjU) (Hd.lf jG))) (Hd.nd qhD (Hd.nd jG (Hd.lf jG) (Hd.lf zg)) (Hd.nd qnJ (Hd.lf zg) (Hd.lf qk3))))) (Hd.nd (PySem.W.boot_o_6 P) (Hd.nd (PySem.W.boot_o_10 P) (Hd.nd zg (Hd.nd qhU (Hd.nd zg (Hd.lf qhk) .nil) (Hd.lf qi9)) (Hd.nd qnA (Hd.lf zg) (Hd.lf qiI))) (Hd.nd qne (Hd.nd qhj (Hd.lf qnR) (Hd.lf qik)) (Hd.nd (qnf P) (Hd.lf jG) (Hd.lf zg)))) (Hd.nd qn9 (Hd.nd zg (Hd.nd qll (Hd.lf zg) (Hd.lf qhu)) (Hd.nd jG (Hd.lf qmU) (Hd.lf zg))) (Hd.nd jG (Hd.nd zg (Hd.lf zg) (Hd.lf qnb)) (Hd.nd qkw (Hd.lf qhd) (Hd.lf qkH)))))))
abbrev qfi:List Stmt:=(qc8.drop 0).take 20
def qgK (os : OsState) (w : World) : Prop := PySem.W.segRunT treeTable PySem.Challenge.pw_bankwalk_k17_clashes_shown w 11 (some (Value.ref 6)) 1 933 (⟨qln w.params,15,{ },#[],{ },187,os⟩ : PySem.W.SharedT) (PySem.W.piecesOf qfi qjq TB ⟨0,0,0,0⟩ qku) = some (.next,(⟨qkM w.params,134,{ },#[],{ },373,os⟩ : PySem.W.SharedT),TB,⟨71,0,71,7⟩)
set_option maxRecDepth 100000 in
set_option maxHeartbeats 0 in
def qnC (w:World) (os:OsState):qgK os w:=
 PySem.W.byRow2 "special-get-raises" (P:=qgK os) (λw=>show _=_ by kernel_rfl) (λw=>show _=_ by kernel_rfl) w
def qmK (P:Params):Obj:=Hd.oD P 56 [(.str "__name__" 165,.str "law_bankwalk_k17_clashes_shown" 442),(.str "__doc__" 166,.none),(.str "__package__" 167,.none),(.str "__loader__" 168,.builtin "__main__.__loader__#opaque"),(.str "__spec__" 169,.none),(.str "__annotations__" 170,.ref 6),(.str "__builtins__" 171,.ref 4),(.str "__file__" 173,.str "/claim/cut.py" 172),(.str "__cached__" 174,.none),(.str "is_number" 195,.ref 21),(.str "is_pair" 202,.ref 28),(.str "is_number_below" 210,.ref 35),(.str "first_alike" 219,.ref 42),(.str "are_alike" 228,.ref 49),(.str "BankError" 248,.ref 59),(.str "NoStart" 264,.ref 72),(.str "size_of" 280,.ref 81),(.str "number_of" 291,.ref 88),(.str "is_word" 302,.ref 95),(.str "odd_in_common" 312,.ref 102),(.str "bits_bank" 318,.ref 107),(.str "parted" 329,.ref 114),(.str "joined_bank" 343,.ref 121),(.str "bank_in" 352,.ref 128),(.str "STRIDES" 372,.ref 129),(.str "strung" 378,.ref 138),(.str "cells_of" 384,.ref 143),(.str "starts" 390,.ref 148),(.str "shifted" 396,.ref 153),(.str "is_start" 402,.ref 158),(.str "words_of" 411,.ref 165),(.str "banks_from" 419,.ref 170),(.str "clash" 429,.ref 177),(.str "shows_clash" 441,.ref 184),(.str "_law_mix" 452,.ref 191),(.str "_law_left" 462,.ref 198),(.str "_law_pick" 471,.ref 205),(.str "_law_sides" 481,.ref 212),(.str "_law_gcd" 489,.ref 219),(.str "_law_skew" 500,.ref 226),(.str "_law_rests" 512,.ref 233),(.str "_law_bits" 518,.ref 238),(.str "_law_table" 524,.ref 243),(.str "_law_small" 530,.ref 248),(.str "_law_dealing" 540,.ref 255),(.str "_law_size" 546,.ref 260),(.str "_law_odd" 555,.ref 267),(.str "_law_bank" 561,.ref 272),(.str "_law_many" 568,.ref 279),(.str "_law_walk" 585,.ref 286),(.str "_law_cells" 591,.ref 291),(.str "_law_starts" 597,.ref 296),(.str "_law_from" 603,.ref 301),(.str "_law_alike" 609,.ref 306),(.str "_law_asked" 615,.ref 311),(.str "law" 633,.ref 318)]
def qoW:Obj:=⟨.none,none,.fields #[.int (2) 0,.int (0) 0,.ref 20,.int (4) 0,.int (0) 0,.ref 27,.int (6) 0,.int (0) 0,.ref 34,.int (8) 0,.int (0) 0,.ref 41,.int (14) 0,.int (0) 0,.ref 48,.int (19) 0,.int (0) 0,.ref 55,.int (21) 0,.int (0) 0,.ref 68,.int (24) 0,.int (0) 0,.ref 80,.int (35) 0,.int (0) 0,.ref 87,.int (38) 0,.int (0) 0,.ref 94,.int (43) 0,.int (0) 0,.ref 101,.int (50) 0,.int (0) 0,.ref 106,.int (52) 0,.int (0) 0,.ref 113,.int (55) 0,.int (0) 0,.ref 120,.int (59) 0,.int (0) 0,.ref 127,.int (72) 0,.int (0) 0,.ref 137,.int (74) 0,.int (0) 0,.ref 142,.int (84) 0,.int (0) 0,.ref 147,.int (90) 0,.int (0) 0,.ref 152,.int (92) 0,.int (0) 0,.ref 157,.int (94) 0,.int (0) 0,.ref 164,.int (99) 0,.int (0) 0,.ref 169,.int (101) 0,.int (0) 0,.ref 176,.int (107) 0,.int (0) 0,.ref 183,.int (113) 0,.int (0) 0,.ref 190,.int (116) 0,.int (0) 0,.ref 197,.int (120) 0,.int (0) 0,.ref 204,.int (127) 0,.int (0) 0,.ref 211,.int (131) 0,.int (0) 0,.ref 218,.int (135) 0,.int (0) 0,.ref 225,.int (140) 0,.int (0) 0,.ref 232,.int (148) 0,.int (0) 0,.ref 237,.int (153) 0,.int (0) 0,.ref 242,.int (158) 0,.int (0) 0,.ref 247,.int (176) 0,.int (0) 0,.ref 254,.int (193) 0,.int (0) 0,.ref 259,.int (203) 0,.int (0) 0,.ref 266,.int (208) 0,.int (0) 0,.ref 271,.int (221) 0,.int (0) 0,.ref 278,.int (223) 0,.int (0) 0,.ref 285,.int (242) 0,.int (0) 0,.ref 290,.int (252) 0,.int (0) 0,.ref 295,.int (260) 0,.int (0) 0,.ref 300,.int (262) 0,.int (0) 0,.ref 305,.int (267) 0,.int (0) 0,.ref 310,.int (276) 0,.int (0) 0,.ref 317],#[]⟩
def qo8:Obj:=Hd.oG "strung" VU
def qjy:Obj:=Hd.oK "strung" 373 72 3 181 134 135 .none .none .none 136 376 377
def qkK:Obj:=Hd.oF "strung" VU (.str "bankwalk.walks" 353) (.ref 137)
def qpP:Obj:=Hd.oG "cells_of" Q9
def qnK:Obj:=Hd.oK "cells_of" 379 74 1 181 139 140 .none .none .none 141 382 383
def qk7:Obj:=Hd.oF "cells_of" Q9 (.str "bankwalk.walks" 353) (.ref 142)
def qo9:Obj:=Hd.oG "starts" VX
def qmR:Obj:=Hd.oK "starts" 385 84 2 181 144 145 .none .none .none 146 388 389
def qlW:Obj:=Hd.oF "starts" VX (.str "bankwalk.walks" 353) (.ref 147)
def qpC:Obj:=Hd.oG "shifted" JV
def qnY:Obj:=Hd.oK "shifted" 391 90 2 181 149 150 .none .none .none 151 394 395
def qn1:Obj:=Hd.oF "shifted" JV (.str "bankwalk.walks" 353) (.ref 152)
def qoZ:Obj:=Hd.oG "is_start" ZT
def qmq:Obj:=Hd.oK "is_start" 397 92 3 181 154 155 .none .none .none 156 400 401
def qmn:Obj:=Hd.oF "is_start" ZT (.str "bankwalk.walks" 353) (.ref 157)
def qp4:Obj:=Hd.oN QJ 406
def qpi:Obj:=Hd.oG "words_of" ZO
def qfC:Obj:=Hd.oK "words_of" 403 94 3 181 159 160 .none (.ref 161) (.ref 162) 163 409 410
def qfb:Obj:=Hd.oF "words_of" ZO (.str "bankwalk.walks" 353) (.ref 164)
def qm0:Obj:=Hd.oG "banks_from" jO
def qfW:Obj:=Hd.oK "banks_from" 414 99 3 181 166 167 .none .none .none 168 417 418
def qgF:Obj:=Hd.oF "banks_from" jO (.str "bankwalk.clashes" 412) (.ref 169)
def qkz:Obj:=Hd.oN C6 423
def qk6:Obj:=Hd.oG "clash" DZ
def qgd:Obj:=Hd.oK "clash" 420 101 2 181 171 172 .none (.ref 173) (.ref 174) 175 427 428
def qfG:Obj:=Hd.oF "clash" DZ (.str "bankwalk.clashes" 412) (.ref 176)
def qlx:Obj:=Hd.oN jP 433
def qmE:Obj:=Hd.oG "shows_clash" jz
def qfp:Obj:=Hd.oK "shows_clash" 430 107 3 181 178 179 .none (.ref 180) (.ref 181) 182 439 440
def qgP:Obj:=Hd.oF "shows_clash" jz (.str "bankwalk.clashes" 412) (.ref 183)
def qjh:Obj:=Hd.oN RM 447
def qkm:Obj:=Hd.oG "_law_mix" JU
def qgb:Obj:=Hd.oK "_law_mix" 444 113 2 181 185 186 .none (.ref 187) (.ref 188) 189 450 451
def qg0:Obj:=Hd.oF "_law_mix" JU (.str "law_bankwalk_k17_clashes_shown" 442) (.ref 190)
def qkc:Obj:=Hd.oN WI 456
def qly:Obj:=Hd.oG "_law_left" ZL
def qgx:Obj:=Hd.oK "_law_left" 453 116 2 181 192 193 .none (.ref 194) (.ref 195) 196 460 461
def qe7:Obj:=Hd.oF "_law_left" ZL (.str "law_bankwalk_k17_clashes_shown" 442) (.ref 197)
def qjl:Obj:=Hd.oN WM 466
def qlX:Obj:=Hd.oG "_law_pick" ZV
def qe4:Obj:=Hd.oK "_law_pick" 463 120 2 181 199 200 .none (.ref 201) (.ref 202) 203 469 470
def qe2:Obj:=Hd.oF "_law_pick" ZV (.str "law_bankwalk_k17_clashes_shown" 442) (.ref 204)
def qmF:Obj:=Hd.oN EN 475
def qlP:Obj:=Hd.oG "_law_sides" QU
def qgB:Obj:=Hd.oK "_law_sides" 472 127 1 181 206 207 .none (.ref 208) (.ref 209) 210 479 480
def qeJ:Obj:=Hd.oF "_law_sides" QU (.str "law_bankwalk_k17_clashes_shown" 442) (.ref 211)
def qmT:Obj:=Hd.oN C5 485
def qkU:Obj:=Hd.oG "_law_gcd" JO
def qfO:Obj:=Hd.oK "_law_gcd" 482 131 2 181 213 214 .none (.ref 215) (.ref 216) 217 487 488
def qfE:Obj:=Hd.oF "_law_gcd" JO (.str "law_bankwalk_k17_clashes_shown" 442) (.ref 218)
def qmC:Obj:=Hd.oN WH 493
def qjY:Obj:=Hd.oG "_law_skew" ZK
def qgC:Obj:=Hd.oK "_law_skew" 490 135 1 181 220 221 .none (.ref 222) (.ref 223) 224 498 499
def qgm:Obj:=Hd.oF "_law_skew" ZK (.str "law_bankwalk_k17_clashes_shown" 442) (.ref 225)
def qko:Obj:=Hd.oN EC 504
def qnr:Obj:=Hd.oG "_law_rests" QH
def qf4:Obj:=Hd.oK "_law_rests" 501 140 1 181 227 228 .none (.ref 229) (.ref 230) 231 510 511
def qfN:Obj:=Hd.oF "_law_rests" QH (.str "law_bankwalk_k17_clashes_shown" 442) (.ref 232)
def qls:Obj:=Hd.oG "_law_bits" ZS
def qgH:Obj:=Hd.oK "_law_bits" 513 148 2 181 234 235 .none .none .none 236 516 517
def qgc:Obj:=Hd.oF "_law_bits" ZS (.str "law_bankwalk_k17_clashes_shown" 442) (.ref 237)
def qkC:Obj:=Hd.oG "_law_table" QC
def qe6:Obj:=Hd.oK "_law_table" 519 153 1 181 239 240 .none .none .none 241 522 523
def qf7:Obj:=Hd.oF "_law_table" QC (.str "law_bankwalk_k17_clashes_shown" 442) (.ref 242)
def qjs:Obj:=Hd.oG "_law_small" QP
def qgh:Obj:=Hd.oK "_law_small" 525 158 1 181 244 245 .none .none .none 246 528 529
def qfz:Obj:=Hd.oF "_law_small" QP (.str "law_bankwalk_k17_clashes_shown" 442) (.ref 247)
def qno:Obj:=Hd.oN YF 534
def qkW:Obj:=Hd.oG "_law_dealing" jD
def qfF:Obj:=Hd.oK "_law_dealing" 531 176 1 181 249 250 .none (.ref 251) (.ref 252) 253 538 539
def qgQ:Obj:=Hd.oF "_law_dealing" jD (.str "law_bankwalk_k17_clashes_shown" 442) (.ref 254)
def qme:Obj:=Hd.oG "_law_size" ZE
def qf6:Obj:=Hd.oK "_law_size" 541 193 1 181 256 257 .none .none .none 258 544 545
def qgJ:Obj:=Hd.oF "_law_size" ZE (.str "law_bankwalk_k17_clashes_shown" 442) (.ref 259)
def qnk:Obj:=Hd.oN RV 550
def qjE:Obj:=Hd.oG "_law_odd" JM
def qfK:Obj:=Hd.oK "_law_odd" 547 203 1 181 261 262 .none (.ref 263) (.ref 264) 265 553 554
def qfL:Obj:=Hd.oF "_law_odd" JM (.str "law_bankwalk_k17_clashes_shown" 442) (.ref 266)
def ql4:Obj:=Hd.oG "_law_bank" ZJ
def qgT:Obj:=Hd.oK "_law_bank" 556 208 3 181 268 269 .none .none .none 270 559 560
def qfB:Obj:=Hd.oF "_law_bank" ZJ (.str "law_bankwalk_k17_clashes_shown" 442) (.ref 271)
def qji:Obj:=Hd.oN W5 565
def qmZ:Obj:=Hd.oG "_law_many" ZR
def qgL:Obj:=Hd.oK "_law_many" 562 221 1 181 273 274 .none (.ref 275) (.ref 276) 277 566 567
def qgl:Obj:=Hd.oF "_law_many" ZR (.str "law_bankwalk_k17_clashes_shown" 442) (.ref 278)
def qmv:Obj:=Hd.oN W0 572
def qk2:Obj:=Hd.oG "_law_walk" ZB
def qfY:Obj:=Hd.oK "_law_walk" 569 223 1 181 280 281 .none (.ref 282) (.ref 283) 284 583 584
def qff:Obj:=Hd.oF "_law_walk" ZB (.str "law_bankwalk_k17_clashes_shown" 442) (.ref 285)
def qng:Obj:=Hd.oG "_law_cells" QK
def qf9:Obj:=Hd.oK "_law_cells" 586 242 1 181 287 288 .none .none .none 289 589 590
def qeZ:Obj:=Hd.oF "_law_cells" QK (.str "law_bankwalk_k17_clashes_shown" 442) (.ref 290)
def qmQ:Obj:=Hd.oG "_law_starts" jR
def qgj:Obj:=Hd.oK "_law_starts" 592 252 2 181 292 293 .none .none .none 294 595 596
def qe5:Obj:=Hd.oF "_law_starts" jR (.str "law_bankwalk_k17_clashes_shown" 442) (.ref 295)
def qjv:Obj:=Hd.oG "_law_from" ZM
def qfA:Obj:=Hd.oK "_law_from" 598 260 3 181 297 298 .none .none .none 299 601 602
def qgI:Obj:=Hd.oF "_law_from" ZM (.str "law_bankwalk_k17_clashes_shown" 442) (.ref 300)
def qm8:Obj:=Hd.oG "_law_alike" QF
def qe8:Obj:=Hd.oK "_law_alike" 604 262 1 181 302 303 .none .none .none 304 607 608
def qeX:Obj:=Hd.oF "_law_alike" QF (.str "law_bankwalk_k17_clashes_shown" 442) (.ref 305)
def qkQ:Obj:=Hd.oG "_law_asked" QN
def qfZ:Obj:=Hd.oK "_law_asked" 610 267 4 181 307 308 .none .none .none 309 613 614
def qfg:Obj:=Hd.oF "_law_asked" QN (.str "law_bankwalk_k17_clashes_shown" 442) (.ref 310)
def qjo:Obj:=Hd.oN qbV 619
def qla:Obj:=Hd.oG "law" VQ
def qgU:Obj:=Hd.oK "law" 616 276 1 181 312 313 .none (.ref 314) (.ref 315) 316 631 632
def qeN:Obj:=Hd.oF "law" VQ (.str "law_bankwalk_k17_clashes_shown" 442) (.ref 317)
def qhE (P:Params):PySem.W.BT:=(Hd.nd (PySem.W.boot_o_0 P) (Hd.nd (PySem.W.boot_o_1 P) (Hd.nd (qmK P) (Hd.nd (PySem.W.boot_o_7 P) (Hd.nd zg (Hd.nd qkp (Hd.nd qkv (Hd.nd qis (Hd.lf qgQ) .nil) (Hd.lf qg0)) (Hd.nd qhh (Hd.nd zg (Hd.lf zg) .nil) (Hd.lf zg))) (Hd.nd qnv (Hd.nd qkJ (Hd.nd qk7 (Hd.lf qgT) .nil) (Hd.lf jG)) (Hd.nd zg (Hd.nd qk6 (Hd.lf jG) .nil) (Hd.lf zg)))) (Hd.nd jG (Hd.nd zg (Hd.nd (qkD P) (Hd.nd jG (Hd.lf qnk) .nil) (Hd.lf zg)) (Hd.nd zg (Hd.nd jG (Hd.lf qgj) .nil) (Hd.lf qnr))) (Hd.nd qmh (Hd.nd qh2 (Hd.nd qpC (Hd.lf qgl) .nil) (Hd.lf qmT)) (Hd.nd qjJ (Hd.nd qfp (Hd.lf qfg) .nil) (Hd.lf qgh))))) (Hd.nd zg (Hd.nd qqu (Hd.nd qim (Hd.nd jG (Hd.nd qiA (Hd.lf qf6) .nil) (Hd.lf zg)) (Hd.nd zg (Hd.nd qpi (Hd.lf qeZ) .nil) (Hd.lf zg))) (Hd.nd qeF (Hd.nd jG (Hd.nd qmR (Hd.lf qji) .nil) (Hd.lf qgB)) (Hd.nd zg (Hd.nd jG (Hd.lf zg) .nil) (Hd.lf qf7)))) (Hd.nd qhP (Hd.nd zg (Hd.nd zg (Hd.nd zg (Hd.lf qfL) .nil) (Hd.lf qlX)) (Hd.nd qiK (Hd.nd zg (Hd.lf qjv) .nil) (Hd.lf jG))) (Hd.nd qmY (Hd.nd qmi (Hd.nd jG (Hd.lf zg) .nil) (Hd.lf qfE)) (Hd.nd jG (Hd.nd qjh (Hd.lf zg) .nil) (Hd.lf qno)))))) (Hd.nd (PySem.W.boot_o_5 P) (Hd.nd (PySem.W.boot_o_9 P) (Hd.nd qqn (Hd.nd qlH (Hd.nd (qm1 P) (Hd.nd (qhY P) (Hd.lf jG) .nil) (Hd.lf jG)) (Hd.nd jG (Hd.nd qp4 (Hd.lf qng) .nil) (Hd.lf qgC))) (Hd.nd qii (Hd.nd qhA (Hd.nd jG (Hd.lf zg) .nil) (Hd.lf zg)) (Hd.nd qiy (Hd.nd qfG (Hd.lf qe8) .nil) (Hd.lf qkC)))) (Hd.nd zg (Hd.nd qio (Hd.nd qjM (Hd.nd qjy (Hd.lf qjE) .nil) (Hd.lf qjl)) (Hd.nd qks (Hd.nd qfW (Hd.lf zg) .nil) (Hd.lf qfN))) (Hd.nd zg (Hd.nd zg (Hd.nd qn1 (Hd.lf jG) .nil) (Hd.lf qkU)) (Hd.nd qiO (Hd.nd zg (Hd.lf jG) .nil) (Hd.lf zg))))) (Hd.nd qoi (Hd.nd qhn (Hd.nd jG (Hd.nd qlC (Hd.nd qiT (Hd.lf zg) .nil) (Hd.lf qgx)) (Hd.nd qh7 (Hd.nd qfb (Hd.lf jG) .nil) (Hd.lf qko))) (Hd.nd zg (Hd.nd zg (Hd.nd zg (Hd.lf qmZ) .nil) (Hd.lf zg)) (Hd.nd qnP (Hd.nd zg (Hd.lf qkQ) .nil) (Hd.lf jG)))) (Hd.nd zg (Hd.nd qmt (Hd.nd qkT (Hd.nd qpP (Hd.lf jG) .nil) (Hd.lf qe2)) (Hd.nd jG (Hd.nd qkz (Hd.lf qgI) .nil) (Hd.lf qgH))) (Hd.nd qmJ (Hd.nd qlc (Hd.nd qmq (Hd.lf qfY) .nil) (Hd.lf jG)) (Hd.nd zg (Hd.nd qkm (Hd.lf qgU) .nil) (Hd.lf qkW))))))) (Hd.nd (PySem.W.boot_o_2 P) (Hd.nd (PySem.W.boot_o_4 P) (Hd.nd (PySem.W.boot_o_8 P) (Hd.nd jG (Hd.nd zg (Hd.nd qeF (Hd.nd qiS (Hd.lf zg) .nil) (Hd.lf zg)) (Hd.nd zg (Hd.nd jG (Hd.lf jG) .nil) (Hd.lf qjY))) (Hd.nd qhS (Hd.nd qhQ (Hd.nd zg (Hd.lf qfB) .nil) (Hd.lf qmF)) (Hd.nd qjr (Hd.nd qgd (Hd.lf qm8) .nil) (Hd.lf jG)))) (Hd.nd qnU (Hd.nd qkI (Hd.nd qkb (Hd.nd qo8 (Hd.lf zg) .nil) (Hd.lf jG)) (Hd.nd jG (Hd.nd qm0 (Hd.lf qe5) .nil) (Hd.lf qf4))) (Hd.nd qnQ (Hd.nd qih (Hd.nd qnY (Hd.lf zg) .nil) (Hd.lf zg)) (Hd.nd qiM (Hd.nd qgP (Hd.lf zg) .nil) (Hd.lf qfz))))) (Hd.nd qoW (Hd.nd qo1 (Hd.nd zg (Hd.nd qm2 (Hd.nd qhc (Hd.lf qgJ) .nil) (Hd.lf qly)) (Hd.nd qki (Hd.nd qfC (Hd.lf zg) .nil) (Hd.lf jG))) (Hd.nd (qnM P) (Hd.nd qjU (Hd.nd qlW (Hd.lf zg) .nil) (Hd.lf qeJ)) (Hd.nd jG (Hd.nd qlx (Hd.lf jG) .nil) (Hd.lf zg)))) (Hd.nd qhD (Hd.nd jG (Hd.nd jG (Hd.nd jG (Hd.lf zg) .nil) (Hd.lf qe4)) (Hd.nd zg (Hd.nd jG (Hd.lf qfA) .nil) (Hd.lf qls))) (Hd.nd qnJ (Hd.nd zg (Hd.nd qoZ (Hd.lf qk2) .nil) (Hd.lf zg)) (Hd.nd qk3 (Hd.nd zg (Hd.lf qla) .nil) (Hd.lf zg)))))) (Hd.nd (PySem.W.boot_o_6 P) (Hd.nd (PySem.W.boot_o_10 P) (Hd.nd zg (Hd.nd qhU (Hd.nd zg (Hd.nd qhk (Hd.lf qme) .nil) (Hd.lf qkc)) (Hd.nd qi9 (Hd.nd zg (Hd.lf qf9) .nil) (Hd.lf qgm))) (Hd.nd qnA (Hd.nd zg (Hd.nd qo9 (Hd.lf jG) .nil) (Hd.lf qlP)) (Hd.nd qiI (Hd.nd zg (Hd.lf qeX) .nil) (Hd.lf qe6)))) (Hd.nd qne (Hd.nd qhj (Hd.nd qnR (Hd.nd qkK (Hd.lf qfK) .nil) (Hd.lf zg)) (Hd.nd qik (Hd.nd qgF (Hd.lf jG) .nil) (Hd.lf zg))) (Hd.nd (qnf P) (Hd.nd jG (Hd.nd zg (Hd.lf qmv) .nil) (Hd.lf qfO)) (Hd.nd zg (Hd.nd jG (Hd.lf qjo) .nil) (Hd.lf jG))))) (Hd.nd qn9 (Hd.nd zg (Hd.nd qll (Hd.nd zg (Hd.nd zg (Hd.lf jG) .nil) (Hd.lf qe7)) (Hd.nd qhu (Hd.nd zg (Hd.lf qmQ) .nil) (Hd.lf zg))) (Hd.nd jG (Hd.nd qmU (Hd.nd jG (Hd.lf qgL) .nil) (Hd.lf jG)) (Hd.nd zg (Hd.nd qmE (Hd.lf qfZ) .nil) (Hd.lf qjs)))) (Hd.nd jG (Hd.nd zg (Hd.nd zg (Hd.nd qnK (Hd.lf ql4) .nil) (Hd.lf zg)) (Hd.nd qnb (Hd.nd zg (Hd.lf zg) .nil) (Hd.lf qgc))) (Hd.nd qkw (Hd.nd qhd (Hd.nd qmn (Hd.lf qff) .nil) (Hd.lf qmC)) (Hd.nd qkH (Hd.nd qgb (Hd.lf qeN) .nil) (Hd.lf qfF))))))))
abbrev qgX:List Stmt:=(qc8.drop 20).take 33
set_option maxRecDepth 100000 in
set_option maxHeartbeats 0 in
def qnm (w : World) (os : OsState) : PySem.W.segRunT treeTable PySem.Challenge.pw_bankwalk_k17_clashes_shown w 11 (some (Value.ref 6)) 1 926 (⟨qkM w.params,134,{ },#[],{ },373,os⟩ : PySem.W.SharedT) (PySem.W.piecesOf qgX qjq TB ⟨71,0,71,7⟩ qku) = some (.next,(⟨qhE w.params,319,{ },#[],{ },634,os⟩ : PySem.W.SharedT),TB,⟨276,0,293,15⟩) := by kernel_rfl
abbrev qiH (P:Params):Heap:=PySem.W.absHeap (qhE P) 319 { }
def Kf (P:Params):PySem.W.Frag:=[(3,qmK P),(20,qo1),(21,qhn),(27,qhP),(28,qhD),(34,qhU),(35,qim),(41,qio),(42,qhj),(48,qhS),(49,qii),(80,qhQ),(81,qhA),(87,qh2),(88,qih),(94,qhd),(95,qhh),(101,qh7),(102,qhu),(106,qik),(107,qiK),(113,qiy),(114,qiI),(120,qiM),(121,qiO),(127,qis),(128,qiS),(129,qhY P),(130,qhk),(131,qiA),(132,qhc),(133,qiT),(137,qjy),(138,qkK),(142,qnK),(143,qk7),(147,qmR),(148,qlW),(152,qnY),(153,qn1),(157,qmq),(158,qmn),(164,qfC),(165,qfb),(169,qfW),(170,qgF),(176,qgd),(177,qfG),(183,qfp),(184,qgP),(190,qgb),(191,qg0),(197,qgx),(198,qe7),(204,qe4),(205,qe2),(211,qgB),(212,qeJ),(218,qfO),(219,qfE),(225,qgC),(226,qgm),(232,qf4),(233,qfN),(237,qgH),(238,qgc),(242,qe6),(243,qf7),(247,qgh),(248,qfz),(254,qfF),(255,qgQ),(259,qf6),(260,qgJ),(266,qfK),(267,qfL),(271,qgT),(272,qfB),(278,qgL),(279,qgl),(285,qfY),(286,qff),(290,qf9),(291,qeZ),(295,qgj),(296,qe5),(300,qfA),(301,qgI),(305,qe8),(306,qeX),(310,qfZ),(311,qfg),(317,qgU),(318,qeN)]
def qny {l:PySem.W.OpenLaw} {w:World} {h:Heap} {mg:Str->Option Value} {fa:Addr} (X:(Kf w.params).In h) (G:h.Ns mainGlobals mg) (hfa:mg "law" = some (.ref fa)) :
  ∃ fd:FuncData,(∀ (s:Shared) (v:Value),BindsTo s fd ⟨[v],[]⟩ [("_law_script",v)])/\∀ base:Heap,(Kf w.params).In base->base.Ns mainGlobals mg->FnOk l.prog w (Kf w.params) mg base CX0 10 fa fd ["_law_script"] (lSp (Kf w.params) S7):=by
 have e:=hfa.symm.trans (Hd.zu X G "law" (.ref 318) (by kernel_rfl));cases e;have F0:=Hd.zx (K:=Kf w.params) "is_number" QI 21 (.str "bankwalk.basics" 187) (.ref 20) (by kernel_rfl) (by kernel_rfl) (by kernel_rfl);have b0:=F0.binds (ps:=EX) λ_ _ _ _ _ _ us hl=>by obtain ⟨_,rfl⟩:=Pu.KY hl;rfl
 have m0:=Hd.zu X G "is_number" (.ref 21) (by kernel_rfl);have F1:=Hd.zx (K:=Kf w.params) "is_pair" JJ 28 (.str "bankwalk.basics" 187) (.ref 27) (by kernel_rfl) (by kernel_rfl) (by kernel_rfl);have b1:=F1.binds (ps:=CS) λ_ _ _ _ _ _ us hl=>by obtain ⟨_,rfl⟩:=Pu.KY hl;rfl
 have m1:=Hd.zu X G "is_pair" (.ref 28) (by kernel_rfl);have F2:=Hd.zx (K:=Kf w.params) "is_number_below" zz 35 (.str "bankwalk.basics" 187) (.ref 34) (by kernel_rfl) (by kernel_rfl) (by kernel_rfl);have b2:=F2.binds (ps:=j6) λ_ _ _ _ _ _ us hl=>by obtain ⟨_,_,rfl⟩:=Pu.M3 hl;rfl
 have m2:=Hd.zu X G "is_number_below" (.ref 35) (by kernel_rfl);have F3:=Hd.zx (K:=Kf w.params) "first_alike" jC 42 (.str "bankwalk.basics" 187) (.ref 41) (by kernel_rfl) (by kernel_rfl) (by kernel_rfl);have b3:=F3.binds (ps:=J6) λ_ _ _ _ _ _ us hl=>by obtain ⟨_,rfl⟩:=Pu.KY hl;rfl
 have m3:=Hd.zu X G "first_alike" (.ref 42) (by kernel_rfl);have F4:=Hd.zx (K:=Kf w.params) "are_alike" QW 49 (.str "bankwalk.basics" 187) (.ref 48) (by kernel_rfl) (by kernel_rfl) (by kernel_rfl);have b4:=F4.binds (ps:=EB) λ_ _ _ _ _ _ us hl=>by obtain ⟨_,_,_,rfl⟩:=Pu.qbF hl;rfl
 have m4:=Hd.zu X G "are_alike" (.ref 49) (by kernel_rfl);have F5:=Hd.zx (K:=Kf w.params) "size_of" JN 81 (.str "bankwalk.dealings" 265) (.ref 80) (by kernel_rfl) (by kernel_rfl) (by kernel_rfl);have b5:=F5.binds (ps:=RY) λ_ _ _ _ _ _ us hl=>by obtain ⟨_,rfl⟩:=Pu.KY hl;rfl
 have m5:=Hd.zu X G "size_of" (.ref 81) (by kernel_rfl);have F6:=Hd.zx (K:=Kf w.params) "number_of" QS 88 (.str "bankwalk.dealings" 265) (.ref 87) (by kernel_rfl) (by kernel_rfl) (by kernel_rfl);have b6:=F6.binds (ps:=ED) λ_ _ _ _ _ _ us hl=>by obtain ⟨_,_,rfl⟩:=Pu.M3 hl;rfl
 have m6:=Hd.zu X G "number_of" (.ref 88) (by kernel_rfl);have F7:=Hd.zx (K:=Kf w.params) "is_word" JW 95 (.str "bankwalk.dealings" 265) (.ref 94) (by kernel_rfl) (by kernel_rfl) (by kernel_rfl);have b7:=F7.binds (ps:=C0) λ_ _ _ _ _ _ us hl=>by obtain ⟨_,_,rfl⟩:=Pu.M3 hl;rfl
 have m7:=Hd.zu X G "is_word" (.ref 95) (by kernel_rfl);have F8:=Hd.zx (K:=Kf w.params) "odd_in_common" zY 102 (.str "bankwalk.dealings" 265) (.ref 101) (by kernel_rfl) (by kernel_rfl) (by kernel_rfl);have b8:=F8.binds (ps:=ZU) λ_ _ _ _ _ _ us hl=>by obtain ⟨_,_,rfl⟩:=Pu.M3 hl;rfl
 have m8:=Hd.zu X G "odd_in_common" (.ref 102) (by kernel_rfl);have F9:=Hd.zx (K:=Kf w.params) "bits_bank" QG 107 (.str "bankwalk.dealings" 265) (.ref 106) (by kernel_rfl) (by kernel_rfl) (by kernel_rfl);have b9:=F9.binds (ps:=EJ) λ_ _ _ _ _ _ us hl=>by obtain ⟨_,_,rfl⟩:=Pu.M3 hl;rfl
 have m9:=Hd.zu X G "bits_bank" (.ref 107) (by kernel_rfl);have F10:=Hd.zx (K:=Kf w.params) "parted" VM 114 (.str "bankwalk.dealings" 265) (.ref 113) (by kernel_rfl) (by kernel_rfl) (by kernel_rfl);have b10:=F10.binds (ps:=T2) λ_ _ _ _ _ _ us hl=>by obtain ⟨_,_,_,rfl⟩:=Pu.qbF hl;rfl
 have m10:=Hd.zu X G "parted" (.ref 114) (by kernel_rfl);have F11:=Hd.zx (K:=Kf w.params) "joined_bank" jB 121 (.str "bankwalk.dealings" 265) (.ref 120) (by kernel_rfl) (by kernel_rfl) (by kernel_rfl);have b11:=F11.binds (ps:=YB) λ_ _ _ _ _ _ us hl=>by obtain ⟨_,_,_,rfl⟩:=Pu.qbF hl;rfl
 have m11:=Hd.zu X G "joined_bank" (.ref 121) (by kernel_rfl);have F12:=Hd.zx (K:=Kf w.params) "bank_in" JI 128 (.str "bankwalk.dealings" 265) (.ref 127) (by kernel_rfl) (by kernel_rfl) (by kernel_rfl);have b12:=F12.binds (ps:=CO) λ_ _ _ _ _ _ us hl=>by obtain ⟨_,_,rfl⟩:=Pu.M3 hl;rfl
 have m12:=Hd.zu X G "bank_in" (.ref 128) (by kernel_rfl);have F13:=Hd.zx (K:=Kf w.params) "strung" VU 138 (.str "bankwalk.walks" 353) (.ref 137) (by kernel_rfl) (by kernel_rfl) (by kernel_rfl);have b13:=F13.binds (ps:=TX) λ_ _ _ _ _ _ us hl=>by obtain ⟨_,_,_,rfl⟩:=Pu.qbF hl;rfl
 have m13:=Hd.zu X G "strung" (.ref 138) (by kernel_rfl);have F14:=Hd.zx (K:=Kf w.params) "cells_of" Q9 143 (.str "bankwalk.walks" 353) (.ref 142) (by kernel_rfl) (by kernel_rfl) (by kernel_rfl);have b14:=F14.binds (ps:=WS) λ_ _ _ _ _ _ us hl=>by obtain ⟨_,rfl⟩:=Pu.KY hl;rfl
 have m14:=Hd.zu X G "cells_of" (.ref 143) (by kernel_rfl);have F15:=Hd.zx (K:=Kf w.params) "starts" VX 148 (.str "bankwalk.walks" 353) (.ref 147) (by kernel_rfl) (by kernel_rfl) (by kernel_rfl);have b15:=F15.binds (ps:=KB) λ_ _ _ _ _ _ us hl=>by obtain ⟨_,_,rfl⟩:=Pu.M3 hl;rfl
 have m15:=Hd.zu X G "starts" (.ref 148) (by kernel_rfl);have F16:=Hd.zx (K:=Kf w.params) "shifted" JV 153 (.str "bankwalk.walks" 353) (.ref 152) (by kernel_rfl) (by kernel_rfl) (by kernel_rfl);have b16:=F16.binds (ps:=RT) λ_ _ _ _ _ _ us hl=>by obtain ⟨_,_,rfl⟩:=Pu.M3 hl;rfl
 have m16:=Hd.zu X G "shifted" (.ref 153) (by kernel_rfl);have F17:=Hd.zx (K:=Kf w.params) "is_start" ZT 158 (.str "bankwalk.walks" 353) (.ref 157) (by kernel_rfl) (by kernel_rfl) (by kernel_rfl);have b17:=F17.binds (ps:=WJ) λ_ _ _ _ _ _ us hl=>by obtain ⟨_,_,_,rfl⟩:=Pu.qbF hl;rfl
 have m17:=Hd.zu X G "is_start" (.ref 158) (by kernel_rfl);have F18:=Hd.zx (K:=Kf w.params) "words_of" ZO 165 (.str "bankwalk.walks" 353) (.ref 164) (by kernel_rfl) (by kernel_rfl) (by kernel_rfl);have b18:=F18.binds (ps:=WZ) λ_ _ _ _ _ _ us hl=>by obtain ⟨_,_,_,rfl⟩:=Pu.qbF hl;rfl
 have m18:=Hd.zu X G "words_of" (.ref 165) (by kernel_rfl);have F19:=Hd.zx (K:=Kf w.params) "banks_from" jO 170 (.str "bankwalk.clashes" 412) (.ref 169) (by kernel_rfl) (by kernel_rfl) (by kernel_rfl);have b19:=F19.binds (ps:=V2) λ_ _ _ _ _ _ us hl=>by obtain ⟨_,_,_,rfl⟩:=Pu.qbF hl;rfl
 have m19:=Hd.zu X G "banks_from" (.ref 170) (by kernel_rfl);have F20:=Hd.zx (K:=Kf w.params) "clash" DZ 177 (.str "bankwalk.clashes" 412) (.ref 176) (by kernel_rfl) (by kernel_rfl) (by kernel_rfl);have b20:=F20.binds (ps:=qaa) λ_ _ _ _ _ _ us hl=>by obtain ⟨_,_,rfl⟩:=Pu.M3 hl;rfl
 have m20:=Hd.zu X G "clash" (.ref 177) (by kernel_rfl);have F21:=Hd.zx (K:=Kf w.params) "shows_clash" jz 184 (.str "bankwalk.clashes" 412) (.ref 183) (by kernel_rfl) (by kernel_rfl) (by kernel_rfl);have b21:=F21.binds (ps:=YH) λ_ _ _ _ _ _ us hl=>by obtain ⟨_,_,_,rfl⟩:=Pu.qbF hl;rfl
 have m21:=Hd.zu X G "shows_clash" (.ref 184) (by kernel_rfl);have F22:=Hd.zx (K:=Kf w.params) "_law_mix" JU 191 (.str "law_bankwalk_k17_clashes_shown" 442) (.ref 190) (by kernel_rfl) (by kernel_rfl) (by kernel_rfl);have b22:=F22.binds (ps:=RI) λ_ _ _ _ _ _ us hl=>by obtain ⟨_,_,rfl⟩:=Pu.M3 hl;rfl
 have m22:=Hd.zu X G "_law_mix" (.ref 191) (by kernel_rfl);have F23:=Hd.zx (K:=Kf w.params) "_law_left" ZL 198 (.str "law_bankwalk_k17_clashes_shown" 442) (.ref 197) (by kernel_rfl) (by kernel_rfl) (by kernel_rfl);have b23:=F23.binds (ps:=WO) λ_ _ _ _ _ _ us hl=>by obtain ⟨_,_,rfl⟩:=Pu.M3 hl;rfl
 have m23:=Hd.zu X G "_law_left" (.ref 198) (by kernel_rfl);have F24:=Hd.zx (K:=Kf w.params) "_law_pick" ZV 205 (.str "law_bankwalk_k17_clashes_shown" 442) (.ref 204) (by kernel_rfl) (by kernel_rfl) (by kernel_rfl);have b24:=F24.binds (ps:=WT) λ_ _ _ _ _ _ us hl=>by obtain ⟨_,_,rfl⟩:=Pu.M3 hl;rfl
 have m24:=Hd.zu X G "_law_pick" (.ref 205) (by kernel_rfl);have F25:=Hd.zx (K:=Kf w.params) "_law_sides" QU 212 (.str "law_bankwalk_k17_clashes_shown" 442) (.ref 211) (by kernel_rfl) (by kernel_rfl) (by kernel_rfl);have b25:=F25.binds (ps:=EH) λ_ _ _ _ _ _ us hl=>by obtain ⟨_,rfl⟩:=Pu.KY hl;rfl
 have m25:=Hd.zu X G "_law_sides" (.ref 212) (by kernel_rfl);have F26:=Hd.zx (K:=Kf w.params) "_law_gcd" JO 219 (.str "law_bankwalk_k17_clashes_shown" 442) (.ref 218) (by kernel_rfl) (by kernel_rfl) (by kernel_rfl);have b26:=F26.binds (ps:=RC) λ_ _ _ _ _ _ us hl=>by obtain ⟨_,_,rfl⟩:=Pu.M3 hl;rfl
 have m26:=Hd.zu X G "_law_gcd" (.ref 219) (by kernel_rfl);have F27:=Hd.zx (K:=Kf w.params) "_law_skew" ZK 226 (.str "law_bankwalk_k17_clashes_shown" 442) (.ref 225) (by kernel_rfl) (by kernel_rfl) (by kernel_rfl);have b27:=F27.binds (ps:=XA) λ_ _ _ _ _ _ us hl=>by obtain ⟨_,rfl⟩:=Pu.KY hl;rfl
 have m27:=Hd.zu X G "_law_skew" (.ref 226) (by kernel_rfl);have F28:=Hd.zx (K:=Kf w.params) "_law_rests" QH 233 (.str "law_bankwalk_k17_clashes_shown" 442) (.ref 232) (by kernel_rfl) (by kernel_rfl) (by kernel_rfl);have b28:=F28.binds (ps:=EU) λ_ _ _ _ _ _ us hl=>by obtain ⟨_,rfl⟩:=Pu.KY hl;rfl
 have m28:=Hd.zu X G "_law_rests" (.ref 233) (by kernel_rfl);have F29:=Hd.zx (K:=Kf w.params) "_law_bits" ZS 238 (.str "law_bankwalk_k17_clashes_shown" 442) (.ref 237) (by kernel_rfl) (by kernel_rfl) (by kernel_rfl);have b29:=F29.binds (ps:=W9) λ_ _ _ _ _ _ us hl=>by obtain ⟨_,_,rfl⟩:=Pu.M3 hl;rfl
 have m29:=Hd.zu X G "_law_bits" (.ref 238) (by kernel_rfl);have F30:=Hd.zx (K:=Kf w.params) "_law_table" QC 243 (.str "law_bankwalk_k17_clashes_shown" 442) (.ref 242) (by kernel_rfl) (by kernel_rfl) (by kernel_rfl);have b30:=F30.binds (ps:=ES) λ_ _ _ _ _ _ us hl=>by obtain ⟨_,rfl⟩:=Pu.KY hl;rfl
 have m30:=Hd.zu X G "_law_table" (.ref 243) (by kernel_rfl);have F31:=Hd.zx (K:=Kf w.params) "_law_small" QP 248 (.str "law_bankwalk_k17_clashes_shown" 442) (.ref 247) (by kernel_rfl) (by kernel_rfl) (by kernel_rfl);have b31:=F31.binds (ps:=U7) λ_ _ _ _ _ _ us hl=>by obtain ⟨_,rfl⟩:=Pu.KY hl;rfl
 have m31:=Hd.zu X G "_law_small" (.ref 248) (by kernel_rfl);have F32:=Hd.zx (K:=Kf w.params) "_law_dealing" jD 255 (.str "law_bankwalk_k17_clashes_shown" 442) (.ref 254) (by kernel_rfl) (by kernel_rfl) (by kernel_rfl);have b32:=F32.binds (ps:=YV) λ_ _ _ _ _ _ us hl=>by obtain ⟨_,rfl⟩:=Pu.KY hl;rfl
 have m32:=Hd.zu X G "_law_dealing" (.ref 255) (by kernel_rfl);have F33:=Hd.zx (K:=Kf w.params) "_law_size" ZE 260 (.str "law_bankwalk_k17_clashes_shown" 442) (.ref 259) (by kernel_rfl) (by kernel_rfl) (by kernel_rfl);have b33:=F33.binds (ps:=W6) λ_ _ _ _ _ _ us hl=>by obtain ⟨_,rfl⟩:=Pu.KY hl;rfl
 have m33:=Hd.zu X G "_law_size" (.ref 260) (by kernel_rfl);have F34:=Hd.zx (K:=Kf w.params) "_law_odd" JM 267 (.str "law_bankwalk_k17_clashes_shown" 442) (.ref 266) (by kernel_rfl) (by kernel_rfl) (by kernel_rfl);have b34:=F34.binds (ps:=RZ) λ_ _ _ _ _ _ us hl=>by obtain ⟨_,rfl⟩:=Pu.KY hl;rfl
 have m34:=Hd.zu X G "_law_odd" (.ref 267) (by kernel_rfl);have F35:=Hd.zx (K:=Kf w.params) "_law_bank" ZJ 272 (.str "law_bankwalk_k17_clashes_shown" 442) (.ref 271) (by kernel_rfl) (by kernel_rfl) (by kernel_rfl);have b35:=F35.binds (ps:=W1) λ_ _ _ _ _ _ us hl=>by obtain ⟨_,_,_,rfl⟩:=Pu.qbF hl;rfl
 have m35:=Hd.zu X G "_law_bank" (.ref 272) (by kernel_rfl);have F36:=Hd.zx (K:=Kf w.params) "_law_many" ZR 279 (.str "law_bankwalk_k17_clashes_shown" 442) (.ref 278) (by kernel_rfl) (by kernel_rfl) (by kernel_rfl);have b36:=F36.binds (ps:=WV) λ_ _ _ _ _ _ us hl=>by obtain ⟨_,rfl⟩:=Pu.KY hl;rfl
 have m36:=Hd.zu X G "_law_many" (.ref 279) (by kernel_rfl);have F37:=Hd.zx (K:=Kf w.params) "_law_walk" ZB 286 (.str "law_bankwalk_k17_clashes_shown" 442) (.ref 285) (by kernel_rfl) (by kernel_rfl) (by kernel_rfl);have b37:=F37.binds (ps:=WW) λ_ _ _ _ _ _ us hl=>by obtain ⟨_,rfl⟩:=Pu.KY hl;rfl
 have m37:=Hd.zu X G "_law_walk" (.ref 286) (by kernel_rfl);have F38:=Hd.zx (K:=Kf w.params) "_law_cells" QK 291 (.str "law_bankwalk_k17_clashes_shown" 442) (.ref 290) (by kernel_rfl) (by kernel_rfl) (by kernel_rfl);have b38:=F38.binds (ps:=U8) λ_ _ _ _ _ _ us hl=>by obtain ⟨_,rfl⟩:=Pu.KY hl;rfl
 have m38:=Hd.zu X G "_law_cells" (.ref 291) (by kernel_rfl);have F39:=Hd.zx (K:=Kf w.params) "_law_starts" jR 296 (.str "law_bankwalk_k17_clashes_shown" 442) (.ref 295) (by kernel_rfl) (by kernel_rfl) (by kernel_rfl);have b39:=F39.binds (ps:=V5) λ_ _ _ _ _ _ us hl=>by obtain ⟨_,_,rfl⟩:=Pu.M3 hl;rfl
 have m39:=Hd.zu X G "_law_starts" (.ref 296) (by kernel_rfl);have F40:=Hd.zx (K:=Kf w.params) "_law_from" ZM 301 (.str "law_bankwalk_k17_clashes_shown" 442) (.ref 300) (by kernel_rfl) (by kernel_rfl) (by kernel_rfl);have b40:=F40.binds (ps:=W7) λ_ _ _ _ _ _ us hl=>by obtain ⟨_,_,_,rfl⟩:=Pu.qbF hl;rfl
 have m40:=Hd.zu X G "_law_from" (.ref 301) (by kernel_rfl);have F41:=Hd.zx (K:=Kf w.params) "_law_alike" QF 306 (.str "law_bankwalk_k17_clashes_shown" 442) (.ref 305) (by kernel_rfl) (by kernel_rfl) (by kernel_rfl);have b41:=F41.binds (ps:=EM) λ_ _ _ _ _ _ us hl=>by obtain ⟨_,rfl⟩:=Pu.KY hl;rfl
 have m41:=Hd.zu X G "_law_alike" (.ref 306) (by kernel_rfl);have F42:=Hd.zx (K:=Kf w.params) "_law_asked" QN 311 (.str "law_bankwalk_k17_clashes_shown" 442) (.ref 310) (by kernel_rfl) (by kernel_rfl) (by kernel_rfl);have b42:=F42.binds (ps:=EQ) λ_ _ _ _ _ _ us hl=>by obtain ⟨_,_,_,_,rfl⟩:=Pu.qqN hl;rfl
 have m42:=Hd.zu X G "_law_asked" (.ref 311) (by kernel_rfl);have F43:=Hd.zx (K:=Kf w.params) "law" VQ 318 (.str "law_bankwalk_k17_clashes_shown" 442) (.ref 317) (by kernel_rfl) (by kernel_rfl) (by kernel_rfl);have g_isinstance:=Hd.WB X G "isinstance" (by kernel_rfl);have g_bool:=Hd.WB X G "bool" (by kernel_rfl);have g_int:=Hd.WB X G "int" (by kernel_rfl);have g_len:=Hd.WB X G "len" (by kernel_rfl);have g_tuple:=Hd.WB X G "tuple" (by kernel_rfl);have g_range:=Hd.WB X G "range" (by kernel_rfl);have g_enumerate:=Hd.WB X G "enumerate" (by kernel_rfl);have g_sum:=Hd.WB X G "sum" (by kernel_rfl);have g_list:=Hd.WB X G "list" (by kernel_rfl);have g_STRIDES:Tb (Kf w.params) mg w "STRIDES" DG:=⟨129,_,4,Hd.zu X G "STRIDES" (.ref 129) (by kernel_rfl),(show (Kf w.params).lookup 129=some ⟨.type "dict",none,.dict #[⟨PyData.keyHash w.params "row",.str "row" 355,.ref 130⟩,⟨PyData.keyHash w.params "column",.str "column" 358,.ref 131⟩,⟨PyData.keyHash w.params "slant",.str "slant" 361,.ref 132⟩,⟨PyData.keyHash w.params "back",.str "back" 364,.ref 133⟩] 4,#[]⟩ by kernel_rfl),rfl,(.cons (v:=.ref 130) rfl (qaH (show (Kf w.params).lookup 130=some ⟨.type "tuple",none,.seq #[.int (0) 356,.int (1) 357] 0,#[]⟩ by kernel_rfl)) (.cons (v:=.ref 131) rfl (qaH (show (Kf w.params).lookup 131=some ⟨.type "tuple",none,.seq #[.int (1) 359,.int (0) 360] 0,#[]⟩ by kernel_rfl)) (.cons (v:=.ref 132) rfl (qaH (show (Kf w.params).lookup 132=some ⟨.type "tuple",none,.seq #[.int (1) 362,.int (1) 363] 0,#[]⟩ by kernel_rfl)) (.cons (v:=.ref 133) rfl (qaH (show (Kf w.params).lookup 133=some ⟨.type "tuple",none,.seq #[.int (1) 365,.int (-1) 367] 0,#[]⟩ by kernel_rfl)) .nil))))⟩
 have g_min:=Hd.WB X G "min" (by kernel_rfl);have g_max:=Hd.WB X G "max" (by kernel_rfl);have g_all:=Hd.WB X G "all" (by kernel_rfl);have g_abs:=Hd.WB X G "abs" (by kernel_rfl);have g_zip:=Hd.WB X G "zip" (by kernel_rfl);refine ⟨PySem.W.fnOf "law" "law" (Y0 VQ) (jM VQ) (qk VQ) .none .none .none (.str "law_bankwalk_k17_clashes_shown" 442) none (.ref 317) .none,λs v=>.of_eq rfl,λbase _ _=>?_⟩;have O_is_number:=LZ (P:=l.prog) (w:=w) (base:=base) (k:=0) F0 b0 m0  g_isinstance g_bool g_int LL;have O_is_pair:=qa7 (P:=l.prog) (w:=w) (base:=base) (k:=1) F1 b1 m1 O_is_number g_len g_isinstance g_tuple qbc;have O_is_number_below:=E9 (P:=l.prog) (w:=w) (base:=base) (k:=1) F2 b2 m2 O_is_number  DI;have O_first_alike:=R8 (P:=l.prog) (w:=w) (base:=base) (k:=0) F3 b3 m3  g_len g_range Pv.SA;have O_are_alike:=LP (P:=l.prog) (w:=w) (base:=base) (k:=2) F4 b4 m4 O_is_number_below g_len MO;have O_odd_in_common:=XV (P:=l.prog) (w:=w) (base:=base) (k:=0) F8 b8 m8   X0;have O_bits_bank:=K0 (P:=l.prog) (w:=w) (base:=base) (k:=1) F9 b9 m9 O_odd_in_common g_enumerate g_sum LD;have O_parted:=qb4 (P:=l.prog) (w:=w) (base:=base) (k:=0) F10 b10 m10   qdc;have O_strung:=qc7 (P:=l.prog) (w:=w) (base:=base) (k:=0) F13 b13 m13  g_range Pv.qcb;have O_cells_of:=qab (P:=l.prog) (w:=w) (base:=base) (k:=1) F14 b14 m14 O_strung g_list g_range g_STRIDES Pv.NM;have O_shifted:=qa8 (P:=l.prog) (w:=w) (base:=base) (k:=2) F16 b16 m16 O_cells_of  qbs;have O_law_mix:=qa5 (P:=l.prog) (w:=w) (base:=base) (k:=0) F22 b22 m22   qbu;have O_law_left:=N4 (P:=l.prog) (w:=w) (base:=base) (k:=0) F23 b23 m23  g_len g_abs NZ;have O_law_pick:=M9 (P:=l.prog) (w:=w) (base:=base) (k:=1) F24 b24 m24 O_law_mix  NC;have O_law_sides:=LQ (P:=l.prog) (w:=w) (base:=base) (k:=2) F25 b25 m25 O_law_pick  MQ;have O_law_gcd:=qbt (P:=l.prog) (w:=w) (base:=base) (k:=0) F26 b26 m26   qa3;have O_law_skew:=NA (P:=l.prog) (w:=w) (base:=base) (k:=3) F27 b27 m27 O_law_sides (O_law_pick.mono (by decide))  M7;have O_law_rests:=LK (P:=l.prog) (w:=w) (base:=base) (k:=3) F28 b28 m28 O_law_sides (O_law_pick.mono (by decide)) (O_law_gcd.mono (by decide)) g_range LC;have O_law_bits:=qad (P:=l.prog) (w:=w) (base:=base) (k:=2) F29 b29 m29 O_law_pick g_range g_tuple N6;have O_law_table:=ML (P:=l.prog) (w:=w) (base:=base) (k:=3) F30 b30 m30 O_law_sides (O_law_pick.mono (by decide)) g_range g_tuple K5;have O_law_small:=K7 (P:=l.prog) (w:=w) (base:=base) (k:=2) F31 b31 m31 O_law_pick (O_law_gcd.mono (by decide)) g_range g_tuple LM;have O_law_dealing:=R6 (P:=l.prog) (w:=w) (base:=base) (k:=4) F32 b32 m32 (O_law_pick.mono (by decide)) O_law_skew O_law_rests (O_law_bits.mono (by decide)) O_law_table (O_law_small.mono (by decide))  R7;have O_law_odd:=qa6 (P:=l.prog) (w:=w) (base:=base) (k:=0) F34 b34 m34  g_range qbz;have O_law_many:=M8 (P:=l.prog) (w:=w) (base:=base) (k:=2) F36 b36 m36 O_law_pick  NL;have O_law_walk:=N2 (P:=l.prog) (w:=w) (base:=base) (k:=3) F37 b37 m37 (O_law_pick.mono (by decide)) O_law_many g_int g_range g_tuple NK;have O_law_cells:=MH (P:=l.prog) (w:=w) (base:=base) (k:=0) F38 b38 m38  g_list g_range MF;have O_law_alike:=LF (P:=l.prog) (w:=w) (base:=base) (k:=0) F41 b41 m41  g_len g_range MM;have O_size_of_0:=CA (P:=l.prog) (w:=w) (base:=base) F5 b5 m5;have O_size_of_1:=WY (P:=l.prog) (w:=w) (base:=base) (k:=0) F5 b5 m5 O_size_of_0 g_len (W8 0);have O_size_of_2:=WY (P:=l.prog) (w:=w) (base:=base) (k:=1) F5 b5 m5 O_size_of_1 g_len (W8 1);have O_size_of_3:=WY (P:=l.prog) (w:=w) (base:=base) (k:=2) F5 b5 m5 O_size_of_2 g_len (W8 2);have O_is_word:=qbh (P:=l.prog) (w:=w) (base:=base) (k:=3) F7 b7 m7 (O_is_pair.mono (by decide)) O_size_of_3  qbw;have O_starts:=qcL (P:=l.prog) (w:=w) (base:=base) (k:=3) F15 b15 m15 O_size_of_3 (O_cells_of.mono (by decide)) g_min g_max g_range qcD;have O_is_start:=NW (P:=l.prog) (w:=w) (base:=base) (k:=4) F17 b17 m17 (O_shifted.mono (by decide)) O_is_word (O_is_pair.mono (by decide)) g_all qaf;have O_words_of:=N8 (P:=l.prog) (w:=w) (base:=base) (k:=5) F18 b18 m18 O_is_start (O_shifted.mono (by decide))  NG;have O_number_of_0:=VZ (P:=l.prog) (w:=w) (base:=base) (k:=1) F6 b6 m6 O_size_of_1  (VY 0);have O_number_of_1:=VZ (P:=l.prog) (w:=w) (base:=base) (k:=2) F6 b6 m6 O_size_of_2  (VY 1);have O_number_of_2:=VZ (P:=l.prog) (w:=w) (base:=base) (k:=3) F6 b6 m6 O_size_of_3  (VY 2);have O_bank_in_0:=CA (P:=l.prog) (w:=w) (base:=base) F12 b12 m12;have O_joined_bank_0:=Z9 (P:=l.prog) (w:=w) (base:=base) (k:=1) F11 b11 m11 O_size_of_1 O_parted (O_bank_in_0.mono (by decide))  (JE 0);have O_bank_in_1:=WP (P:=l.prog) (w:=w) (base:=base) (k:=2) F12 b12 m12 O_number_of_0 O_bits_bank O_joined_bank_0  (XB 0);have O_joined_bank_1:=Z9 (P:=l.prog) (w:=w) (base:=base) (k:=3) F11 b11 m11 (O_size_of_2.mono (by decide)) (O_parted.mono (by decide)) O_bank_in_1  (JE 1);have O_bank_in_2:=WP (P:=l.prog) (w:=w) (base:=base) (k:=4) F12 b12 m12 (O_number_of_1.mono (by decide)) (O_bits_bank.mono (by decide)) O_joined_bank_1  (XB 1);have O_joined_bank_2:=Z9 (P:=l.prog) (w:=w) (base:=base) (k:=5) F11 b11 m11 (O_size_of_3.mono (by decide)) (O_parted.mono (by decide)) O_bank_in_2  (JE 2);have O_bank_in_3:=WP (P:=l.prog) (w:=w) (base:=base) (k:=6) F12 b12 m12 (O_number_of_2.mono (by decide)) (O_bits_bank.mono (by decide)) O_joined_bank_2  (XB 2);have O_banks_from:=T3 (P:=l.prog) (w:=w) (base:=base) (k:=7) F19 b19 m19 (O_words_of.mono (by decide)) O_bank_in_3  TQ;have O_clash:=qdL (P:=l.prog) (w:=w) (base:=base) (k:=8) F20 b20 m20 (O_starts.mono (by decide)) O_banks_from (O_first_alike.mono (by decide))  qey;have O_shows_clash:=SF (P:=l.prog) (w:=w) (base:=base) (k:=8) F21 b21 m21 O_banks_from (O_are_alike.mono (by decide)) (O_is_start.mono (by decide)) g_len g_isinstance g_tuple SG;have O_law_size_0:=CA (P:=l.prog) (w:=w) (base:=base) F33 b33 m33;have O_law_size_1:=EV (P:=l.prog) (w:=w) (base:=base) (k:=0) F33 b33 m33 O_law_size_0 g_len g_zip g_tuple (K17.EG 0);have O_law_size_2:=EV (P:=l.prog) (w:=w) (base:=base) (k:=1) F33 b33 m33 O_law_size_1 g_len g_zip g_tuple (K17.EG 1);have O_law_size_3:=EV (P:=l.prog) (w:=w) (base:=base) (k:=2) F33 b33 m33 O_law_size_2 g_len g_zip g_tuple (K17.EG 2);have O_law_starts:=TZ (P:=l.prog) (w:=w) (base:=base) (k:=3) F39 b39 m39 O_law_size_3 (O_law_cells.mono (by decide)) g_min g_max g_range KS;have O_law_bank_0:=CA (P:=l.prog) (w:=w) (base:=base) F35 b35 m35;have O_law_bank_1:=EO (P:=l.prog) (w:=w) (base:=base) (k:=1) F35 b35 m35 O_law_size_1 O_law_odd (O_law_bank_0.mono (by decide)) g_enumerate g_sum (EI 0);have O_law_bank_2:=EO (P:=l.prog) (w:=w) (base:=base) (k:=2) F35 b35 m35 O_law_size_2 (O_law_odd.mono (by decide)) O_law_bank_1 g_enumerate g_sum (EI 1);have O_law_bank_3:=EO (P:=l.prog) (w:=w) (base:=base) (k:=3) F35 b35 m35 O_law_size_3 (O_law_odd.mono (by decide)) O_law_bank_2 g_enumerate g_sum (EI 2);have O_law_from:=NF (P:=l.prog) (w:=w) (base:=base) (k:=4) F40 b40 m40 (O_law_cells.mono (by decide)) O_law_bank_3  NR;have O_law_asked:=MJ (P:=l.prog) (w:=w) (base:=base) (k:=5) F42 b42 m42 O_law_from (O_law_pick.mono (by decide)) (O_law_alike.mono (by decide)) g_len MK;exact qjF (k:=9) F43 (O_law_left.mono (by decide)) (O_law_dealing.mono (by decide)) (O_law_walk.mono (by decide)) (O_law_starts.mono (by decide)) (O_law_pick.mono (by decide)) (O_law_asked.mono (by decide)) O_shows_clash O_clash g_len g_min g_range g_int g_isinstance g_bool (qk4 qmW)
set_option maxRecDepth 100000 in
set_option maxHeartbeats 0 in
def qld (w : World) (os : OsState) : PySem.W.topRun treeTable PySem.Challenge.pw_bankwalk_k17_clashes_shown w 11 (some (Value.ref 6)) 2 (⟨qhE w.params,319,{ },#[],{ },634,os⟩ : PySem.W.SharedT).abs (PySem.W.restOf [] qjq TB ⟨276,0,293,15⟩ qku) = some ⟨qiH w.params,#[],{ },634,os⟩ := by kernel_rfl
def qoC:(qfi++(qgX++[]))=qc8:=by kernel_rfl
set_option maxRecDepth 100000 in
set_option maxHeartbeats 0 in
def qiz (w : World) (os : OsState) : PySem.W.topRun treeTable PySem.Challenge.pw_bankwalk_k17_clashes_shown w 11 (some (Value.ref 6)) (12 + (1 + (933 + (926 + 2)))) ⟨PySem.W.boot_heap w.params,Array.mk [],PySem.W.boot_drawn,PySem.W.boot_toks,os⟩ (PySem.W.topStub PySem.Challenge.pw_bankwalk_k17_clashes_shown) = some ⟨qiH w.params,#[],{ },634,os⟩ := by
 have h:=(PySem.W.piece_app (PySem.W.segRun_of (qnC w os)) (PySem.W.piece_app (PySem.W.segRun_of (qnm w os)) (qld w os)))
 rw [qoC] at h;exact PySem.W.go_top (qkX w os) (PySem.W.piece_block (qkf w os) h)
abbrev Q : Program := PySem.W.view PySem.Challenge.pw_bankwalk_k17_clashes_shown [1,2,3,4,5,7,8,10,11,12,13,14,15,16,17,19,20,21,22,23,24,25,27,28,29,31,32,33,34,35,36,37,38,39,40,41,42,43,44,45,46,47,48,49,50,51,52]
set_option maxRecDepth 100000 in
set_option maxHeartbeats 0 in
def left : PySem.W.LeftO PySem.Challenge.pw_bankwalk_k17_clashes_shown Q ["STRIDES"] (λs=>PySem.W.xlAt Q [] s&&PySem.W.recOk [] s) (λs=>([3,20,21,27,28,34,35,41,42,48,49,80,81,87,88,94,95,101,102,106,107,113,114,120,121,127,128,129,130,131,132,133,137,138,142,143,147,148,152,153,157,158,164,165,169,170,176,177,183,184,190,191,197,198,204,205,211,212,218,219,225,226,232,233,237,238,242,243,247,248,254,255,259,260,266,267,271,272,278,279,285,286,290,291,295,296,300,301,305,306,310,311,317,318]:List Addr).map s.heap.get?) (λw=>(Kf w.params).map λp=>some p.2) 3840:=
 PySem.W.LeftO.of_pieces (H₀:=PySem.W.boot_heap) (H₁:=qiH) (gs₀:=Array.mk []) (gs₁:=#[]) (d₀:=PySem.W.boot_drawn) (d₁:={ }) (k₀:=PySem.W.boot_toks) (k₁:=634) (m₀:=11) (ann:=some (Value.ref 6)) (M:=(12+(1+(933+(926+2)))))
  (PySem.W.boot_open (by kernel_rfl) (by kernel_rfl) (λs=>by kernel_rfl)) (λw=>by kernel_rfl) qiz (by kernel_rfl) (λw=>by kernel_rfl)
end K17
open PySem PySem.W PyProof.Rows
set_option maxRecDepth 100000 in
set_option maxHeartbeats 0 in
theorem PySem.Challenge.cw_bankwalk_k17_clashes_shown_holds : PySem.Challenge.rw_bankwalk_k17_clashes_shown.Holds :=
 Hd.head (l := PySem.Challenge.rw_bankwalk_k17_clashes_shown) (q := K17.Q) (loose := ["STRIDES"]) (K:=K17.Kf) (as:=[3,20,21,27,28,34,35,41,42,48,49,80,81,87,88,94,95,101,102,106,107,113,114,120,121,127,128,129,130,131,132,133,137,138,142,143,147,148,152,153,157,158,164,165,169,170,176,177,183,184,190,191,197,198,204,205,211,212,218,219,225,226,232,233,237,238,242,243,247,248,254,255,259,260,266,267,271,272,278,279,285,286,290,291,295,296,300,301,305,306,310,311,317,318]) (N:=3840) (k:=10) (x:="_law_script")
  (d:=⟨"law",L2.Y0 K17.VQ,L2.jM K17.VQ,L2.qk K17.VQ,⟨276,0,293,15⟩⟩) (λ_=>by kernel_rfl) (by kernel_rfl) K17.left (by kernel_rfl) (by kernel_rfl) (by kernel_rfl) (by kernel_rfl) (by kernel_rfl)
  ⟨rfl,rfl,rfl,rfl,rfl,by decide +kernel⟩ (by w_witness2) rfl (by kernel_rfl) ⟨rfl,by decide,by decide,rfl⟩ (λw=>by kernel_rfl) λw mg fa h KX G hmg=>K17.qny KX G hmg
