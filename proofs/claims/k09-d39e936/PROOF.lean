import PyProof.Rows.All
import Wide.All
import OpenK.AllK
import Wide.FinOn
import Lean
import PyProof.EqAt
import PyProof.EqKinds
import PyProof.TupleCall
import PyProof.NeKinds
import KE.KRevSl
import PyProof.FactsAll.bool_2
import PyProof.Rows.EqBoolInt
import PyProof.Rows.IntBool
import PySem.Challenge.RW_bankwalk_k09_whole_dealings_spoilt_anywh
-- CHANGE: your row's module here,as the last of these rows
set_option Elab.async false
set_option genSizeOf false
set_option genInjectivity false
noncomputable section
abbrev Frg:=PySem.W.Frag
open List (getElem_cons_zero length_cons getElem?_cons_succ getElem_cons_succ getElem?_cons_zero length_nil set_cons_zero set_cons_succ length_map not_mem_nil mem_append_right map_cons mem_cons getElem?_set getElem?_map cons_append size_toArray getElem?_eq_getElem map_map mem_of_getElem? mem_map length_append getD_eq_getElem?_getD mem_range length_range)
def obb{α β:Type _}{o:Option α}{f:α->Option β}{b:β}(h:o.bind f=some b):∃a,o=some a/\f a=some b:=Option.bind_eq_some_iff.mp h
set_option linter.all false
set_option maxRecDepth 100000
namespace L2
open PySem PySem.Spec PyProof.Rows
abbrev Key:=Sum Int Str
def qkZ:Key->Value->Bool
 |.inl k,v=>Value.isInt k v
 |.inr x,v=>Value.isStrOf x v
def qoR (w:World):Key->Int
 |.inl k=>hashInt k
 |.inr x=>hashStr w x
def z9:∀ {k:Key} {v:Value},qkZ k v=true->(∃ i t,k=Sum.inl i/\v=Value.int i t)\/(∃ x t,k=Sum.inr x/\v=Value.str x t)
 |.inl i,v,h=>by
  obtain ⟨t,e⟩:=Value.isInt_shape (k:=i) (v:=v) h;exact .inl ⟨i,t,rfl,e⟩
 |.inr x,v,h=>by
  obtain ⟨t,e⟩:=Value.isStrOf_shape (x:=x) (v:=v) h;exact .inr ⟨x,t,rfl,e⟩
def qh2 (a b:Int):decide ((Sum.inl a:Key)=Sum.inl b)=(a==b):=by
 by_cases e:a=b
 ·subst e;simp
 ·have h:¬ (Sum.inl a:Key)=Sum.inl b:=λq=>e (Sum.inl.inj q);rw [decide_eq_false h];exact (beq_eq_false_iff_ne.mpr e).symm
def qla (a b:Str):decide ((Sum.inr a:Key)=Sum.inr b)=decide (a=b):=by
 by_cases e:a=b
 ·subst e;simp
 ·have h:¬ (Sum.inr a:Key)=Sum.inr b:=λq=>e (Sum.inr.inj q);rw [decide_eq_false h,decide_eq_false e]
def qhe (a:Int) (b:Str):decide ((Sum.inl a:Key)=Sum.inr b)=false:=decide_eq_false (λq=>nomatch q)
def qk9 (a:Str) (b:Int):decide ((Sum.inr a:Key)=Sum.inl b)=false:=decide_eq_false (λq=>nomatch q)
def qac (prog:Program) (w:World):PySem.KeyKind prog w Key where
 is:=qkZ
 hash:=qoR w
 inj:=λv a b ha hb=>by
  rcases z9 ha with ⟨i,t,rfl,rfl⟩|⟨x,t,rfl,rfl⟩
  ·rcases z9 hb with ⟨j,u,rfl,e⟩|⟨y,u,rfl,e⟩
   ·injection e with e1 _;rw [e1]
   ·exact nomatch e
  ·rcases z9 hb with ⟨j,u,rfl,e⟩|⟨y,u,rfl,e⟩
   ·exact nomatch e
   ·injection e with e1 _;rw [e1]
 byValue:=λk v h=>by
  rcases z9 h with ⟨i,t,rfl,rfl⟩|⟨x,t,rfl,rfl⟩<;>rfl
 pyHash:=λhv h=>by
  rcases z9 hv with ⟨i,t,rfl,rfl⟩|⟨x,t,rfl,rfl⟩
  ·exact wpAny_pyHash_int h
  ·exact wpAny_pyHash_str h
 eqBool:=λhu hv h=>by
  rcases z9 hu with ⟨i,t,rfl,rfl⟩|⟨x,t,rfl,rfl⟩
  ·rcases z9 hv with ⟨j,u,rfl,rfl⟩|⟨y,u,rfl,rfl⟩
   ·rw [qh2] at h;exact wpAny_eqBool_int h
   ·rw [qhe] at h;exact SeqAt.EqAt.int_str i t y u _ _ _ _ h
  ·rcases z9 hv with ⟨j,u,rfl,rfl⟩|⟨y,u,rfl,rfl⟩
   ·rw [qk9] at h;exact SeqAt.EqAt.str_int x t j u _ _ _ _ h
   ·rw [qla] at h;exact wpAny_eqBool_str h
 «strs»:=λk x t v h=>by
  rcases z9 h with ⟨i,u,rfl,e⟩|⟨y,u,rfl,e⟩
  ·exact nomatch e
  ·injection e with e1 _;subst e1;cases v<;>rfl
set_option genInjectivity true in
inductive V where
 |non|bl (b:Bool)|int (i:Int)|str (x:Str)|byt (b:Array UInt8)|flt (b:UInt64)|ref (a:Addr)|ty (n:String)
 deriving DecidableEq
def QJ:V->Value->Prop
 |.non,u=>u=Value.none
 |.bl b,u=>u=Value.bool b
 |.int i,u=>∃ t,u=Value.int i t
 |.str x,u=>∃ t,u=Value.str x t
 |.byt b,u=>∃ t,u=Value.bytes b t
 |.flt b,u=>∃ t,u=Value.float b t
 |.ref a,u=>u=Value.ref a
 |.ty n,u=>u=Value.type n
abbrev jx:List V->List Value->Prop:=Paired QJ
def jx.length {xs:List V} {us:List Value} (r:jx xs us):xs.length=us.length:=Paired.length r
def jx.get:∀ {xs:List V} {us:List Value} {i:Nat} {x:V},jx xs us->xs[i]?=some x->∃ u,us[i]?=some u/\QJ x u
 |_,_,_,_,.nil,e=>by simp at e
 |_,_,0,_,.cons r _,e=>by simp at e;subst e;exact ⟨_,rfl,r⟩
 |_,_,i+1,x,.cons _ t,e=>by
  obtain ⟨u,h1,h2⟩:=jx.get (i:=i) (x:=x) t (by simpa using e);exact ⟨u,by simpa using h1,h2⟩
def jx.set {x:V} {u:Value} (r:QJ x u):∀ {xs:List V} {us:List Value} (i:Nat),jx xs us->jx (xs.set i x) (us.set i u)
 |_,_,_,.nil=>.nil
 |_,_,0,.cons _ t=>.cons r t
 |_,_,i+1,.cons q t=>.cons q (jx.set r i t)
def jx.append:∀ {xs ys:List V} {us ws:List Value},jx xs us->jx ys ws->jx (xs++ys) (us++ws)
 |_,_,_,_,.nil,s=>s
 |_,_,_,_,.cons r t,s=>.cons r (jx.append t s)
def jx.take:∀ {xs:List V} {us:List Value} (n:Nat),jx xs us->jx (xs.take n) (us.take n)
 |_,_,0,_=>.nil
 |_,_,_+1,.nil=>.nil
 |_,_,n+1,.cons r t=>.cons r (jx.take n t)
def jx.drop:∀ {xs:List V} {us:List Value} (n:Nat),jx xs us->jx (xs.drop n) (us.drop n)
 |_,_,0,r=>r
 |_,_,_+1,.nil=>.nil
 |_,_,n+1,.cons _ t=>jx.drop n t
def qn3:Option V->Option Value->Prop
 |some v,some u=>QJ v u
 |none,none=>True
 |_,_=>False
def KV {κ:Type}:List (κ×V)->List (κ×Value)->Prop:=Paired λ(p:κ×V) (q:κ×Value)=>p.1=q.1/\QJ p.2 q.2
def kV:Key->V
 |.inl i=>.int i
 |.inr x=>.str x
inductive HO where
 /-- a list -/
 |lst (xs:List V)
 /-- a tuple (never changes) -/
 |tup (xs:List V)
 /-- a dict whose keys are ints and texts;one whose keys are tuples of ints and texts (the empty one is both) -/
 |dK (kvs:List (Key×V))|dT (kvs:List (List Key×V))
 /-- a set of ints: its members,its size -/
 |set (S:Int->Bool) (n:Nat)
 /-- an instance of the class at C,its dict at dx,its attributes -/
 |ins (C dx:Addr) (fs:List (Str×V))
 /-- the dict of the instance at x -/
 |own (x:Addr)
 /-- the dict of an exception -/
 |xd (fs:List (Str×V))
 /-- a bound method,f of x -/
 |met (f x:Addr)
 /-- a range object lo,lo+1,.. below hi -/
 |rng (lo hi:Int)
 /-- a thing that is known to the object (the script;a dict while a loop walks it): read,never written while it is so -/
 |frz (o:Obj) (u:HO)
 /-- a code object's table -/
 |tbl (ps:Array Value)
 /-- any other thing,by what is true of its one object (a def of one's own: SetO a S n:=HO.ext λh=>..) -/
 |ext (φ:Heap->Prop)
abbrev Hp:=Addr->Option HO
def upd (H:Hp) (a:Addr) (o:HO):Hp:=λb=>if b=a then some o else H b
def zK {H:Hp} {a:Addr} {o:HO}:upd H a o a=some o:=by unfold upd;rw [if_pos rfl]
def zp {H:Hp} {a b:Addr} {o:HO} (h:b≠a):upd H a o b=H b:=by unfold upd;rw [if_neg h]
def qU {H:Hp} {a b:Addr} {o:HO} (h:H a=some o) (h':H b=none):a≠b:=by
 intro e;subst e;rw [h] at h';cases h'
section
variable (P:Program) (w:World)
def UX (H:Hp) (h:Heap) (a:Addr):HO->Prop
 |.lst xs=>xs.length<=sizeLine/\∃ (its:List Value) (n:Nat),jx xs its/\h.get? a=some { cls:=.type "list",data:=.seq its.toArray n }
 |.tup xs=>xs.length<=sizeLine/\∃ its:List Value,jx xs its/\IsTup h a its.toArray
 |.dK kvs=>kvs.length<=sizeLine/\(a==sysModules)=false/\∃ vs,KV kvs vs/\h.DictOf (qac P w) a vs
 |.dT kvs=>kvs.length<=sizeLine/\(a==sysModules)=false/\∃ xs:List (List Key×Addr×Value),
   Paired (λ(p:List Key×V) (q:List Key×Addr×Value)=>p.1=q.1/\H q.2.1=some (.tup (p.1.map kV))/\QJ p.2 q.2.2) kvs xs /\
   ∃ o es ep,h.get? a=some o/\o.ExactDict/\o.data=.dict es ep/\es.toList=xs.map (entryOfKey (tupleKind (qac P w)))/\(xs.map (·.1)).Nodup
 |.set S n=>h.SetOf (intKind P w) a S n
 |.ins C dx fs=>H dx=some (.own a)/\fs.length<=1000/\dx≠a/\h.get? a=some (PySem.W.instObj C dx) /\
   ∃ mA,h.Ns1 dx mA/\(∀ f,qn3 (fs.lookup f) (mA f))/\PySem.Within mA (fs.map (·.1))
 |.own _=>∃ o,h.get? a=some o
 |.xd fs=>∃ mA,h.Ns1 a mA/\∀ f,qn3 (fs.lookup f) (mA f)
 |.rng lo hi=>∃ t u v,h.get? a=some { cls:=.type "range",data:=.fields #[.int lo t,.int hi u,.int 1 v] }
 |.frz o u=>h.get? a=some o/\UX H h a u
 |.tbl ps=>h.get? a=some { cls:=.none,data:=.fields ps }
 |.met f x=>h.get? a=some (PySem.W.methodObj (.ref f) (.ref x))
 |.ext φ=>φ h/\(∃ o,h.get? a=some o)/\∀ h1 h2:Heap,φ h1->(∀ o,h1.get? a=some o->h2.get? a=some o)->φ h2
def HOk (H:Hp) (h:Heap):Prop:=∀ a o,H a=some o->UX P w H h a o
end
section
variable {P:Program} {w:World} {H H':Hp} {h h':Heap} {a:Addr} {o:HO}
def UX.lt (x:UX P w H h a o):a<h.objs.size:=by
 cases o with
 |lst xs=>obtain ⟨_,_,_,_,e⟩:=x;exact Heap.lt_size e
 |tup xs=>obtain ⟨_,_,_,p⟩:=x;exact p.lt
 |dK kvs=>obtain ⟨_,_,_,_,o,_,_,e,_⟩:=x;exact Heap.lt_size e
 |dT kvs=>obtain ⟨_,_,_,_,o,_,_,e,_⟩:=x;exact Heap.lt_size e
 |set S n=>obtain ⟨o,_,_,_,e,_⟩:=x;exact Heap.lt_size e
 |ins C dx fs=>obtain ⟨_,_,_,e,_⟩:=x;exact Heap.lt_size e
 |own y=>obtain ⟨_,e⟩:=x;exact Heap.lt_size e
 |xd fs=>obtain ⟨_,⟨_,_,_,e,_⟩,_⟩:=x;exact Heap.lt_size e
 |rng lo hi=>obtain ⟨_,_,_,e⟩:=x;exact Heap.lt_size e
 |frz ob u=>obtain ⟨e,_⟩:=x;exact Heap.lt_size e
 |tbl ps=>exact Heap.lt_size (show h.get? a=some _ from x)
 |met f y=>exact Heap.lt_size (show h.get? a=some _ from x)
 |ext φ=>obtain ⟨_,⟨_,e⟩,_⟩:=x;exact Heap.lt_size e
def Paired.mapP {α β:Type} {F G:α->β->Prop}:∀ {l₁:List α} {l₂:List β},Paired F l₁ l₂->(∀ a b,F a b->G a b)->Paired G l₁ l₂
 |_,_,.nil,_=>.nil
 |_,_,.cons r t,f=>.cons (f _ _ r) (Paired.mapP t f)
def UX.stay (x:UX P w H h a o) (k:∀ b u,(b=a\/H b=some (.own a))->h.get? b=some u->h'.get? b=some u)
  (ho:∀ b,H b=some (.own a)->H' b=some (.own a)) (ht:∀ b xs,H b=some (.tup xs)->H' b=some (.tup xs)):UX P w H' h' a o:=by
 induction o with
 |lst xs=>obtain ⟨z,its,n,r,e⟩:=x;exact ⟨z,its,n,r,k _ _ (.inl rfl) e⟩
 |tup xs=>obtain ⟨z,its,r,ob,e,c⟩:=x;exact ⟨z,its,r,ob,k _ _ (.inl rfl) e,c⟩
 |dK kvs=>obtain ⟨z,y,vs,r,ob,es,ep,e,c⟩:=x;exact ⟨z,y,vs,r,ob,es,ep,k _ _ (.inl rfl) e,c⟩
 |dT kvs=>
  obtain ⟨z,y,xs,r,ob,es,ep,e,c⟩:=x;exact ⟨z,y,xs,Paired.mapP r λp q z=>⟨z.1,ht _ _ z.2.1,z.2.2⟩,ob,es,ep,k _ _ (.inl rfl) e,c⟩
 |set S n=>obtain ⟨ob,es,ep,t,e,c⟩:=x;exact ⟨ob,es,ep,t,k _ _ (.inl rfl) e,c⟩
 |ins C dx fs=>
  obtain ⟨d,z,ne,e,mA,⟨od,es,ep,e2,c⟩,r⟩:=x;exact ⟨ho _ d,z,ne,k _ _ (.inl rfl) e,mA,⟨od,es,ep,k _ _ (.inr d) e2,c⟩,r⟩
 |own y=>obtain ⟨ob,e⟩:=x;exact ⟨ob,k _ _ (.inl rfl) e⟩
 |xd fs=>obtain ⟨mA,⟨od,es,ep,e,c⟩,r⟩:=x;exact ⟨mA,⟨od,es,ep,k _ _ (.inl rfl) e,c⟩,r⟩
 |rng lo hi=>obtain ⟨t,u,v,e⟩:=x;exact ⟨t,u,v,k _ _ (.inl rfl) e⟩
 |frz ob u ih=>obtain ⟨e,q⟩:=x;exact ⟨k _ _ (.inl rfl) e,ih q⟩
 |tbl ps=>
  have e:h.get? a=some { cls:=.none,data:=.fields ps }:=x;show h'.get? a=some { cls:=.none,data:=.fields ps };exact k a _ (.inl rfl) e
 |met f y=>
  have e:h.get? a=some (PySem.W.methodObj (.ref f) (.ref y)):=x;show h'.get? a=some (PySem.W.methodObj (.ref f) (.ref y));exact k a _ (.inl rfl) e
 |ext φ=>obtain ⟨p,⟨o,e⟩,st⟩:=x;exact ⟨st _ _ p λo q=>k _ _ (.inl rfl) q,⟨o,k _ _ (.inl rfl) e⟩,st⟩
def HOk.lt (x:HOk P w H h) (e:H a=some o):a<h.objs.size:=(x a o e).lt
def HOk.fresh (x:HOk P w H h) (e:h.objs.size<=a):H a=none:=by
 cases q:H a with
 |none=>rfl
 |some u=>exact absurd (Nat.lt_of_lt_of_le (x.lt q) e) (Nat.lt_irrefl _)
def HOk.kept (x:HOk P w H h) (k:∀ b u,h.get? b=some u->h'.get? b=some u):HOk P w H h':=λa o e=>
 (x a o e).stay (λb u _ q=>k b u q) (λ_ q=>q) λ_ _ q=>q
def HOk.laid (x:HOk P w H h) (k:∀ b u,h.get? b=some u->h'.get? b=some u) (hp:h.objs.size<=a) (new:UX P w (upd H a o) h' a o):HOk P w (upd H a o) h':=λb u e=>by
 have hn:=x.fresh hp;by_cases hb:b=a
 ·subst hb;rw [zK] at e;cases e;exact new
 ·rw [zp hb] at e;exact (x b u e).stay (λc v _ q=>k c v q) (λc q=>by rw [zp (qU q hn)];exact q) λc xs q=>by rw [zp (qU q hn)];exact q
end
def Rd (H:Hp) (a:Addr) (u:HO):Prop:=H a=some u\/∃ o,H a=some (.frz o u)
def Rd.ok {P:Program} {w:World} {H:Hp} {h:Heap} {a:Addr} {u:HO} (r:Rd H a u) (x:HOk P w H h):UX P w H h a u:=by
 rcases r with r|⟨o,r⟩
 ·exact x a u r
 ·obtain ⟨_,q⟩:=x a _ r;exact q
def Mut:Option HO->Prop
 |some (.lst _)=>True
 |some (.dK _)=>True
 |some (.dT _)=>True
 |some (.set _ _)=>True
 |some (.ins _ _ _)=>True
 |some (.ext _)=>True
 |_=>False
section
variable {P:Program} {w:World} {H:Hp} {h h':Heap} {x e:Addr} {o':HO}
def HOk.write (ok:HOk P w H h) (mu:Mut (H x)) (he:e=x\/H e=some (.own x)) (k:∀ b u,b≠e->h.get? b=some u->h'.get? b=some u) (heo:∃ u,h'.get? e=some u)
  (new:UX P w (upd H x o') h' x o'):HOk P w (upd H x o') h':=λb u q=>by
 have nown:∀ c y,H c=some (.own y)->c≠x:=λc y r z=>by subst z;rw [r] at mu;exact mu
 have ntup:∀ c xs,H c=some (.tup xs)->c≠x:=λc xs r z=>by subst z;rw [r] at mu;exact mu
 by_cases hb:b=x
 ·subst hb;rw [zK] at q;cases q;exact new
 ·rw [zp hb] at q;by_cases hbe:b=e
  ·have q':H b=some (.own x):=by
    rcases he with z|z
    ·exact absurd (hbe.trans z) hb
    ·rw [hbe];exact z
   rw [q] at q';cases q';obtain ⟨v,hv⟩:=heo;exact ⟨v,by rw [hbe];exact hv⟩
  ·refine (ok b u q).stay (λc v hc r=>k c v ?_ r) (λc r=>by rw [zp (nown c b r)];exact r) λc xs r=>by rw [zp (ntup c xs r)];exact r
   rcases hc with rfl|hc
   ·exact hbe
   ·rintro rfl;rcases he with z|z
    ·exact nown c b hc z
    ·rw [hc] at z;cases z;exact hb rfl
end
structure Un (fs ex:List Addr) (H H':Hp) (h h':Heap):Prop where
 keep:∀ b o,h.get? b=some o->H b=none->b∉fs->b∉ex->h'.get? b=some o
 slot:∀ b o,h.get? b=some o->H b=none->b∈fs->b∉ex->∃ sl,h'.get? b=some { o with slots:=sl }
 free:∀ b o,h.get? b=some o->H b=none->b∉ex->H' b=none
 there:∀ b o,h.get? b=some o->b∉ex->∃ o',h'.get? b=some o'
 tups:∀ b xs,H b=some (.tup xs)->H' b=some (.tup xs)
 frzs:∀ b o u,H b=some (.frz o u)->H' b=some (.frz o u)
 tbls:∀ b ps,H b=some (.tbl ps)->∃ more,H' b=some (.tbl (ps++more))
section
variable {fs fs' ex ex':List Addr} {H H1 H2:Hp} {h h1 h2 h':Heap} {a x e:Addr} {o:HO}
def Un.any (u:Un fs ex H H1 h h1) {b:Addr} {ob:Obj} (q:h.get? b=some ob) (n:H b=none) (hx:b∉ex):∃ sl,h1.get? b=some { ob with slots:=sl }:=by
 by_cases hb:b∈fs
 ·exact u.slot b ob q n hb hx
 ·exact ⟨ob.slots,u.keep b ob q n hb hx⟩
def Un.kept (k:∀ b u,h.get? b=some u->h'.get? b=some u):Un fs ex H H h h':=
 ⟨λb ob q _ _ _=>k b ob q,λb ob q _ _ _=>⟨ob.slots,k b ob q⟩,λ_ _ _ n _=>n,λb ob q _=>⟨ob,k b ob q⟩,λ_ _ q=>q,λ_ _ _ q=>q,λ_ ps q=>⟨#[],by rw [q];simp⟩⟩
def Un.refl:Un fs ex H H h h:=Un.kept λ_ _ q=>q
def Un.laid (k:∀ b u,h.get? b=some u->h'.get? b=some u) (hp:h.objs.size<=a) (hn:H a=none):Un fs ex H (upd H a o) h h' where
 keep:=λb u q _ _ _=>k b u q
 slot:=λb u q _ _ _=>⟨u.slots,k b u q⟩
 free:=λb u q n _=>by rw [zp (Nat.ne_of_lt (Nat.lt_of_lt_of_le (Heap.lt_size q) hp))];exact n
 there:=λb u q _=>⟨u,k b u q⟩
 tups:=λb xs q=>by rw [zp (qU q hn)];exact q
 frzs:=λb u xs q=>by rw [zp (qU q hn)];exact q
 tbls:=λb ps q=>⟨#[],by rw [zp (qU q hn),q];simp⟩
def Un.write (mu:Mut (H x)) (he:e=x\/H e=some (.own x)) (k:∀ b u,b≠e->h.get? b=some u->h'.get? b=some u) (heo:∃ u,h'.get? e=some u):Un fs ex H (upd H x o) h h':=by
 have hx:∀ b,H b=none->b≠x:=λb n z=>by subst z;rw [n] at mu;exact mu
 have hb:∀ b,H b=none->b≠e:=λb n z=>by
  subst z;rcases he with r|r
  ·exact hx b n r
  ·rw [n] at r;cases r
 have hm:∀ b u,H b=some u->¬ Mut (some u)->b≠x:=λb u q nm z=>by subst z;rw [q] at mu;exact nm mu
 refine ⟨λb u q n _ _=>k b u (hb b n) q,λb u q n _ _=>⟨u.slots,k b u (hb b n) q⟩,λb u q n _=>by rw [zp (hx b n)];exact n,λb u q _=>?_,
  λb xs q=>by rw [zp (hm b _ q λz=>z)];exact q,λb u xs q=>by rw [zp (hm b _ q λz=>z)];exact q,λb ps q=>⟨#[],by rw [zp (hm b _ q λz=>z),q];simp⟩⟩
 by_cases hbe:b=e
 ·subst hbe;exact heo
 ·exact ⟨u,k b u hbe q⟩
end
def trk (h:Heap) (H:Hp):List Addr:=(List.range h.objs.size).filter λa=>(H a).isSome
def qcb (h:Heap) (H:Hp):Heap:=PySem.W.hideAll h (trk h H)
def qba (h:Heap) (H:Hp):(qcb h H).objs.size=h.objs.size:=PySem.W.hideAll_size _ _
def qb8 {h:Heap} {H:Hp} {b:Addr} {o:Obj} (e:h.get? b=some o) (n:H b=none):(qcb h H).get? b=some o:=
 PySem.W.hideAll_get _ e λhm=>by
  have q:(H b).isSome=true:=(List.mem_filter.mp hm).2;rw [n] at q;simp at q
def qgb {h:Heap} {H:Hp} {b:Addr} {o:Obj} (e:(qcb h H).get? b=some o):h.get? b=some o/\H b=none:=by
 have e':h.get? b=some o:=PySem.W.of_hideAll (trk h H) e;refine ⟨e',?_⟩;cases q:H b with
 |none=>rfl
 |some x=>
  have hm:b∈trk h H:=List.mem_filter.mpr ⟨mem_range.mpr (Heap.lt_size e'),by simp [q]⟩;have z:(qcb h H).get? b=none:=PySem.W.hideAll_none (trk h H) hm;rw [z] at e;cases e
def qf0 (g h:Heap) (L:Addr):List (Addr×Obj):=(List.range h.objs.size).filterMap λa=>if a=L\/(g.get? a).isSome=true then none else (h.get? a).map λo=>(a,o)
def J0 (g h:Heap) (L d:Addr):List (Addr×Obj):=(qf0 g h L).filter λp=>decide (p.1≠d)
structure Mod (K:Frg) (mg:Str->Option Value) (base:Heap):Prop where
 kin:K.In base
 glob:base.Ns mainGlobals mg
 blt:∃ mb,base.Ns builtinsNs mb/\∀ x:Str,x≠"__name__" -> mb x=bootBuiltins x
 nolimit:base.NoLimit
structure Cx where
 prog:Program
 w:World
 K:PySem.W.Frag
 mg:Str->Option Value
 base:Heap
 A:Around
 N:List Str
 s₀:Shared
 H₀:Hp
 env:Env
 outer:List Env
 stack:List Env
 ex:List Addr
 fn:Str->Bool
 calm:Bool
 pn:List (Addr×Obj)
 xe:Value->Shared->Prop
def frs (l:List Env):List Addr:=l.filterMap (·.frame)
abbrev Cx.fs (X:Cx):List Addr:=frs X.outer
def Vis (sc:Scope) (x:Str):Prop:=sc.names.lookup x=some .local\/sc.names.lookup x=some .cell\/sc.names.lookup x=some .free
def Loc (sc:Scope) (x:Str):Prop:=sc.names.lookup x=some .local\/sc.names.lookup x=some .cell
def qpJ (env:Env) (h:Heap) (m:Str->Option Value) (x:Str) (u:Value):Prop:=
 (env.kindOf x=some .local/\m x=some u)\/((env.kindOf x=some .cell\/env.kindOf x=some .free)/\∃ c,env.cells.lookup x=some c/\h.IsCell c (some u))
structure Cx.Ok (X:Cx):Prop where
 mod:Mod X.K X.mg X.base
 kind:X.env.scope.kind=.function
 glob:X.env.globals=mainGlobals
 blt:X.env.builtins=builtinsNs
 above:X.s₀.heap.objs.size<=X.env.locals
 inj:∀ x y c,X.env.cells.lookup x=some c->X.env.cells.lookup y=some c->x=y
 has:∀ x,(X.env.kindOf x=some .cell\/X.env.kindOf x=some .free)->∃ c,X.env.cells.lookup x=some c
 cab:∀ x c,X.fn x=true->X.env.cells.lookup x=some c->X.s₀.heap.objs.size<=c
 hd:X.calm=true->X.A.handled=none
 frames:X.A.frames=some X.stack
 stk:X.stack=X.outer\/(X.stack=X.env::X.outer/\X.env.frame=some X.env.locals)
 exf:∀ b∈X.ex,b≠X.env.locals/\∀ x c,X.env.cells.lookup x=some c->c≠b
 bs:∀ b o,X.base.get? b=some o->X.s₀.heap.get? b=some o/\X.H₀ b=none
 bsz:X.base.objs.size<=X.s₀.heap.objs.size
 noex:∀ b o,X.base.get? b=some o->b∉X.ex
 exfs:∀ b∈X.ex,b∉X.fs
 funs:X.s₀.heap.FunFrames X.base X.outer
 frf:∀ b∈X.fs,X.H₀ b=none
structure Inv (X:Cx) (pins:List (Addr×Obj)) (σ:List (Option V)) (H:Hp) (s:Shared):Prop where
 ok:X.Ok
 os:s.os=X.s₀.os
 bare:AllBare s.gens
 base:Un X.fs X.ex X.H₀ H X.s₀.heap s.heap
 loc:∃ m,s.heap.Ns X.env.locals m/\∀ (i:Nat) (x:Str) (v:V),X.N[i]?=some x->σ[i]?=some (some v)->Vis X.env.scope x->∃ u,QJ v u/\qpJ X.env s.heap m x u
 cell:∀ x c,X.env.cells.lookup x=some c->∃ v,s.heap.IsCell c v
 free:H X.env.locals=none
 freeC:∀ x c,X.env.cells.lookup x=some c->H c=none
 pin:∀ p∈X.pn++pins,s.heap.get? p.1=some p.2/\H p.1=none/\p.1≠X.env.locals/\p.1∉X.fs/\∀ v,p.2.data≠.cell v
 hok:HOk X.prog X.w H s.heap
 len:σ.length=X.N.length
section
variable {X:Cx} {pins:List (Addr×Obj)} {σ:List (Option V)} {H H':Hp} {s:Shared} {h':Heap}
def Cx.Ok.nofr (ok:X.Ok) {b:Addr} {o:Obj} (e:X.base.get? b=some o):b∉X.fs:=λhb=>by
 have:=(ok.funs.mem hb).1;rw [e] at this;cases this
def Inv.bs (I:Inv X pins σ H s):∀ b o,X.base.get? b=some o->s.heap.get? b=some o/\H b=none:=λb o e=>
 ⟨I.base.keep b o (I.ok.bs b o e).1 (I.ok.bs b o e).2 (I.ok.nofr e) (I.ok.noex b o e),I.base.free b o (I.ok.bs b o e).1 (I.ok.bs b o e).2 (I.ok.noex b o e)⟩
def Inv.bk (I:Inv X pins σ H s):∀ b o,X.base.get? b=some o->s.heap.get? b=some o:=λb o e=>(I.bs b o e).1
def Inv.mod (I:Inv X pins σ H s):Mod X.K X.mg X.base:=I.ok.mod
def Inv.kIn (I:Inv X pins σ H s):X.K.In s.heap:=I.ok.mod.kin.keeps I.bk
def Inv.nolimit (I:Inv X pins σ H s):s.heap.NoLimit:=I.ok.mod.nolimit.keeps I.bk
def Inv.fr (I:Inv X pins σ H s):∃ m,Fr X.base X.env.locals s.heap m:=
 let ⟨m,hn,_⟩:=I.loc
 ⟨m,hn,I.bk,Nat.le_trans I.ok.bsz I.ok.above⟩
def Inv.lt (I:Inv X pins σ H s):X.env.locals<s.heap.objs.size:=let ⟨_,hn,_⟩:=I.loc;hn.lt
def Inv.sz (I:Inv X pins σ H s):X.s₀.heap.objs.size<=s.heap.objs.size:=Nat.le_trans I.ok.above (Nat.le_of_lt I.lt)
def Inv.nofs (I:Inv X pins σ H s) {a:Addr} (h:s.heap.objs.size<=a):a∉X.fs:=λhb=>by
 obtain ⟨_,o,ho,_⟩:=I.ok.funs.mem hb;exact absurd (Nat.lt_of_lt_of_le (Heap.lt_size ho) (Nat.le_trans I.sz h)) (Nat.lt_irrefl _)
def Inv.cne (I:Inv X pins σ H s):∀ x c,X.env.cells.lookup x=some c->c≠X.env.locals:=λx c e z=>by
 obtain ⟨v,o,ho,hd⟩:=I.cell x c e;obtain ⟨m,⟨o',es,ep,ho',hd',_⟩,_⟩:=I.loc;rw [z,ho'] at ho;cases ho;rw [hd'] at hd;cases hd
def Inv.funs (I:Inv X pins σ H s):s.heap.FunFrames X.base X.outer:=by
 have all:∀ (l:List Env),(∀ b∈frs l,b∈X.fs)->X.s₀.heap.FunFrames X.base l->s.heap.FunFrames X.base l:=by
  intro l;induction l with
  |nil=>intro _ _;trivial
  |cons env r ih=>
   intro hs hl;obtain ⟨hk,⟨L,o,hf,hn,ho,hd⟩,hr⟩:=hl;have hL:L∈X.fs:=hs L (by unfold frs;rw [List.filterMap_cons,hf];exact List.mem_cons_self);obtain ⟨sl,e⟩:=I.base.slot L o ho (I.ok.frf L hL) hL λz=>I.ok.exfs L z hL;exact ⟨hk,⟨L,_,hf,hn,e,hd⟩,ih (λb hb=>hs b (by unfold frs;rw [List.filterMap_cons,hf];exact List.mem_cons_of_mem _ hb)) hr⟩
 exact all X.outer (λ_ hb=>hb) I.ok.funs
def Inv.stack (I:Inv X pins σ H s):s.heap.FunFrames X.base X.stack:=by
 rcases I.ok.stk with e|⟨e,hf⟩
 ·rw [e];exact I.funs
 ·rw [e];obtain ⟨m,hn,_⟩:=I.loc;refine .cons (by rw [I.ok.kind];decide) hf hn ?_ I.funs;exact Heap.get?_none_of_le (Nat.le_trans I.ok.bsz I.ok.above)
def Inv.stkSub (I:Inv X pins σ H s):∀ b∈frs X.stack,b∈X.env.locals::X.fs:=λb hb=>by
 rcases I.ok.stk with e|⟨e,hf⟩
 ·rw [e] at hb;exact List.mem_cons_of_mem _ hb
 ·rw [e] at hb;unfold frs at hb;rw [List.filterMap_cons,hf] at hb;exact hb
def Inv.stkFree (I:Inv X pins σ H s):∀ b∈frs X.stack,H b=none:=λb hb=>by
 rcases mem_cons.mp (I.stkSub b hb) with e|hb
 ·rw [e];exact I.free
 ·obtain ⟨_,o,ho,_⟩:=I.ok.funs.mem hb;exact I.base.free b o ho (I.ok.frf b hb) λz=>I.ok.exfs b z hb
def Inv.step {g':Array GenState} {t':Nat} {d':Drawn} {ch:List Addr} (I:Inv X pins σ H s)
  (hch:∀ b∈ch,(b∈X.ex\/X.s₀.heap.objs.size<=b)/\b≠X.env.locals/\(∀ x c,X.env.cells.lookup x=some c->c≠b)/\∀ p∈X.pn++pins,p.1≠b)
  (keep:∀ b o,b≠X.env.locals->b∉X.fs->b∉ch->s.heap.get? b=some o->H b=none->h'.get? b=some o)
  (slot:∀ b o,b≠X.env.locals->b∈X.fs->b∉ch->s.heap.get? b=some o->H b=none->∃ sl,h'.get? b=some { o with slots:=sl }) (free:∀ b o,b∉ch->s.heap.get? b=some o->H b=none->H' b=none)
  (there:∀ b o,b∉ch->s.heap.get? b=some o->∃ o',h'.get? b=some o')
  (tups:∀ b xs,H b=some (.tup xs)->H' b=some (.tup xs)) (frzs:∀ b o u,H b=some (.frz o u)->H' b=some (.frz o u)) (tbls:∀ b ps,H b=some (.tbl ps)->∃ more,H' b=some (.tbl (ps++more)))
  (ns:∀ m,s.heap.Ns X.env.locals m->h'.Ns X.env.locals m) (hok:HOk X.prog X.w H' h') (hg:AllBare g') :
  Inv X pins σ H' { s with heap:=h',gens:=g',drawn:=d',toks:=t' }:=by
 have neL:∀ b o,X.s₀.heap.get? b=some o->b≠X.env.locals:=λb o e=>Nat.ne_of_lt (Nat.lt_of_lt_of_le (Heap.lt_size e) I.ok.above);have neC:∀ b o,X.s₀.heap.get? b=some o->b∉X.ex->b∉ch:=λb o e hx hb=>by
  rcases (hch b hb).1 with z|z
  ·exact hx z
  ·exact absurd (Nat.lt_of_lt_of_le (Heap.lt_size e) z) (Nat.lt_irrefl _)
 have cellK:∀ x c,X.env.cells.lookup x=some c->∀ v,s.heap.IsCell c v->h'.IsCell c v:=λx c e v ⟨o,ho,hd⟩=>by
  have nch:c∉ch:=λz=>(hch c z).2.2.1 x c e rfl;by_cases hc:c∈X.fs
  ·obtain ⟨sl,q⟩:=slot c o (I.cne x c e) hc nch ho (I.freeC x c e);exact ⟨_,q,hd⟩
  ·exact ⟨o,keep c o (I.cne x c e) hc nch ho (I.freeC x c e),hd⟩
 refine ⟨I.ok,I.os,hg,⟨λb o e n hb hx=>?_,λb o e n hb hx=>?_,λb o e n hx=>?_,λb o e hx=>?_,λb xs e=>tups b xs (I.base.tups b xs e),λb o xs e=>frzs b o xs (I.base.frzs b o xs e),λb ps e=>?_⟩,?_,λx c e=>?_,?_,λx c e=>?_,λp hp=>?_,hok,I.len⟩
 ·exact keep b o (neL b o e) hb (neC b o e hx) (I.base.keep b o e n hb hx) (I.base.free b o e n hx)
 ·obtain ⟨sl,e1⟩:=I.base.slot b o e n hb hx;obtain ⟨sl',e2⟩:=slot b _ (neL b o e) hb (neC b o e hx) e1 (I.base.free b o e n hx);exact ⟨sl',e2⟩
 ·obtain ⟨o',e1⟩:=I.base.there b o e hx;exact free b o' (neC b o e hx) e1 (I.base.free b o e n hx)
 ·obtain ⟨o',e1⟩:=I.base.there b o e hx;exact there b o' (neC b o e hx) e1
 ·obtain ⟨m1,e1⟩:=I.base.tbls b ps e;obtain ⟨m2,e2⟩:=tbls b _ e1;exact ⟨m1++m2,by rw [e2,Array.append_assoc]⟩
 ·obtain ⟨m,hn,hl⟩:=I.loc;refine ⟨m,ns m hn,λi x v e1 e2 e3=>?_⟩;obtain ⟨u,r,l⟩:=hl i x v e1 e2 e3;refine ⟨u,r,?_⟩;rcases l with l|⟨k,c,e,z⟩
  ·exact .inl l
  ·exact .inr ⟨k,c,e,cellK x c e _ z⟩
 ·obtain ⟨v,z⟩:=I.cell x c e;exact ⟨v,cellK x c e v z⟩
 ·obtain ⟨m,⟨o,_,_,ho,_⟩,_⟩:=I.loc;exact free _ o (λz=>(hch _ z).2.1 rfl) ho I.free
 ·obtain ⟨v,o,ho,hd⟩:=I.cell x c e;exact free c o (λz=>(hch c z).2.2.1 x c e rfl) ho (I.freeC x c e)
 ·obtain ⟨e,n,ne,nf,d⟩:=I.pin p hp;have nch:p.1∉ch:=λz=>(hch p.1 z).2.2.2 p hp rfl;exact ⟨keep p.1 p.2 ne nf nch e n,free p.1 p.2 nch e n,ne,nf,d⟩
def Inv.un {t':Nat} (I:Inv X pins σ H s) (u:Un X.fs [] H H' s.heap h') (hok:HOk X.prog X.w H' h'):Inv X pins σ H' { s with heap:=h',toks:=t' }:=by
 obtain ⟨m,⟨o,es,ep,ho,r⟩,_⟩:=id I.loc;obtain ⟨sl,hL⟩:=u.any ho I.free (by simp);exact I.step (g':=s.gens) (d':=s.drawn) (ch:=[]) (λ_ z=>nomatch z) (λb o _ hb _ e n=>u.keep b o e n hb (by simp)) (λb o _ hb _ e n=>u.slot b o e n hb (by simp)) (λb o _ e n=>u.free b o e n (by simp)) (λb o _ e=>u.there b o e (by simp)) u.tups u.frzs u.tbls (λm' hm=>by
  obtain ⟨o',es',ep',ho',r'⟩:=hm;rw [ho] at ho';cases ho';exact ⟨_,es',ep',hL,r'⟩) hok I.bare
def Inv.call {g':Array GenState} {t':Nat} {d':Drawn} {ch:List Addr} (I:Inv X pins σ H s) (u:Un (frs X.stack) ch H H' s.heap h') (hok:HOk X.prog X.w H' h') (hg:AllBare g')
  (hch:∀ b∈ch,(b∈X.ex\/X.s₀.heap.objs.size<=b)/\b≠X.env.locals/\(∀ x c,X.env.cells.lookup x=some c->c≠b)/\∀ p∈X.pn++pins,p.1≠b) :
  Inv X pins σ H' { s with heap:=h',gens:=g',drawn:=d',toks:=t' }:=by
 obtain ⟨m,⟨o,es,ep,ho,r⟩,_⟩:=id I.loc;obtain ⟨sl,hL⟩:=u.any ho I.free λz=>(hch _ z).2.1 rfl;exact I.step (ch:=ch) hch (λb o hL hb hc e n=>u.keep b o e n (λz=>(mem_cons.mp (I.stkSub b z)).elim hL hb) hc) (λb o _ _ hc e n=>u.any e n hc) (λb o hc e n=>u.free b o e n hc) (λb o hc e=>u.there b o e hc) u.tups u.frzs u.tbls (λm' hm=>by
  obtain ⟨o',es',ep',ho',r'⟩:=hm;rw [ho] at ho';cases ho';exact ⟨_,es',ep',hL,r'⟩) hok hg
def Inv.turned {t':Nat} {it:Addr} (I:Inv X pins σ H s) (k:∀ b o,b≠it->s.heap.get? b=some o->h'.get? b=some o) (hn:H it=none) (hL:it≠X.env.locals)
  (h1:it∈X.ex\/X.s₀.heap.objs.size<=it) (h2:∀ x c,X.env.cells.lookup x=some c->c≠it) (h3:∀ p∈X.pn++pins,p.1≠it):Inv X pins σ H { s with heap:=h',toks:=t' }:=by
 have nit:∀ b u,H b=some u->b≠it:=λb u e z=>by rw [z,hn] at e;cases e
 refine I.step (g':=s.gens) (d':=s.drawn) (ch:=[it]) (λb hb=>?_) (λb o _ _ hc e _=>k b o (λz=>hc (by simp [z])) e) (λb o _ _ hc e _=>⟨o.slots,k b o (λz=>hc (by simp [z])) e⟩) (λ_ _ _ _ n=>n)
  (λb o hc e=>⟨o,k b o (λz=>hc (by simp [z])) e⟩) (λ_ _ e=>e) (λ_ _ _ e=>e) (λb ps e=>⟨#[],by rw [e];simp⟩) (λm hm=>?_) (λb u e=>?_) I.bare
 ·have e:b=it:=by simpa using hb
  subst e;exact ⟨h1,hL,h2,h3⟩
 ·obtain ⟨o,es,ep,ho,r⟩:=hm;exact ⟨o,es,ep,k _ o (Ne.symm hL) ho,r⟩
 ·refine (I.hok b u e).stay (λc v hc q=>k c v ?_ q) (λ_ q=>q) λ_ _ q=>q;rcases hc with z|z
  ·rw [z];exact nit b u e
  ·exact nit c _ z
def Inv.tok (I:Inv X pins σ H s) (t:Nat):Inv X pins σ H { s with toks:=t }:=I.un (h':=s.heap) (t':=t) Un.refl I.hok
def Inv.kept {t':Nat} (I:Inv X pins σ H s) (k:∀ b u,s.heap.get? b=some u->h'.get? b=some u):Inv X pins σ H { s with heap:=h',toks:=t' }:=I.un (Un.kept k) (I.hok.kept k)
def Inv.laid {a:Addr} {o:HO} {t':Nat} (I:Inv X pins σ H s) (k:∀ b u,s.heap.get? b=some u->h'.get? b=some u) (hp:s.heap.objs.size<=a) (new:UX X.prog X.w (upd H a o) h' a o) :
  Inv X pins σ (upd H a o) { s with heap:=h',toks:=t' }:=I.un (Un.laid k hp (I.hok.fresh hp)) (I.hok.laid k hp new)
def Inv.write {x e:Addr} {o:HO} {t':Nat} (I:Inv X pins σ H s) (mu:Mut (H x)) (he:e=x\/H e=some (.own x)) (k:∀ b u,b≠e->s.heap.get? b=some u->h'.get? b=some u) (heo:∃ u,h'.get? e=some u)
  (new:UX X.prog X.w (upd H x o) h' x o):Inv X pins σ (upd H x o) { s with heap:=h',toks:=t' }:=I.un (Un.write mu he k heo) (I.hok.write mu he k heo new)
def Inv.pins_of {pins':List (Addr×Obj)} (I:Inv X pins σ H s) (h:∀ p∈pins',s.heap.get? p.1=some p.2/\H p.1=none/\p.1≠X.env.locals/\p.1∉X.fs/\∀ v,p.2.data≠.cell v):Inv X pins' σ H s:=
 ⟨I.ok,I.os,I.bare,I.base,I.loc,I.cell,I.free,I.freeC,λp hp=>(List.mem_append.mp hp).elim (λz=>I.pin p (List.mem_append_left _ z)) (h p),I.hok,I.len⟩
def LP {N:List Str} (hN:N.Nodup) {i j:Nat} {x:Str} (a:N[i]?=some x) (b:N[j]?=some x):i=j:=by
 obtain ⟨h1,e1⟩:=List.getElem?_eq_some_iff.mp a;obtain ⟨h2,e2⟩:=List.getElem?_eq_some_iff.mp b;exact (List.getElem_inj hN).mp (e1.trans e2.symm)
def SK {M:Model} {A:Around} {E:Value->Shared->Prop} {i:Nat} {x:Str} {v:V} {u:Value} {Q:Unit->Shared->Prop} (I:Inv X pins σ H s) (hN:X.N.Nodup) (hi:X.N[i]?=some x) (hx:Loc X.env.scope x) (r:QJ v u)
  (h:∀ s',Inv X pins (σ.set i (some v)) H s'->(∃ a,Heap.SameBut a s.heap s'.heap/\(a=X.env.locals\/X.env.cells.lookup x=some a))->Q () s') (hf:X.fn x=true\/X.env.scope.names.lookup x=some .local:=by first|exact .inl rfl|exact .inr rfl|assumption):wpAny M A (storeName X.env x u) Q E s:=by
 obtain ⟨m,hn,hl⟩:=id I.loc;have hcls:(X.env.scope.kind==.class||(X.env.scope.kind==.module&&X.env.locals != X.env.globals))=false:=by rw [I.ok.kind];rfl
 have hiσ:i<σ.length:=by rw [I.len];exact (List.getElem?_eq_some_iff.mp hi).1
 have cne:=I.cne;have tracked:∀ {a:Addr} {h':Heap},(∃ o,s.heap.get? a=some o/\H a=none)->Heap.SameBut a s.heap h'->HOk X.prog X.w H h':=λ{a h'} ha hs b ob e=>by
  obtain ⟨_,_,hfree⟩:=ha;refine (I.hok b ob e).stay (λc w' hc q=>(hs.2 c ?_).trans q) (λ_ q=>q) λ_ _ q=>q;rintro rfl;rcases hc with rfl|hc
  ·rw [hfree] at e;cases e
  ·rw [hfree] at hc;cases hc
 rcases hx with hk|hk
 ·refine wpAny_storeName_local hk hn (λh' hn' hs=>?_) hcls;obtain ⟨oL,_,_,hoL,_⟩:=id hn;refine h _ ⟨I.ok,I.os,I.bare,⟨λb o e n hb hx=>?_,λb o e n hb hx=>?_,I.base.free,λb o e hx=>?_,I.base.tups,I.base.frzs,I.base.tbls⟩,⟨_,hn',λj y v' e1 e2 e3=>?_⟩,λy c e=>?_,I.free,I.freeC,λp hp=>?_,tracked ⟨oL,hoL,I.free⟩ hs,by simpa using I.len⟩ ⟨_,hs,.inl rfl⟩
  ·exact (hs.2 b (Nat.ne_of_lt (Nat.lt_of_lt_of_le (Heap.lt_size e) I.ok.above))).trans (I.base.keep b o e n hb hx)
  ·obtain ⟨sl,e1⟩:=I.base.slot b o e n hb hx;exact ⟨sl,(hs.2 b (Nat.ne_of_lt (Nat.lt_of_lt_of_le (Heap.lt_size e) I.ok.above))).trans e1⟩
  ·obtain ⟨o',e1⟩:=I.base.there b o e hx;exact ⟨o',(hs.2 b (Nat.ne_of_lt (Nat.lt_of_lt_of_le (Heap.lt_size e) I.ok.above))).trans e1⟩
  ·by_cases hj:j=i
   ·subst hj;rw [hi] at e1;cases e1;rw [List.getElem?_set_self hiσ] at e2;cases e2;exact ⟨u,r,.inl ⟨hk,by simp⟩⟩
   ·rw [List.getElem?_set_ne (Ne.symm hj)] at e2;obtain ⟨u',r',q⟩:=hl j y v' e1 e2 e3;refine ⟨u',r',?_⟩;rcases q with ⟨k,e⟩|⟨k,c,e,z⟩
    ·refine .inl ⟨k,?_⟩;have:y≠x:=λe=>hj (LP hN e1 (e▸hi));simp [this,e]
    ·exact .inr ⟨k,c,e,z.sameBut hs (cne y c e)⟩
  ·obtain ⟨w',z⟩:=I.cell y c e;exact ⟨w',z.sameBut hs (cne y c e)⟩
  ·obtain ⟨e,n,ne,nf,d⟩:=I.pin p hp;exact ⟨(hs.2 p.1 ne).trans e,n,ne,nf,d⟩
 ·have hfn:X.fn x=true:=by
   rcases hf with z|z
   ·exact z
   ·rw [z] at hk;cases hk
  obtain ⟨c,hc⟩:=I.ok.has x (.inl hk);obtain ⟨w',z⟩:=I.cell x c hc;refine wpAny_storeName_cell I.ok.kind hk hc z (λh' hc' hs=>?_);obtain ⟨oc,hoc,hocd⟩:=id z;refine h { s with heap:=h' } ⟨I.ok,I.os,I.bare,⟨λb o e n hb hx=>?_,λb o e n hb hx=>?_,I.base.free,λb o e hx=>?_,I.base.tups,I.base.frzs,I.base.tbls⟩,⟨m,hn.sameBut hs (Ne.symm (cne x c hc)),λj y v' e1 e2 e3=>?_⟩,λy c' e=>?_,I.free,I.freeC,λp hp=>?_,tracked ⟨oc,hoc,I.freeC x c hc⟩ hs,by simpa using I.len⟩ ⟨c,hs,.inr hc⟩
  ·exact (hs.2 b (Nat.ne_of_lt (Nat.lt_of_lt_of_le (Heap.lt_size e) (I.ok.cab x c hfn hc)))).trans (I.base.keep b o e n hb hx)
  ·obtain ⟨sl,e1⟩:=I.base.slot b o e n hb hx;exact ⟨sl,(hs.2 b (Nat.ne_of_lt (Nat.lt_of_lt_of_le (Heap.lt_size e) (I.ok.cab x c hfn hc)))).trans e1⟩
  ·obtain ⟨o',e1⟩:=I.base.there b o e hx;exact ⟨o',(hs.2 b (Nat.ne_of_lt (Nat.lt_of_lt_of_le (Heap.lt_size e) (I.ok.cab x c hfn hc)))).trans e1⟩
  ·by_cases hj:j=i
   ·subst hj;rw [hi] at e1;cases e1;rw [List.getElem?_set_self hiσ] at e2;cases e2;exact ⟨u,r,.inr ⟨.inl hk,c,hc,hc'⟩⟩
   ·rw [List.getElem?_set_ne (Ne.symm hj)] at e2;obtain ⟨u',r',q⟩:=hl j y v' e1 e2 e3;refine ⟨u',r',?_⟩;rcases q with q|⟨k,c',e,z'⟩
    ·exact .inl q
    ·refine .inr ⟨k,c',e,z'.sameBut hs ?_⟩;rintro rfl;exact hj (LP hN e1 (I.ok.inj _ _ _ e hc▸hi))
  ·by_cases hcc:c'=c
   ·subst hcc;exact ⟨_,hc'⟩
   ·obtain ⟨w2,z2⟩:=I.cell y c' e;exact ⟨w2,z2.sameBut hs hcc⟩
  ·obtain ⟨e,n,ne,nf,d⟩:=I.pin p hp;refine ⟨(hs.2 p.1 ?_).trans e,n,ne,nf,d⟩;intro q;rw [q,hoc] at e;have q':oc=p.2:=Option.some.inj e;exact d w' (by rw [← q'];exact hocd)
def YK {M:Model} {A:Around} {E:Value->Shared->Prop} {i:Nat} {x:Str} {v:V} {u:Value} {Q:Unit->Shared->Prop} (I:Inv X pins σ H s) (hN:X.N.Nodup) (hi:X.N[i]?=some x) (hx:Loc X.env.scope x) (r:QJ v u)
  (h:∀ s',Inv X pins (σ.set i (some v)) H s'->Q () s') (hf:X.fn x=true\/X.env.scope.names.lookup x=some .local:=by first|exact .inl rfl|exact .inr rfl|assumption):wpAny M A (storeName X.env x u) Q E s:=
 SK I hN hi hx r (λs' I' _=>h s' I') hf
def Inv.call' {s':Shared} {ch:List Addr} (I:Inv X pins σ H s) (ho:s'.os=s.os) (u:Un (frs X.stack) ch H H' s.heap s'.heap) (hok:HOk X.prog X.w H' s'.heap) (hg:AllBare s'.gens)
  (hch:∀ b∈ch,(b∈X.ex\/X.s₀.heap.objs.size<=b)/\b≠X.env.locals/\(∀ x c,X.env.cells.lookup x=some c->c≠b)/\∀ p∈X.pn++pins,p.1≠b):Inv X pins σ H' s':=by
 obtain ⟨h',g',d',t',o'⟩:=s';have e:o'=s.os:=ho;subst e;exact I.call (g':=g') (t':=t') (d':=d') u hok hg hch
end
abbrev XK:=Value->Option Addr->Hp->Prop
abbrev St:=List (Option V)
abbrev VK:=V->Hp->Prop
abbrev TE:=St->Hp->VK->Prop
abbrev TT:=St->Hp->(Bool->Hp->Prop)->Prop
abbrev TA:=St->Hp->(List V->Hp->Prop)->Prop
structure Ends where
 nx:St->Hp->Prop
 rt:VK
 bk:St->Hp->Prop:=λ_ _=>False
 ct:St->Hp->Prop:=λ_ _=>False
abbrev TS:=Ends->St->Hp->Prop
def EP (X:Cx) (pins:List (Addr×Obj)) (σ:St) (Q:VK) (u:Value) (s':Shared):Prop:=∃ v H',Inv X pins σ H' s'/\QJ v u/\Q v H'
def TP (X:Cx) (pins:List (Addr×Obj)) (σ:St) (Q:Bool->Hp->Prop) (b:Bool) (s':Shared):Prop:=∃ H',Inv X pins σ H' s'/\Q b H'
def AP (X:Cx) (pins:List (Addr×Obj)) (σ:St) (Q:List V->Hp->Prop) (us:List Value) (s':Shared):Prop:=∃ vs H',Inv X pins σ H' s'/\jx vs us/\Q vs H'
def SP (X:Cx) (pins:List (Addr×Obj)) (D:Ends) (f:Flow) (s':Shared):Prop:=
 match f with
 |.next=>∃ σ' H',Inv X pins σ' H' s'/\D.nx σ' H'
 |.brk=>∃ σ' H',Inv X pins σ' H' s'/\D.bk σ' H'
 |.cont=>∃ σ' H',Inv X pins σ' H' s'/\D.ct σ' H'
 |.ret u=>∃ v σ' H',Inv X pins σ' H' s'/\QJ v u/\D.rt v H'
def PE (X:Cx) (e:Expr) (t:TE):Prop:=
 ∀ (pins:List (Addr×Obj)) (s:Shared) (σ:St) (H:Hp) (Q:VK),Inv X pins σ H s->t σ H Q->wpAny (model X.prog X.w) X.A (eval e X.env) (EP X pins σ Q) X.xe s
def PT (X:Cx) (e:Expr) (t:TT):Prop:=
 ∀ (pins:List (Addr×Obj)) (s:Shared) (σ:St) (H:Hp) (Q:Bool->Hp->Prop),Inv X pins σ H s->t σ H Q->wpAny (model X.prog X.w) X.A (isTrue e X.env (eval e X.env)) (TP X pins σ Q) X.xe s
def PW (X:Cx) (e:Expr) (t:TT):Prop:=
 ∀ (whole:Sem Value) (pins:List (Addr×Obj)) (s:Shared) (σ:St) (H:Hp) (Q:Bool->Hp->Prop),Inv X pins σ H s->t σ H Q->wpAny (model X.prog X.w) X.A (isTrue e X.env whole) (TP X pins σ Q) X.xe s
def PW.pt {X:Cx} {e:Expr} {t:TT} (h:PW X e t):PT X e t:=h _
def PA (X:Cx) (es:List Expr) (t:TA):Prop:=
 ∀ (pos:Pos) (pins:List (Addr×Obj)) (s:Shared) (σ:St) (H:Hp) (Q:List V->Hp->Prop),Inv X pins σ H s->t σ H Q->wpAny (model X.prog X.w) X.A (spliced (backTo pos (starEach es X.env))) (AP X pins σ Q) X.xe s
def PS (X:Cx) (st:Stmt) (t:TS):Prop:=
 ∀ (pins:List (Addr×Obj)) (s:Shared) (σ:St) (H:Hp) (D:Ends),Inv X pins σ H s->t D σ H->wpAny (model X.prog X.w) X.A (exec st X.env) (SP X pins D) X.xe s
def PSs (X:Cx) (st:List Stmt) (t:TS):Prop:=
 ∀ (pins:List (Addr×Obj)) (s:Shared) (σ:St) (H:Hp) (D:Ends),Inv X pins σ H s->t D σ H->wpAny (model X.prog X.w) X.A (execs st X.env) (SP X pins D) X.xe s
def thn {α:Type} {t:Sem α} {Q Q':α->Shared->Prop} {M:Model} {A:Around} {E:Value->Shared->Prop} {s:Shared} (h:wpAny M A t Q E s) (hQ:∀ a s,Q a s->Q' a s):wpAny M A t Q' E s:=wpAny_mono h hQ λ_ _ x=>x
section
variable {X:Cx}
def qoY (i:Nat):TE:=λσ H Q=>∃ v,σ[i]?=some (some v)/\Q v H
def tC (v:V):TE:=λ_ H Q=>Q v H
def qi0 {i:Nat} {x:Str} {pos:Pos} (hN:X.N[i]?=some x) (hv:Vis X.env.scope x) (hd:(x==("__debug__" : Str))=false:=by decide) (hcd:(x==("__classdict__" : Str))=false:=by decide):PE X (.Name x pos) (qoY i):=by
 intro pins s σ H Q I h;obtain ⟨v,e,h⟩:=h;obtain ⟨m,hn,hl⟩:=I.loc;obtain ⟨u,r,l⟩:=hl i x v hN e hv;have fin:EP X pins σ Q u s:=⟨v,H,I,r,h⟩
 rcases l with ⟨hk,hm⟩|⟨hk,c,hc,hcell⟩
 ·exact wpAny_Name (wpAny_loadName_local I.ok.kind hk hn hm fin) hd
 ·rcases hk with hk|hk
  ·exact wpAny_Name (wpAny_loadName_cell I.ok.kind hk hc hcell fin) hd
  ·exact wpAny_Name (wpAny_loadName_free I.ok.kind hk hc hcell fin hcd) hd
def qiP {i j pos}:PE X (.Constant (.int i) j pos) (tC (.int i)):=λ_ _ _ H _ I h=>wpAny_Constant_int ⟨.int i,H,I.tok _,⟨_,rfl⟩,h⟩
def qnK {b j pos}:PE X (.Constant (.bool b) j pos) (tC (.bl b)):=λ_ _ _ H _ I h=>Constant_bool ⟨.bl b,H,I,rfl,h⟩
def qjV {j pos}:PE X (.Constant .none j pos) (tC .non):=λ_ _ _ H _ I h=>Constant_none ⟨.non,H,I,rfl,h⟩
def qiB {x j pos}:PE X (.Constant (.str x) j pos) (tC (.str x)):=λ_ _ _ H _ I h=>Calls.Constant_str ⟨.str x,H,I.tok _,⟨_,rfl⟩,h⟩
def Gl (X:Cx) (x:Str):Prop:=X.env.kindOf x=some .globalImplicit
def qfy {E:Value->Shared->Prop} {pins:List (Addr×Obj)} {s:Shared} {σ:St} {H:Hp} {x:Str} {u:Value} {pos:Pos} {Q:Value->Shared->Prop} (I:Inv X pins σ H s) (hg:Gl X x) (hm:X.mg x=some u) (h:Q u s)
  (hd:(x==("__debug__" : Str))=false:=by decide):wpAny (model X.prog X.w) X.A (eval (.Name x pos) X.env) Q E s:=
 Calls.Name_function_global I.ok.kind hg (Calls.loadGlobal_global (by rw [I.ok.glob];exact I.mod.glob.keeps I.bk) hm h) hd
def SI {E:Value->Shared->Prop} {pins:List (Addr×Obj)} {s:Shared} {σ:St} {H:Hp} {x:Str} {u:Value} {pos:Pos} {Q:Value->Shared->Prop} (I:Inv X pins σ H s) (hg:Gl X x) (hm:X.mg x=none) (hv:bootBuiltins x=some u) (h:Q u s)
  (hn:x≠"__name__" := by decide) (hd:(x==("__debug__" : Str))=false:=by decide):wpAny (model X.prog X.w) X.A (eval (.Name x pos) X.env) Q E s:=by
 obtain ⟨mb,h1,h2⟩:=I.mod.blt;exact Calls.Name_function_global I.ok.kind hg (Calls.loadGlobal_builtin (by rw [I.ok.glob];exact I.mod.glob.keeps I.bk) hm (by rw [I.ok.blt];exact h1.keeps I.bk) ((h2 x hn).trans hv) h) hd
def KR {x:Str} {v:V} {u:Value} {pos:Pos} (hg:Gl X x) (hm:X.mg x=none) (hv:bootBuiltins x=some u) (r:QJ v u) (hn:x≠"__name__" := by decide) (hd:(x==("__debug__" : Str))=false:=by decide):PE X (.Name x pos) (tC v):=
 λ_ _ _ H _ I h=>SI I hg hm hv ⟨v,H,I,r,h⟩ hn hd
variable {a b:Expr} {ta tb:TE} {pos:Pos}
def tB (t:TE):TT:=λσ H Q=>t σ H λx H1=>∃ c,x=.bl c/\Q c H1
def qil {e:Expr} {t:TE} (h:PE X e t) (he:∀ whole,isTrue e X.env whole=(do let v←whole;standAt e.pos;holding [v] (truthy v)):=by intro _;rfl):PT X e (tB t):=by
 intro pins s σ H Q I hw;refine isTrue_plain (thn (h pins s σ H _ I hw) λv s1 ⟨x,H1,I1,r1,q1⟩=>?_) (he _);obtain ⟨d,rfl,q⟩:=q1;cases r1;exact wpAny_truthy_bool ⟨H1,I1,q⟩
variable {tA tB':TT} {J0:List Expr}
def qpd (t u:TT):TT:=λσ H Q=>t σ H λc H1=>if c=true then u σ H1 Q else Q false H1
def tOr (t u:TT):TT:=λσ H Q=>t σ H λc H1=>if c=true then Q true H1 else u σ H1 Q
def qpi (t:TT):TT:=λσ H Q=>t σ H λc H1=>Q (!c) H1
def qfj (ha:PT X a tA):PW X (.BoolOp .And [a] pos) tA:=by
 intro wh pins s σ H Q I h;refine isTrue_and (thn (ha pins s σ H Q I h) λc s1 e=>?_);cases c with
 |true=>exact isTrue_and_nil e
 |false=>exact e
def qi5 (ha:PT X a tA):PW X (.BoolOp .Or [a] pos) tA:=by
 intro wh pins s σ H Q I h;refine isTrue_or (thn (ha pins s σ H Q I h) λc s1 e=>?_);cases c with
 |false=>exact isTrue_or_nil e
 |true=>exact e
def qkx (ha:PT X a tA) (hb:PW X (.BoolOp .And (b::J0) pos) tB'):PW X (.BoolOp .And (a::b::J0) pos) (qpd tA tB'):=by
 intro wh pins s σ H Q I h;refine isTrue_and (thn (ha pins s σ H _ I h) λc s1 ⟨H1,I1,q1⟩=>?_);cases c with
 |true=>exact hb wh pins s1 σ H1 Q I1 q1
 |false=>exact ⟨H1,I1,q1⟩
def qnP (ha:PT X a tA) (hb:PW X (.BoolOp .Or (b::J0) pos) tB'):PW X (.BoolOp .Or (a::b::J0) pos) (tOr tA tB'):=by
 intro wh pins s σ H Q I h;refine isTrue_or (thn (ha pins s σ H _ I h) λc s1 ⟨H1,I1,q1⟩=>?_);cases c with
 |true=>exact ⟨H1,I1,q1⟩
 |false=>exact hb wh pins s1 σ H1 Q I1 q1
def qjD (ha:PT X a tA):PT X (.UnaryOp .Not a pos) (qpi tA):=by
 intro pins s σ H Q I h;exact isTrue_not (ha pins s σ H (λc H1=>Q (!c) H1) I h)
def qnZ (ta tb:TE):TE:=λσ H Q=>ta σ H λx H1=>∃ c,x=.bl c/\if c=true then tb σ H1 Q else Q (.bl false) H1
def qns (ta:TE):TE:=λσ H Q=>ta σ H λx H1=>∃ c,x=.bl c/\Q (.bl (!c)) H1
def qh1 {op} {t:TE} (h:PE X a t):PE X (.BoolOp op [a] pos) t:=λpins s σ H Q I hw=>BoolOp_one (h pins s σ H Q I hw)
def qiI (ha:PE X a ta) (hb:PE X (.BoolOp .And (b::J0) pos) tb):PE X (.BoolOp .And (a::b::J0) pos) (qnZ ta tb):=by
 intro pins s σ H Q I h;refine BoolOp_and (thn (ha pins s σ H _ I h) λv s1 ⟨x,H1,I1,r1,q1⟩=>?_);obtain ⟨c,rfl,q1⟩:=q1;cases r1;refine wpAny_truthy_bool ?_;cases c with
 |true=>exact hb pins s1 σ H1 Q I1 q1
 |false=>exact ⟨.bl false,H1,I1,rfl,q1⟩
def qlc (ha:PE X a ta):PE X (.UnaryOp .Not a pos) (qns ta):=by
 intro pins s σ H Q I h;refine UnaryOp_ (thn (ha pins s σ H _ I h) λv s1 ⟨x,H1,I1,r1,q1⟩=>?_);obtain ⟨c,rfl,q1⟩:=q1;cases r1;exact not_of (wpAny_truthy_bool ⟨.bl (!c),H1,I1,rfl,q1⟩)
def tIf (t:TT) (ta tb:TE):TE:=λσ H Q=>t σ H λc H1=>if c=true then ta σ H1 Q else tb σ H1 Q
def qcr {c:Expr} (hc:PT X c tA) (ha:PE X a ta) (hb:PE X b tb):PE X (.IfExp c a b pos) (tIf tA ta tb):=by
 intro pins s σ H Q I h;refine wpAny_IfExp (thn (hc pins s σ H _ I h) λd s1 ⟨H1,I1,q1⟩=>?_);cases d with
 |true=>exact ha pins s1 σ H1 Q I1 q1
 |false=>exact hb pins s1 σ H1 Q I1 q1
end
def SqL (K:Frg) (H:Hp) (a:Addr) (xs:List V):Prop:=
 Rd H a (.lst xs) ∨
  ∃ (o:Obj) (its:Array Value) (n:Nat),K.lookup a=some o/\o.cls=.type "list"/\o.dict=none/\o.data=.seq its n/\its.size<=sizeLine/\jx xs its.toList
def SqT (K:Frg) (H:Hp) (a:Addr) (xs:List V):Prop:=
 Rd H a (.tup xs) ∨
  ∃ (o:Obj) (its:Array Value) (n:Nat),K.lookup a=some o/\o.cls=.type "tuple"/\o.data=.seq its n/\its.size<=sizeLine/\jx xs its.toList
def qpl:Value->Option V
 |.none=>some .non
 |.bool b=>some (.bl b)
 |.int i _=>some (.int i)
 |.str x _=>some (.str x)
 |.bytes b _=>some (.byt b)
 |.float b _=>some (.flt b)
 |.ref a=>some (.ref a)
 |.type n=>some (.ty n)
 |_=>none
def QJ.abs {x:V} {u:Value} (r:QJ x u):qpl u=some x:=by
 cases x with
 |non=>cases r;rfl
 |bl _=>cases r;rfl
 |int _=>obtain ⟨t,rfl⟩:=r;rfl
 |str _=>obtain ⟨t,rfl⟩:=r;rfl
 |byt _=>obtain ⟨t,rfl⟩:=r;rfl
 |flt _=>obtain ⟨t,rfl⟩:=r;rfl
 |ref _=>cases r;rfl
 |ty _=>cases r;rfl
def QJ.inj {x y:V} {u:Value} (r:QJ x u) (q:QJ y u):x=y:=Option.some.inj (r.abs.symm.trans q.abs)
def jx.inj:∀ {xs ys:List V} {us:List Value},jx xs us->jx ys us->xs=ys
 |_,_,_,.nil,.nil=>rfl
 |_,_,_,.cons r t,.cons r' t'=>by rw [r.inj r',jx.inj t t']
section
variable {X:Cx} {pins:List (Addr×Obj)} {σ:St} {H:Hp} {s:Shared} {a:Addr} {xs ys:List V}
def SqL.of {K:Frg} (h:H a=some (.lst xs)):SqL K H a xs:=.inl (.inl h)
def SqT.of {K:Frg} (h:H a=some (.tup xs)):SqT K H a xs:=.inl (.inl h)
def Inv.list (I:Inv X pins σ H s) (h:SqL X.K H a xs):∃ its:List Value,jx xs its/\PlainL s.heap a its.toArray/\xs.length<=sizeLine:=by
 rcases h with h|⟨o,its,n,hk,hc,hd,hs,hz,r⟩
 ·obtain ⟨z,its,n,r,e⟩:=h.ok I.hok;exact ⟨its,r,⟨_,n,e,rfl,rfl,rfl⟩,z⟩
 ·refine ⟨its.toList,r,⟨o,n,I.kIn a o hk,hc,hd,by simpa using hs⟩,?_⟩;have e:=r.length;simp only [Array.length_toList] at e;omega
def Inv.tuple (I:Inv X pins σ H s) (h:SqT X.K H a xs):∃ its:List Value,jx xs its/\IsTup s.heap a its.toArray/\xs.length<=sizeLine:=by
 rcases h with h|⟨o,its,n,hk,hc,hs,hz,r⟩
 ·obtain ⟨z,its,r,p⟩:=h.ok I.hok;exact ⟨its,r,p,z⟩
 ·refine ⟨its.toList,r,⟨o,I.kIn a o hk,hc,n,by simpa using hs⟩,?_⟩;have e:=r.length;simp only [Array.length_toList] at e;omega
def Inv.list_inj (I:Inv X pins σ H s) (h:SqL X.K H a xs) (h':SqL X.K H a ys):xs=ys:=by
 obtain ⟨its,r,⟨o,n,e,_,_,d⟩,_⟩:=I.list h;obtain ⟨its',r',⟨o',n',e',_,_,d'⟩,_⟩:=I.list h';rw [e] at e';cases e';rw [d] at d';injection d' with d1 _;have:its=its':=by simpa using congrArg Array.toList d1
 subst this;exact r.inj r'
def Inv.tuple_inj (I:Inv X pins σ H s) (h:SqT X.K H a xs) (h':SqT X.K H a ys):xs=ys:=by
 obtain ⟨its,r,⟨o,e,_,n,d⟩,_⟩:=I.tuple h;obtain ⟨its',r',⟨o',e',_,n',d'⟩,_⟩:=I.tuple h';rw [e] at e';cases e';rw [d] at d';injection d' with d1 _;have:its=its':=by simpa using congrArg Array.toList d1
 subst this;exact r.inj r'
end
abbrev Cx.wish (X:Cx) (E:Value->Shared->Prop):Cx:={ X with xe:=E }
abbrev Cx.nox (X:Cx):Cx:=X.wish λ_ _=>False
def Cx.Ok.wish {X:Cx} (ok:X.Ok) (E:Value->Shared->Prop):(X.wish E).Ok:=
 ⟨ok.mod,ok.kind,ok.glob,ok.blt,ok.above,ok.inj,ok.has,ok.cab,ok.hd,ok.frames,ok.stk,ok.exf,ok.bs,ok.bsz,ok.noex,ok.exfs,ok.funs,ok.frf⟩
def Cx.Ok.unwish {X:Cx} {E:Value->Shared->Prop} (ok:(X.wish E).Ok):X.Ok:=
 ⟨ok.mod,ok.kind,ok.glob,ok.blt,ok.above,ok.inj,ok.has,ok.cab,ok.hd,ok.frames,ok.stk,ok.exf,ok.bs,ok.bsz,ok.noex,ok.exfs,ok.funs,ok.frf⟩
section
variable {X:Cx} {pins:List (Addr×Obj)} {σ:St} {H:Hp} {s:Shared} {E:Value->Shared->Prop}
def Inv.wish (I:Inv X pins σ H s) (E:Value->Shared->Prop):Inv (X.wish E) pins σ H s:=⟨I.ok.wish E,I.os,I.bare,I.base,I.loc,I.cell,I.free,I.freeC,I.pin,I.hok,I.len⟩
def Inv.unwish (I:Inv (X.wish E) pins σ H s):Inv X pins σ H s:=⟨I.ok.unwish,I.os,I.bare,I.base,I.loc,I.cell,I.free,I.freeC,I.pin,I.hok,I.len⟩
def SP.unwish {D:Ends} {f:Flow} {s':Shared} (h:SP (X.wish E) pins D f s'):SP X pins D f s':=by
 cases f with
 |next=>obtain ⟨σ',H',I,q⟩:=h;exact ⟨σ',H',I.unwish,q⟩
 |brk=>obtain ⟨σ',H',I,q⟩:=h;exact ⟨σ',H',I.unwish,q⟩
 |cont=>obtain ⟨σ',H',I,q⟩:=h;exact ⟨σ',H',I.unwish,q⟩
 |ret u=>obtain ⟨v,σ',H',I,r,q⟩:=h;exact ⟨v,σ',H',I.unwish,r,q⟩
def PSs.nox {st:List Stmt} {t:TS} (h:PSs X.nox st t):PSs X st t:=λpins s σ H D I hw=>
 wpAny_mono (h pins s σ H D (I.wish _) hw) (λ_ _ q=>q.unwish) λ_ _ z=>False.elim z
end
section
variable {X:Cx} {st:Stmt} {J0:List Stmt} {t u:TS} {e:Expr} {te:TE} {pos:Pos}
def qmG:TS:=λD σ H=>D.nx σ H
def qpz (t u:TS):TS:=λD σ H=>t { D with nx:=u D } σ H
def qgt:PSs X [] qmG:=λ_ _ σ H _ I h=>wpAny_execs_nil ⟨σ,H,I,h⟩
def qcf (h1:PS X st t) (h2:PSs X J0 u):PSs X (st::J0) (qpz t u):=by
 intro pins s σ H D I h;refine wpAny_execs_cons (thn (h1 pins s σ H { D with nx:=u D } I h) λf s1 q=>?_);cases f with
 |next=>
  obtain ⟨σ',H',I',q⟩:=q;exact h2 pins s1 σ' H' D I' q
 |ret v=>exact q
 |brk=>exact q
 |cont=>exact q
def qfM (h1:PS X st t):PSs X [st] t:=by
 intro pins s σ H D I h;refine wpAny_execs_cons (thn (h1 pins s σ H D I h) λf s1 q=>?_);cases f with
 |next=>exact wpAny_execs_nil q
 |ret v=>exact q
 |brk=>exact q
 |cont=>exact q
def Inv.quiet {pins:List (Addr×Obj)} {σ:St} {H:Hp} {s:Shared} (I:Inv X pins σ H s):interactive X.env=false:=by simp [interactive,I.ok.kind]
def qmo (te:TE):TS:=λD σ H=>te σ H λ_ H1=>D.nx σ H1
def qgz (he:PE X e te) (hs:swapsWith e none pos.line X.env=pure false:=by rfl):PS X (.Expr e pos) (qmo te):=by
 intro pins s σ H D I h;exact wpAny_Expr_any (thn (he pins s σ H _ I h) λv s1 ⟨x,H1,I1,r1,q1⟩=>⟨σ,H1,I1,q1⟩) I.quiet hs
def qoP (te:TE):TS:=λD σ H=>te σ H D.rt
def qkr (he:PE X e te):PS X (.Return (some e) pos) (qoP te):=by
 intro pins s σ H D I h;exact wpAny_Return_some (thn (he pins s σ H _ I h) λv s1 ⟨x,H1,I1,r1,q1⟩=>⟨x,σ,H1,I1,r1,q1⟩)
def qoN (c:TT) (t u:TS):TS:=λD σ H=>c σ H λb H1=>if b=true then t D σ H1 else u D σ H1
def qnk {c:Expr} {a b:List Stmt} {tc:TT} (hc:PT X c tc) (ha:PSs X a t) (hb:PSs X b u):PS X (.If c a b pos) (qoN tc t u):=by
 intro pins s σ H D I h;refine wpAny_If (thn (hc pins s σ H _ I h) λd s1 ⟨H1,I1,q1⟩=>?_);cases d with
 |true=>exact ha pins s1 σ H1 D I1 q1
 |false=>exact hb pins s1 σ H1 D I1 q1
end
abbrev TG:=V->St->Hp->(St->Hp->Prop)->Prop
abbrev TGs:=List V->St->Hp->(St->Hp->Prop)->Prop
def PG (X:Cx) (target:Expr) (t:TG):Prop:=
 ∀ (pins:List (Addr×Obj)) (s:Shared) (σ:St) (H:Hp) (v:V) (u:Value) (Q:St->Hp->Prop),Inv X pins σ H s->QJ v u->t v σ H Q ->
  wpAny (model X.prog X.w) X.A (assign target X.env u) (λ_ s'=>∃ σ' H',Inv X pins σ' H' s'/\Q σ' H') X.xe s
def PGs (X:Cx) (ts:List Expr) (t:TGs):Prop:=
 ∀ (pins:List (Addr×Obj)) (s:Shared) (σ:St) (H:Hp) (vs:List V) (us:List Value) (Q:St->Hp->Prop),Inv X pins σ H s->jx vs us->t vs σ H Q ->
  wpAny (model X.prog X.w) X.A (assignInOrder ((assignEach ts X.env).map (·.2)) us) (λ_ s'=>∃ σ' H',Inv X pins σ' H' s'/\Q σ' H') X.xe s
abbrev qmt:=V->V->V->Hp->(Hp->Prop)->Prop
def qod (X:Cx) (t:qmt):Prop:=
 ∀ (pins:List (Addr×Obj)) (s:Shared) (σ:St) (H:Hp) (o i v:V) (ov iv u:Value) (Q:Hp->Prop),Inv X pins σ H s->QJ o ov->QJ i iv->QJ v u->t o i v H Q ->
  wpAny (model X.prog X.w) X.A (setItem ov iv u) (λ_ s'=>∃ H',Inv X pins σ H' s'/\Q H') X.xe s
section
variable {X:Cx} {pos:Pos}
def qfD (i:Nat):TG:=λv σ H Q=>Q (σ.set i (some v)) H
def qfY {i:Nat} {x:Str} (hN:X.N.Nodup) (hi:X.N[i]?=some x) (hx:Loc X.env.scope x) (hf:X.fn x=true\/X.env.scope.names.lookup x=some .local:=by first|exact .inl rfl|exact .inr rfl|assumption):PG X (.Name x pos) (qfD i):=by
 intro pins s σ H v u Q I r h;exact wpAny_assign_Name (YK I hN hi hx r (λs' I'=>⟨_,H,I',h⟩) hf)
def qbO:TGs:=λvs σ H Q=>vs=[]/\Q σ H
def QZ (t:TG) (u:TGs):TGs:=λvs σ H Q=>∃ v r,vs=v::r/\t v σ H λσ' H'=>u r σ' H' Q
def qfi:PGs X [] qbO:=by
 intro pins s σ H vs us Q I r h;obtain ⟨e,h⟩:=h;subst e;cases r;exact assignInOrder_nil ⟨σ,H,I,h⟩
def qcx {e:Expr} {es:List Expr} {t:TG} {u:TGs} (h1:PG X e t) (h2:PGs X es u)
  (hs:(assignEach (e::es) X.env).map (·.2)=assign e X.env::(assignEach es X.env).map (·.2):=by rfl):PGs X (e::es) (QZ t u):=by
 intro pins s σ H vs us Q I r h;obtain ⟨v,vr,e1,h⟩:=h;subst e1;cases r with
 |cons r rr=>
  rw [hs];refine assignInOrder_cons (thn (h1 pins s σ H _ _ _ I r h) λ_ s1 ⟨σ1,H1,I1,q1⟩=>?_);exact h2 pins s1 σ1 H1 _ _ Q I1 rr q1
def qae (K:Frg) (n:Nat) (t:TGs):TG:=λv σ H Q=>∃ a xs,v=.ref a/\SqT K H a xs/\xs.length=n/\t xs σ H Q
def qi8 {es:List Expr} {k:Nat} {t:TGs} {n:Nat} (hc:X.calm=true) (h:PGs X es t)
  (hn:(assignEach es X.env).length=n:=by rfl) (hst:(assignEach es X.env).findIdx? (·.1)=none:=by rfl):PG X (.Tuple es k pos) (qae X.K n t):=by
 intro pins s σ H v u Q I r hw;obtain ⟨a,xs,e1,hq,hl,hw⟩:=hw;subst e1;cases r;obtain ⟨its,rv,ht,hz⟩:=I.tuple hq;refine assign_Tuple_tuple (I.ok.hd hc) ht (by simp [hn,← hl,rv.length]) hst λh' hx=>?_;have I1:Inv X pins σ H { s with heap:=h' }:=I.kept (t':=s.toks) λb o e=>hx b o (Nat.ne_of_lt (Heap.lt_size e)) e;exact h pins _ σ H xs _ Q I1 (by simpa using rv) hw
def qo1 (to ti:TE) (t:qmt):TG:=λv σ H Q=>to σ H λo H1=>ti σ H1 λi H2=>t o i v H2 λH3=>Q σ H3
def qjW {o i:Expr} {to ti:TE} {t:qmt} (ho:PE X o to) (hi:PE X i ti) (hs:qod X t)
  (ha:∀ v,assign (.Subscript o i pos) X.env v=(do
   let ov←holding [v] (eval o X.env)
   let iv←holding [v,ov] (eval i X.env)
   standAt pos
   holding [v,ov,iv] (setItem ov iv v)
   release [v,ov,iv] []):=by intro _;rfl):PG X (.Subscript o i pos) (qo1 to ti t):=by
 intro pins s σ H v u Q I r h;rw [ha];refine wpAny_bind (wpAny_holding (thn (ho pins s σ H _ I h) λov s1 ⟨x,H1,I1,r1,q1⟩=>?_));refine wpAny_bind (wpAny_holding (thn (hi pins s1 σ H1 _ I1 q1) λiv s2 ⟨y,H2,I2,r2,q2⟩=>?_));refine wpAny_bind (wpAny_standAt (wpAny_bind (wpAny_holding (thn (hs pins s2 σ H2 x y v ov iv u _ I2 r1 r2 r q2) λ_ s3 ⟨H3,I3,q3⟩=>?_))));exact wpAny_release ⟨σ,H3,I3,q3⟩
def qmJ (te:TE) (g:TG):TS:=λD σ H=>te σ H λx H1=>g x σ H1 D.nx
def qjw {tg e:Expr} {te:TE} {g:TG} (he:PE X e te) (hg:PG X tg g) (hs:swapsWithSole [tg] e pos.line X.env=pure false:=by rfl) (hw:swappedStores [tg] e X.env=pure none:=by rfl)
  (h1:(assignEach [tg] X.env).map (·.2)=[assign tg X.env]:=by rfl):PS X (.Assign [tg] e pos) (qmJ te g):=by
 intro pins s σ H D I h;refine wpAny_Assign_stores (thn (he pins s σ H _ I h) λv s1 ⟨x,H1,I1,r1,q1⟩=>?_) hs hw;rw [h1];exact thn (hg pins s1 σ H1 x v _ I1 r1 q1) λ_ s2 q=>q
def qi9 {i:Nat} {x:Str} {e:Expr} {te:TE} {pos':Pos} (hN:X.N.Nodup) (hi:X.N[i]?=some x) (hx:Loc X.env.scope x) (he:PE X e te) (hs:swapsWith e (some (.Name x pos')) pos.line X.env=pure false:=by rfl) (hf:X.fn x=true\/X.env.scope.names.lookup x=some .local:=by first|exact .inl rfl|exact .inr rfl|assumption) :
  PS X (.Assign [.Name x pos'] e pos) (qmJ te (qfD i)):=by
 intro pins s σ H D I h;refine wpAny_Assign_Name (thn (he pins s σ H _ I h) λv s1 ⟨y,H1,I1,r1,q1⟩=>?_) hs;exact YK I1 hN hi hx r1 (λs2 I2=>⟨_,H1,I2,q1⟩) hf
def qpF (i j:Nat) (ta:TA):TS:=λD σ H=>ta σ H λvs H1=>∃ v w,vs=[v,w]/\D.nx ((σ.set i (some v)).set j (some w)) H1
def qiQ {i j:Nat} {x y:Str} {a b:Expr} {ta:TA} {px py pt:Pos} {kt k2 pt2} (hc:X.calm=true) (hN:X.N.Nodup) (hi:X.N[i]?=some x) (hj:X.N[j]?=some y) (hij:i≠j)
  (hx:X.env.scope.names.lookup x=some .local) (hy:X.env.scope.names.lookup y=some .local) (ha:PA X [a,b] ta)
  (hw:swappedStores [.Tuple [.Name x px,.Name y py] kt pt] (.Tuple [a,b] k2 pt2) X.env=pure (some [x,y]))
  (hs:swapsWithSole [.Tuple [.Name x px,.Name y py] kt pt] (.Tuple [a,b] k2 pt2) pos.line X.env=pure false:=by rfl) :
  PS X (.Assign [.Tuple [.Name x px,.Name y py] kt pt] (.Tuple [a,b] k2 pt2) pos) (qpF i j ta):=by
 intro pins s σ H D I h;rw [exec_Assign_arm];refine wpAny_bind (wpAny_standAt ?_);rw [hs];refine wpAny_bind (wpAny_pure ?_);rw [if_neg (by decide)];refine wpAny_bind (Tuple_ (thn (ha _ pins s σ H _ I h) λus s1 ⟨vs,H1,I1,r1,q1⟩=>?_));obtain ⟨v,w,e1,q1⟩:=q1;subst e1;obtain ⟨u1,u2,rfl,rv,rw'⟩:∃ u1 u2,us=[u1,u2]/\QJ v u1/\QJ w u2:=by
  cases r1 with
  |cons p q=>
   cases q with
   |cons p' q'=>
    cases q';exact ⟨_,_,rfl,p,p'⟩
 refine wpAny_newObj_type ?_ (by show 2<=sizeLine;decide);have I2:Inv X pins σ H1 { s1 with heap:=s1.heap.push { cls:=.type "tuple",data:=.seq [u1,u2].toArray } }:=I1.kept (t':=s1.toks) λb o e=>Heap.get?_push_of_some _ e;rw [hw];refine wpAny_bind (wpAny_pure ?_);show wpAny (model X.prog X.w) X.A (do rule "assign.swapped-stores";let items←unpackItems (.ref s1.heap.objs.size) 2 none;assignInOrder [λv=>bindName X.env y v,λv=>bindName X.env x v] items.reverse;pure Flow.next) _ _ _;refine wpAny_bind (wpAny_rule (wpAny_bind (unpackItems_tuple (items:=#[u1,u2]) (I.ok.hd hc) (IsTup.new s1.heap _) λh' hx'=>?_)));have I3:=I2.kept (h':=h') (t':=s1.toks) λb o e=>hx' b o (Nat.ne_of_lt (Heap.lt_size e)) e;show wpAny _ _ (assignInOrder [λv=>bindName X.env y v,λv=>bindName X.env x v] [u2,u1] >>= λ_=>pure Flow.next) _ _ _;refine wpAny_bind (assignInOrder_cons (wpAny_bindName (YK I3 hN hj (.inl hy) rw' (λs2 I4=>?_) (.inr hy))));refine assignInOrder_cons (wpAny_bindName (YK I4 hN hi (.inl hx) rv (λs3 I5=>assignInOrder_nil (wpAny_pure ?_)) (.inr hx)));rw [List.set_comm _ _ (Ne.symm hij)] at I5;exact ⟨_,H1,I5,q1⟩
end
section
variable {X:Cx} {pos:Pos}
def qhQ (c:TT) (tb:TS):TS:=λD σ H=>∃ W:Nat->St->Hp->Prop,(∃ m,W m σ H)/\∀ m σ H,W m σ H ->
 c σ H λb H1=>if b=true then ∃ N:St->Hp->Prop,(∀ σ' H',N σ' H'->∃ m',m'<m/\W m' σ' H')/\tb { D with nx:=N,ct:=N,bk:=D.nx } σ H1 else D.nx σ H1
def qbW {c:Expr} {body:List Stmt} {tc:TT} {tb:TS} (hp:PassesOwn (model X.prog X.w) X.A X.env X.xe) (hc:PT X c tc) (hb:PSs X body tb):PS X (.While c body [] pos) (qhQ tc tb):=by
 intro pins s σ H D I h;obtain ⟨W,⟨m0,w0⟩,turn⟩:=h;refine wpAny_While (codeAny_whileLoop (λn s'=>∃ σ' H',Inv X pins σ' H' s'/\W n σ' H') ?_ m0 ⟨σ,H,I,w0⟩);rintro n s1 ⟨σ1,H1,I1,w1⟩;refine wpAny_passesOwn hp (thn (hc pins s1 σ1 H1 _ I1 (turn n σ1 H1 w1)) λb s2 ⟨H2,I2,q2⟩=>?_);cases b with
 |true=>
  obtain ⟨N,hN,q2⟩:=q2;rw [if_pos rfl];refine wpAny_passesOwn hp (thn (hb pins s2 σ1 H2 _ I2 q2) λf s3 q3=>?_);cases f with
  |next=>
   obtain ⟨σ3,H3,I3,n3⟩:=q3;obtain ⟨m',hm,w3⟩:=hN σ3 H3 n3;exact ⟨m',hm,σ3,H3,I3,w3⟩
  |cont=>
   obtain ⟨σ3,H3,I3,n3⟩:=q3;obtain ⟨m',hm,w3⟩:=hN σ3 H3 n3;exact ⟨m',hm,σ3,H3,I3,w3⟩
  |brk=>exact q3
  |ret v=>exact q3
 |false=>
  rw [if_neg Bool.false_ne_true];exact wpAny_execs_nil ⟨σ1,H2,I2,q2⟩
end
structure It where
 go:Nat->Hp->Prop
 yld:Nat->Hp->V->Hp->Prop
 stop:Nat->Hp->Prop
def LA (X:Cx) (pins:List (Addr×Obj)) (H:Hp) (b:Addr):Prop:=
 H b=none/\b≠X.env.locals/\b∉X.fs/\(b∈X.ex\/X.s₀.heap.objs.size<=b)/\(∀ x c,X.env.cells.lookup x=some c->c≠b)/\∀ p∈X.pn++pins,p.1≠b
def Inv.fpOk {X:Cx} {pins:List (Addr×Obj)} {σ:St} {H H':Hp} {s:Shared} {b:Addr} (I:Inv X pins σ H s) (hb:s.heap.objs.size<=b) (hn:H' b=none):LA X pins H' b:=by
 refine ⟨hn,Nat.ne_of_gt (Nat.lt_of_lt_of_le I.lt hb),I.nofs hb,.inr (Nat.le_trans I.sz hb),λx c e z=>?_,λp hp z=>?_⟩
 ·obtain ⟨v,q⟩:=I.cell x c e;exact absurd (Nat.lt_of_lt_of_le q.lt (by rw [z];exact hb)) (Nat.lt_irrefl _)
 ·exact absurd (Nat.lt_of_lt_of_le (Heap.lt_size (I.pin p hp).1) (by rw [z];exact hb)) (Nat.lt_irrefl _)
structure Turn (P:Program) (w:World) (K:Frg) (tg:Expr) (J:It) (fp:List Addr) (it:Addr) (tn:Nat->Heap->Prop):Prop where
 mem:it∈fp
 obj:∀ i h,tn i h->∀ b∈fp,∃ o,h.get? b=some o/\∀ v,o.data≠.cell v
 keep:∀ i h h',tn i h->(∀ b∈fp,∀ o,h.get? b=some o->h'.get? b=some o)->tn i h'
 item:∀ (X:Cx),X.prog=P->X.w=w->X.K=K->X.calm=true->∀ (i:Nat) (pins:List (Addr×Obj)) (s:Shared) (σ:St) (H:Hp) (E:Value->Shared->Prop),Inv X pins σ H s->(∀ b∈fp,LA X pins H b)->tn i s.heap->J.go i H ->
  wpAny (model P w) X.A (pyNext (.ref it)) (λr s1=>∃ u,r=some u /\
   wpAny (model P w) X.A (letOwnedTupleGo tg (.ref it) u) (λ_ s2=>∃ x H',Inv X pins σ H' s2/\QJ x u/\J.yld i H x H'/\tn (i+1) s2.heap/\∀ b∈fp,H' b=none) E s1) E s
 done:∀ (X:Cx),X.prog=P->X.w=w->X.K=K->X.calm=true->∀ (i:Nat) (pins:List (Addr×Obj)) (s:Shared) (σ:St) (H:Hp) (E:Value->Shared->Prop),Inv X pins σ H s->(∀ b∈fp,LA X pins H b)->tn i s.heap->J.stop i H ->
  wpAny (model P w) X.A (pyNext (.ref it)) (λr s1=>r=none/\Inv X pins σ H s1) E s
 self:∀ (A:Around) (i:Nat) (s:Shared) (Q:Value->Shared->Prop) (E:Value->Shared->Prop),tn i s.heap->Q (.ref it) s->wpAny (model P w) A (pyIter (.ref it)) Q E s
abbrev TI:=St->Hp->(It->Hp->Prop)->Prop
def PIE (X:Cx) (pins:List (Addr×Obj)) (σ:St) (tg:Expr) (R:It->Hp->Prop) (itv:Value) (s2:Shared):Prop:=
 ∃ (it:Addr) (fp:List Addr) (tn:Nat->Heap->Prop) (J:It) (H':Hp),itv=.ref it/\Inv X pins σ H' s2/\Turn X.prog X.w X.K tg J fp it tn/\tn 0 s2.heap/\(∀ b∈fp,LA X pins H' b)/\R J H'
def PI (X:Cx) (tg iter:Expr) (wi:TI):Prop:=
 ∀ (pins:List (Addr×Obj)) (s:Shared) (σ:St) (H:Hp) (R:It->Hp->Prop),Inv X pins σ H s->wi σ H R ->
  wpAny (model X.prog X.w) X.A (eval iter X.env) (λv s1=>wpAny (model X.prog X.w) X.A (pyIter v) (PIE X pins σ tg R) X.xe s1) X.xe s
def qfF {M:Model} {A:Around} {E:Value->Shared->Prop} {s:Shared} {tg:Expr} {it:Addr} {u:Value} {o:Obj} {n:String} {vs:Array Value} {Q:Unit->Shared->Prop} (ho:s.heap.get? it=some o) (hc:o.cls=.type n) (hd:o.data=.fields vs)
    (hn:["enumerate","zip","dict_itemiterator","dict_reverseitemiterator","odict_iterator","itertools.zip_longest","itertools.pairwise"].contains n=false) (hQ:Q () s):wpAny M A (letOwnedTupleGo tg (.ref it) u) Q E s:=by
  unfold letOwnedTupleGo;cases tg<;>first
    |exact wpAny_pure hQ
    | (cases u<;>first
        |exact wpAny_pure hQ
        | (refine wpAny_bind (wpAny_load ho ?_)
           rw [hc,hd];show wpAny M A (if (["enumerate","zip","dict_itemiterator","dict_reverseitemiterator","odict_iterator","itertools.zip_longest","itertools.pairwise"].contains n&&vs[0]?==some (rawInt _))=true then _ else _) Q E s;rw [if_neg (by intro h;rw [hn,Bool.false_and] at h;cases h)];exact wpAny_pure hQ))
def Itl (K:Frg) (a:Addr):It:=
 ⟨λi H=>∃ xs x,SqL K H a xs/\xs[i]?=some x,λi H x H'=>H'=H/\∀ xs,SqL K H a xs->xs[i]?=some x,λi H=>∃ xs,SqL K H a xs/\xs.length<=i⟩
def Itt (K:Frg) (a:Addr):It:=
 ⟨λi H=>∃ xs x,SqT K H a xs/\xs[i]?=some x,λi H x H'=>H'=H/\∀ xs,SqT K H a xs->xs[i]?=some x,λi H=>∃ xs,SqT K H a xs/\xs.length<=i⟩
def Itr (lo:Int) (n:Nat):It:=⟨λi _=>i<n,λi H x H'=>H'=H/\x=.int (lo+i),λi _=>n<=i⟩
def qa6 {P:Program} {w:World} {K:Frg} {tg:Expr} (a it:Addr):Turn P w K tg (Itl K a) [it] it (λi h=>h.IsListIter it a i) where
 mem:=by simp
 obj:=λi h st b hb=>by
  have e:b=it:=by simpa using hb
  subst e;obtain ⟨o,e,c,d⟩:=st;exact ⟨o,e,λv z=>by rw [d] at z;cases z⟩
 keep:=λi h h' st k=>st.at λo e=>k it (by simp) o e
 item:=by
  intro X hP hw hK hc i pins s σ H E I hf st hg;subst hP hw hK;obtain ⟨xs,x,hq,hx⟩:=hg;obtain ⟨its,rv,p,hz⟩:=I.list hq;obtain ⟨u,hu,ru⟩:=rv.get hx;obtain ⟨f0,f1,f2,f3,f4,f5⟩:=hf it (by simp);refine wpAny_pyNext_list_item st p.isList (x:=u) (by simpa using hu) λh' st' sb=>?_;have I1:Inv X pins σ H { s with heap:=h' }:=I.turned (t':=s.toks) (λb o hb e=>(sb.2 b hb).trans e) f0 f1 f3 f4 f5;obtain ⟨o,e,c,d⟩:=id st';exact ⟨u,rfl,qfF (s:={ s with heap:=h' }) e c d (by decide) ⟨x,H,I1,ru,⟨rfl,λys hy=>by rw [I.list_inj hy hq];exact hx⟩,st',λb hb=>(hf b hb).1⟩⟩
 done:=by
  intro X hP hw hK hc i pins s σ H E I hf st hg;subst hP hw hK;obtain ⟨xs,hq,hx⟩:=hg;obtain ⟨its,rv,p,hz⟩:=I.list hq;obtain ⟨f0,f1,f2,f3,f4,f5⟩:=hf it (by simp);have hl:=rv.length;exact wpAny_pyNext_list_end (I.ok.hd hc) st p.isList (by simp;omega) λh' eb=>⟨rfl,I.turned (t':=s.toks) (λb o hb e=>eb b o hb e) f0 f1 f3 f4 f5⟩
 self:=λ_ _ _ _ _ st h=>wpAny_pyIter_listiter st h
def NM {P:Program} {w:World} {K:Frg} {tg:Expr} (a it:Addr):Turn P w K tg (Itt K a) [it] it (λi h=>h.IsTupleIter it a i) where
 mem:=by simp
 obj:=λi h st b hb=>by
  have e:b=it:=by simpa using hb
  subst e;obtain ⟨o,e,c,d⟩:=st;exact ⟨o,e,λv z=>by rw [d] at z;cases z⟩
 keep:=λi h h' st k=>st.at λo e=>k it (by simp) o e
 item:=by
  intro X hP hw hK hc i pins s σ H E I hf st hg;subst hP hw hK;obtain ⟨xs,x,hq,hx⟩:=hg;obtain ⟨its,rv,p,hz⟩:=I.tuple hq;obtain ⟨u,hu,ru⟩:=rv.get hx;obtain ⟨f0,f1,f2,f3,f4,f5⟩:=hf it (by simp);refine wpAny_pyNext_tuple_item st (show s.heap.IsTuple a its.toArray from p) (x:=u) (by simpa using hu) λh' st' sb=>?_;have I1:Inv X pins σ H { s with heap:=h' }:=I.turned (t':=s.toks) (λb o hb e=>(sb.2 b hb).trans e) f0 f1 f3 f4 f5;obtain ⟨o,e,c,d⟩:=id st';exact ⟨u,rfl,qfF (s:={ s with heap:=h' }) e c d (by decide) ⟨x,H,I1,ru,⟨rfl,λys hy=>by rw [I.tuple_inj hy hq];exact hx⟩,st',λb hb=>(hf b hb).1⟩⟩
 done:=by
  intro X hP hw hK hc i pins s σ H E I hf st hg;subst hP hw hK;obtain ⟨xs,hq,hx⟩:=hg;obtain ⟨its,rv,p,hz⟩:=I.tuple hq;obtain ⟨f0,f1,f2,f3,f4,f5⟩:=hf it (by simp);have hl:=rv.length;exact wpAny_pyNext_tuple_end (I.ok.hd hc) st (show s.heap.IsTuple a its.toArray from p) (by simp;omega) λh' eb=>⟨rfl,I.turned (t':=s.toks) (λb o hb e=>eb b o hb e) f0 f1 f3 f4 f5⟩
 self:=λ_ _ _ _ _ st h=>wpAny_pyIter_tupleiter st h
def NJ {P:Program} {w:World} {K:Frg} {tg:Expr} (it:Addr) (lo:Int) (n:Nat):Turn P w K tg (Itr lo n) [it] it (λi h=>IsRangeIter h it (lo+(i:Nat)*1) ((n:Int)-(i:Nat)) 1) where
 mem:=by simp
 obj:=λi h st b hb=>by
  have e:b=it:=by simpa using hb
  subst e;exact ⟨_,st,λv z=>by
   have z':Data.fields _=Data.cell v:=z;cases z'⟩
 keep:=λi h h' st k=>k it (by simp) _ st
 item:=by
  intro X hP hw hK hc i pins s σ H E I hf st hg;subst hP hw hK;obtain ⟨f0,f1,f2,f3,f4,f5⟩:=hf it (by simp);have W:=Walks.range (prog:=X.prog) (w:=X.w) (I.ok.hd hc) it lo 1 n;refine W.item i s _ _ hg st λv h' tk hv st' kk=>?_;obtain ⟨t,rfl⟩:=hv;have I1:Inv X pins σ H { s with heap:=h',toks:=tk }:=I.turned (λb o hb e=>kk b o (by simpa using hb) e) f0 f1 f3 f4 f5;refine ⟨_,rfl,qfF (s:={ s with heap:=h',toks:=tk }) (n:="range_iterator") st' rfl rfl (by decide) ⟨.int (lo+i),H,I1,⟨t,?_⟩,⟨rfl,rfl⟩,st',λb hb=>(hf b hb).1⟩⟩;rw [Int.mul_one]
 done:=by
  intro X hP hw hK hc i pins s σ H E I hf st hg;subst hP hw hK;obtain ⟨f0,f1,f2,f3,f4,f5⟩:=hf it (by simp);exact wpAny_pyNext_range_end (I.ok.hd hc) st (by have:n<=i:=hg;omega) λh' eb=>⟨rfl,I.turned (t':=s.toks) (λb o hb e=>eb b o hb e) f0 f1 f3 f4 f5⟩
 self:=λ_ _ _ _ _ st h=>wpAny_pyIter_rangeiter st h
section
variable {X:Cx} {tg:Expr}
def qcG {pins:List (Addr×Obj)} {σ:St} {H:Hp} {s:Shared} {R:It->Hp->Prop} {E:Value->Shared->Prop} {lo hi:Int} {t u v:Tok} {tk:Nat} (I:Inv X pins σ H s) (h1:-(2 ^ 62)<=lo) (h2:lo<2 ^ 62) (h3:-(2 ^ 62)<=hi) (h4:hi<2 ^ 62)
  (q:R (Itr lo (hi-lo).toNat) H):wpAny (model X.prog X.w) X.A (pyIter (.ref s.heap.objs.size)) (PIE X pins σ tg R) E { s with heap:=s.heap.push { cls:=.type "range",data:=.fields #[.int lo t,.int hi u,.int 1 v] },toks:=tk }:=by
 refine wpAny_pyIter_range (IsRange.new ..) (small_one h1 h2 h3 h4) ?_;have I1:Inv X pins σ H { s with heap:=s.heap.push { cls:=.type "range",data:=.fields #[.int lo t,.int hi u,.int 1 v] },toks:=tk }:=I.kept λb o e=>Heap.get?_push_of_some _ e;refine ⟨(s.heap.push { cls:=.type "range",data:=.fields #[.int lo t,.int hi u,.int 1 v] }).objs.size,[(s.heap.push { cls:=.type "range",data:=.fields #[.int lo t,.int hi u,.int 1 v] }).objs.size],_,_,H,rfl,
  I1.kept (t':=tk) λb o e=>Heap.get?_push_of_some _ e,NJ _ lo (hi-lo).toNat,?_,λb hb=>?_,q⟩
 ·have e1:lo+((0:Nat):Int)*1=lo:=by simp
  have e2:(((hi-lo).toNat:Nat):Int)-((0:Nat):Int)=Builtin.Range.rangeSize lo hi 1:=by rw [rangeSize_one];split<;>omega
  show IsRangeIter _ _ (lo+((0:Nat):Int)*1) ((((hi-lo).toNat:Nat):Int)-((0:Nat):Int)) 1;rw [e1,e2];exact Heap.get?_push_size _ rfl
 ·have e:b=(s.heap.push { cls:=.type "range",data:=.fields #[.int lo t,.int hi u,.int 1 v] }).objs.size:=by simpa using hb
  subst e;exact I1.fpOk (Nat.le_refl _) (I1.hok.fresh (Nat.le_refl _))
def qnF (ta:TA):TI:=λσ H R=>ta σ H λvs H1=>∃ j:Int,vs=[.int j]/\-(2 ^ 62)<=j/\j<2 ^ 62/\R (Itr 0 j.toNat) H1
def qbD {a:Expr} {ta:TA} {p pos:Pos} (hg:Gl X "range") (hm:X.mg "range" = none) (ha:PA X [a] ta) (hs:starEach [a] X.env=[(false,eval a X.env)]:=by rfl):PI X tg (.Call (.Name "range" p) [a] [] pos) (qnF ta):=by
 intro pins s σ H R I h;refine Call_ (SI I hg hm boot_range (PyProof.Rows.callWith_type1 (thn (ha pos pins s σ H _ I h) λus s1 ⟨vs,H1,I1,r1,q1⟩=>?_) hs rfl));obtain ⟨j,e,q1,q2,q⟩:=q1;subst e;cases r1 with
 |cons r rr=>
  cases rr;obtain ⟨t,rfl⟩:=r;exact call_range_1 (qcG I1 (by omega) (by omega) q1 q2 (by simpa using q))
def qpg (wi:TI) (g:TG) (tb:TS):TS:=λD σ H=>wi σ H λJ H1=>∃ W:Nat->Nat->St->Hp->Prop,(∃ m,W 0 m σ H1)/\∀ i m σ H,W i m σ H ->
 (J.stop i H/\D.nx σ H)\/(J.go i H/\∃ N:St->Hp->Prop,(∀ σ' H',N σ' H'->∃ m',m'<m/\W (i+1) m' σ' H')/\∀ x H',J.yld i H x H'->g x σ H' λσ2 H2=>tb { D with nx:=N,ct:=N,bk:=D.nx } σ2 H2)
def C0 (fp:List Addr) (h:Heap):List (Addr×Obj):=fp.filterMap λb=>(h.get? b).map λo=>(b,o)
def ZY {fp:List Addr} {h:Heap} {b:Addr} {o:Obj} (hb:b∈fp) (e:h.get? b=some o):(b,o)∈C0 fp h:=List.mem_filterMap.mpr ⟨b,hb,by rw [e];rfl⟩
def NZ {fp:List Addr} {h:Heap} {p:Addr×Obj} (hp:p∈C0 fp h):p.1∈fp/\h.get? p.1=some p.2:=by
 obtain ⟨b,hb,e⟩:=List.mem_filterMap.mp hp;cases q:h.get? b with
 |none=>rw [q] at e;cases e
 |some o=>
  rw [q] at e;have e':(b,o)=p:=Option.some.inj e;subst e';exact ⟨hb,q⟩
def Inv.pinned {pins:List (Addr×Obj)} {σ:St} {H:Hp} {s:Shared} {fp:List Addr} (I:Inv X pins σ H s) (hf:∀ b∈fp,LA X pins H b) (ho:∀ b∈fp,∃ o,s.heap.get? b=some o/\∀ v,o.data≠.cell v):Inv X (pins++C0 fp s.heap) σ H s:=
 I.pins_of λp hp=>(List.mem_append.mp hp).elim (λz=>I.pin p (mem_append_right _ z)) λz=>by
  obtain ⟨hb,e⟩:=NZ z;obtain ⟨f0,f1,f2,_⟩:=hf p.1 hb;obtain ⟨o,e',d⟩:=ho p.1 hb;rw [e] at e';cases e';exact ⟨e,f0,f1,f2,d⟩
def Inv.unpinned {pins pl:List (Addr×Obj)} {σ:St} {H:Hp} {s:Shared} (I:Inv X (pins++pl) σ H s):Inv X pins σ H s:=I.pins_of λp hp=>I.pin p (mem_append_right _ (List.mem_append_left _ hp))
def qiK {iter:Expr} {body:List Stmt} {wi:TI} {g:TG} {tb:TS} {pos:Pos} (hp:PassesOwn (model X.prog X.w) X.A X.env X.xe) (hc:X.calm=true) (hi:PI X tg iter wi) (hg:PG X tg g) (hb:PSs X body tb)
  (hs:∀ x,foldedSetIterable iter X.env x=pure x:=by intro _;rfl):PS X (.For tg iter body [] pos) (qpg wi g tb):=by
 intro pins s σ H D I h;refine wpAny_For (thn (hi pins s σ H _ I h) λv s1 h1=>thn h1 λitv s2 h2=>?_) hs;obtain ⟨it,fp,tn,J,H2,e,I2,T,st2,f2,W,⟨m0,w0⟩,turn⟩:=h2;subst e
 -- what stays true of the iterator's objects through the loop
 have stat:∀ {H':Hp},(∀ b∈fp,H' b=none)->∀ b∈fp,LA X pins H' b:=λhn b hb=>⟨hn b hb,(f2 b hb).2⟩
 refine codeAny_forLoop_any (λn s'=>∃ i σ' H',Inv X pins σ' H' s'/\tn i s'.heap/\(∀ b∈fp,H' b=none)/\W i n σ' H') ?_ m0 ⟨0,σ,H2,I2,st2,λb hb=>(f2 b hb).1,w0⟩;rintro n s3 ⟨i,σ3,H3,I3,st3,fr3,w3⟩;rcases turn i n σ3 H3 w3 with ⟨stop,qn⟩|⟨go,N,hN,step⟩
 ·refine wpAny_passesOwn hp (thn (T.done X rfl rfl rfl hc i pins s3 σ3 H3 X.xe I3 (stat fr3) st3 stop) λr s4 ⟨hr,I4⟩=>?_);subst hr;exact wpAny_execs_nil ⟨σ3,H3,I4,qn⟩
 ·refine wpAny_passesOwn hp (thn (T.item X rfl rfl rfl hc i pins s3 σ3 H3 X.xe I3 (stat fr3) st3 go) λr s4 ⟨u,hr,h4⟩=>?_);subst hr;refine wpAny_passesOwn hp (thn h4 λ_ s5 ⟨x,H5,I5,r5,y5,st5,fr5⟩=>?_);have I5':=I5.pinned (stat fr5) (T.obj _ _ st5);refine wpAny_passesOwn hp (thn (hg _ s5 σ3 H5 x u _ I5' r5 (step x H5 y5)) λ_ s6 ⟨σ6,H6,I6,q6⟩=>?_);refine wpAny_passesOwn hp (thn (hb _ s6 σ6 H6 _ I6 q6) λf s7 q7=>?_);have again:∀ {σ7:St} {H7:Hp},Inv X (pins++C0 fp s5.heap) σ7 H7 s7->N σ7 H7->∃ m,m<n/\∃ i σ' H',Inv X pins σ' H' s7/\tn i s7.heap/\(∀ b∈fp,H' b=none)/\W i m σ' H':=λ{σ7 H7} I7 n7=>by
   obtain ⟨m',hm,w7⟩:=hN σ7 H7 n7;refine ⟨m',hm,i+1,σ7,H7,I7.unpinned,T.keep _ _ _ st5 λb hb o e=>(I7.pin (b,o) (mem_append_right _ (mem_append_right _ (ZY hb e)))).1,λb hb=>?_,w7⟩;obtain ⟨o,e,d⟩:=T.obj _ _ st5 b hb;exact (I7.pin (b,o) (mem_append_right _ (mem_append_right _ (ZY hb e)))).2.1
  cases f with
  |next=>obtain ⟨σ7,H7,I7,n7⟩:=q7;exact again I7 n7
  |cont=>obtain ⟨σ7,H7,I7,n7⟩:=q7;exact again I7 n7
  |brk=>obtain ⟨σ7,H7,I7,q7⟩:=q7;exact ⟨σ7,H7,I7.unpinned,q7⟩
  |ret v=>obtain ⟨x7,σ7,H7,I7,r7,q7⟩:=q7;exact ⟨x7,σ7,H7,I7.unpinned,r7,q7⟩
end
abbrev R2:=V->V->Hp->VK->Prop
def OpR (X:Cx) (f:Value->Value->Sem Value) (r:R2):Prop:=
 ∀ (pins:List (Addr×Obj)) (s:Shared) (σ:St) (H:Hp) (x y:V) (v u:Value) (Q:VK),Inv X pins σ H s->QJ x v->QJ y u->r x y H Q ->
  wpAny (model X.prog X.w) X.A (f v u) (EP X pins σ Q) X.xe s
def UnR (X:Cx) (f:Value->Sem Value) (r:V->Hp->VK->Prop):Prop:=
 ∀ (pins:List (Addr×Obj)) (s:Shared) (σ:St) (H:Hp) (x:V) (v:Value) (Q:VK),Inv X pins σ H s->QJ x v->r x H Q ->
  wpAny (model X.prog X.w) X.A (f v) (EP X pins σ Q) X.xe s
def JU (X:Cx) (f:Value) (r:List V->Hp->VK->Prop):Prop:=
 ∀ (pins:List (Addr×Obj)) (s:Shared) (σ:St) (H:Hp) (xs:List V) (us:List Value) (Q:VK),Inv X pins σ H s->jx xs us->r xs H Q ->
  wpAny (model X.prog X.w) X.A (call f us) (EP X pins σ Q) X.xe s
def tOp (r:R2) (ta tb:TE):TE:=λσ H Q=>ta σ H λx H1=>tb σ H1 λy H2=>r x y H2 Q
def tUn (r:V->Hp->VK->Prop) (ta:TE):TE:=λσ H Q=>ta σ H λx H1=>r x H1 Q
def rI (C:Int->Int->Prop) (g:Int->Int->V):R2:=λx y H Q=>∃ i j,x=.int i/\y=.int j/\C i j/\Q (g i j) H
def rI0 (g:Int->Int->V):R2:=λx y H Q=>∃ i j,x=.int i/\y=.int j/\Q (g i j) H
def rU (g:Int->V):V->Hp->VK->Prop:=λx H Q=>∃ i,x=.int i/\Q (g i) H
section
variable {X:Cx} {a b c:Expr} {ta tb tc:TE} {pos:Pos}
def qnB (ha:PE X a ta) (hb:PE X b tb) {pins:List (Addr×Obj)} {s:Shared} {σ:St} {H:Hp} {R:V->V->Hp->Prop} (I:Inv X pins σ H s)
  (h:ta σ H λx H1=>tb σ H1 λy H2=>R x y H2) {Q:Value->Shared->Prop} {f:Value->Value->Sem Value}
  (hf:∀ v u s2 x y H2,Inv X pins σ H2 s2->QJ x v->QJ y u->R x y H2->wpAny (model X.prog X.w) X.A (f v u) Q X.xe s2) :
  wpAny (model X.prog X.w) X.A (eval a X.env) (λv s₁=>wpAny (model X.prog X.w) X.A (eval b X.env) (λu s₂=>wpAny (model X.prog X.w) X.A (f v u) Q X.xe s₂) X.xe s₁) X.xe s:=by
 refine thn (ha pins s σ H _ I h) λv s1 ⟨x,H1,I1,r1,q1⟩=>?_;refine thn (hb pins s1 σ H1 _ I1 q1) λu s2 ⟨y,H2,I2,r2,q2⟩=>?_;exact hf v u s2 x y H2 I2 r1 r2 q2
def ql5 {op:Operator} {r:R2} (ho:OpR X (binaryOp op) r) (ha:PE X a ta) (hb:PE X b tb):PE X (.BinOp a op b pos) (tOp r ta tb):=by
 intro pins s σ H Q I h;exact wpAny_BinOp (qnB ha hb I h λv u s2 x y H2 I2 rx ry q=>ho pins s2 σ H2 x y v u Q I2 rx ry q)
def qmS {op:UnaryOp} {r:V->Hp->VK->Prop} (ho:UnR X (unaryOp op) r) (ha:PE X a ta):PE X (.UnaryOp op a pos) (tUn r ta):=by
 intro pins s σ H Q I h;exact UnaryOp_ (thn (ha pins s σ H _ I h) λv s1 ⟨x,H1,I1,r1,q1⟩=>ho pins s1 σ H1 x v Q I1 r1 q1)
def opI {f:Value->Value->Sem Value} {C:Int->Int->Prop} {g:Int->Int->Int}
  (rule:∀ (i j:Int) (t u:Tok) (s:Shared) (Q:Value->Shared->Prop) (E:Value->Shared->Prop),C i j->Q (.int (g i j) s.toks) { s with toks:=s.toks+1 }->wpAny (model X.prog X.w) X.A (f (.int i t) (.int j u)) Q E s) :
  OpR X f (rI C λi j=>.int (g i j)):=by
 intro pins s σ H x y v u Q I rx ry h;obtain ⟨i,j,rfl,rfl,hc,q⟩:=h;obtain ⟨t,rfl⟩:=rx;obtain ⟨t',rfl⟩:=ry;exact rule i j t t' s _ _ hc ⟨.int (g i j),H,I.tok _,⟨_,rfl⟩,q⟩
def qoc {f:Value->Value->Sem Value} {g:Int->Int->Int}
  (rule:∀ (i j:Int) (t u:Tok) (s:Shared) (Q:Value->Shared->Prop) (E:Value->Shared->Prop),Q (.int (g i j) s.toks) { s with toks:=s.toks+1 }->wpAny (model X.prog X.w) X.A (f (.int i t) (.int j u)) Q E s) :
  OpR X f (rI0 λi j=>.int (g i j)):=by
 intro pins s σ H x y v u Q I rx ry h;obtain ⟨i,j,rfl,rfl,q⟩:=h;obtain ⟨t,rfl⟩:=rx;obtain ⟨t',rfl⟩:=ry;exact rule i j t t' s _ _ ⟨.int (g i j),H,I.tok _,⟨_,rfl⟩,q⟩
def qlT {f:Value->Value->Sem Value} {g:Int->Int->Bool}
  (rule:∀ (i j:Int) (t u:Tok) (s:Shared) (Q:Value->Shared->Prop) (E:Value->Shared->Prop),Q (.bool (g i j)) s->wpAny (model X.prog X.w) X.A (f (.int i t) (.int j u)) Q E s) :
  OpR X f (rI0 λi j=>.bl (g i j)):=by
 intro pins s σ H x y v u Q I rx ry h;obtain ⟨i,j,rfl,rfl,q⟩:=h;obtain ⟨t,rfl⟩:=rx;obtain ⟨t',rfl⟩:=ry;exact rule i j t t' s _ _ ⟨.bl (g i j),H,I,rfl,q⟩
def qfW (i j:Int):Prop:=0<j/\j<1073741824
def TW (i j:Int):Prop:=0<=j/\j<=1000000/\i.natAbs<2 ^ 64
def V9 (i j:Int):Prop:=(-(2 ^ 64)<i/\i<2 ^ 64)\/(-(2 ^ 64)<j/\j<2 ^ 64)
def V9.ok {i j:Int} (h:V9 i j):IntMulOk i j:=by
 rcases h with ⟨h1,h2⟩|⟨h1,h2⟩
 ·exact .of_left (intBits_le_64 h1 h2)
 ·exact .of_right (intBits_le_64 h1 h2)
def qd0:OpR X (binaryOp .Add) (rI0 λi j=>.int (i+j)):=qoc λ_ _ _ _ _ _ _ q=>add_int q
def qjA:OpR X (binaryOp .Sub) (rI0 λi j=>.int (i-j)):=qoc λ_ _ _ _ _ _ _ q=>sub_int q
def qj3:OpR X (binaryOp .Mult) (rI V9 λi j=>.int (i*j)):=opI λ_ _ _ _ _ _ _ hc q=>mul_int q hc.ok
def qf1:OpR X (binaryOp .FloorDiv) (rI qfW λi j=>.int (i/j)):=opI λi j _ _ _ _ _ hc q=>by
 have h1:(0:Int)<j:=hc.1;have h2:j<1073741824:=hc.2;exact floordiv_int (by omega) (by rw [Int.fdiv_eq_ediv_of_nonneg i (by omega)];exact q) (.inl (PyProof.noPylong_small (by omega)))
def qho:OpR X (binaryOp .Mod) (rI (λ_ j=>0<j) λi j=>.int (i%j)):=opI λi j _ _ _ _ _ hc q=>by
 have h1:(0:Int)<j:=hc;exact mod_int' (by omega) (by rw [Int.fmod_eq_emod_of_nonneg i (by omega)];exact q)
def qk3:OpR X (binaryOp .Pow) (rI TW λi j=>.int (i ^ j.toNat)):=opI λ_ _ _ _ _ _ _ hc q=>pow_int_small hc.1 hc.2.1 hc.2.2 q
def qle:OpR X (binaryOp .LShift) (rI TW λi j=>.int (i*2 ^ j.toNat)):=opI λ_ _ _ _ _ _ _ hc q=>lshift_int_small hc.1 hc.2.1 hc.2.2 q
def unI {f:Value->Sem Value} {g:Int->Int}
  (rule:∀ (i:Int) (t:Tok) (s:Shared) (Q:Value->Shared->Prop) (E:Value->Shared->Prop),Q (.int (g i) s.toks) { s with toks:=s.toks+1 }->wpAny (model X.prog X.w) X.A (f (.int i t)) Q E s) :
  UnR X f (rU λi=>.int (g i)):=by
 intro pins s σ H x v Q I rx h;obtain ⟨i,rfl,q⟩:=h;obtain ⟨t,rfl⟩:=rx;exact rule i t s _ _ ⟨.int (g i),H,I.tok _,⟨_,rfl⟩,q⟩
def qhf:UnR X (unaryOp .USub) (rU λi=>.int (-i)):=unI λ_ _ _ _ _ q=>neg_int q
end
def qnA:V->V->Bool
 |.non,.non=>true|.non,.int _=>true|.int _,.non=>true|.non,.bl _=>true|.bl _,.non=>true|.non,.str _=>true|.str _,.non=>true
 |.int _,.int _=>true|.bl _,.bl _=>true|.str _,.str _=>true|.byt _,.byt _=>true
 |.int _,.str _=>true|.str _,.int _=>true|.bl _,.str _=>true|.str _,.bl _=>true
 |_,_=>false
def rEq:R2:=λx y H Q=>qnA x y=true/\Q (.bl (decide (x=y))) H
def rNe:R2:=λx y H Q=>qnA x y=true/\Q (.bl (!decide (x=y))) H
def qbC {i j:Int}:decide (V.int i=V.int j)=(i==j):=by
 rw [Bool.eq_iff_iff];simp
def qd7 {i j:Bool}:decide (V.bl i=V.bl j)=(i==j):=by
 rw [Bool.eq_iff_iff];simp
def qa1 {i j:Str}:decide (V.str i=V.str j)=(i==j):=by
 rw [Bool.eq_iff_iff];simp
def qaX {i j:Array UInt8}:decide (V.byt i=V.byt j)=(i.toList==j.toList):=by
 rw [Bool.eq_iff_iff];cases i;cases j;simp
section
variable {X:Cx} {a b c:Expr} {ta tb tc:TE} {pos:Pos}
def zt {pins:List (Addr×Obj)} {σ:St} {H:Hp} {s:Shared} {Q:VK} {k k':Bool} (I:Inv X pins σ H s) (q:Q (.bl k) H) (e:k=k'):EP X pins σ Q (.bool k') s:=by
 subst e;exact ⟨.bl k,H,I,rfl,q⟩
def qmi:OpR X (compareOp .Eq) rEq:=by
 intro pins s σ H x y v u Q I rx ry h;obtain ⟨hs,q⟩:=h;cases x with
 |non=>
  cases rx;cases y with
  |non=>cases ry;exact PySem.EqNone.eq_none_none (zt I q (by simp))
  |bl j=>cases ry;exact PySem.EqNone.eq_none_bool (zt I q (by simp))
  |int j=>obtain ⟨t',rfl⟩:=ry;exact PySem.EqNone.eq_none_int (zt I q (by simp))
  |str j=>obtain ⟨t',rfl⟩:=ry;exact PySem.EqNone.eq_none_str (zt I q (by simp))
  |_=>exact absurd (show false=true from hs) Bool.false_ne_true
 |bl i=>
  cases rx;cases y with
  |non=>cases ry;exact PySem.EqNone.eq_bool_none (zt I q (by simp))
  |bl j=>cases ry;exact eq_bool (zt I q qd7)
  |str j=>obtain ⟨t',rfl⟩:=ry;exact PySem.EqMixed.eq_bool_str (zt I q (by simp))
  |_=>exact absurd (show false=true from hs) Bool.false_ne_true
 |int i=>
  obtain ⟨t,rfl⟩:=rx;cases y with
  |non=>cases ry;exact PySem.EqNone.eq_int_none (zt I q (by simp))
  |int j=>obtain ⟨t',rfl⟩:=ry;exact eq_int (zt I q qbC)
  |str j=>obtain ⟨t',rfl⟩:=ry;exact PySem.EqMixed.eq_int_str (zt I q (by simp))
  |_=>exact absurd (show false=true from hs) Bool.false_ne_true
 |str i=>
  obtain ⟨t,rfl⟩:=rx;cases y with
  |non=>cases ry;exact PySem.EqNone.eq_str_none (zt I q (by simp))
  |bl j=>cases ry;exact PySem.EqMixed.eq_str_bool (zt I q (by simp))
  |int j=>obtain ⟨t',rfl⟩:=ry;exact PySem.EqMixed.eq_str_int (zt I q (by simp))
  |str j=>obtain ⟨t',rfl⟩:=ry;exact eq_str (zt I q qa1)
  |_=>exact absurd (show false=true from hs) Bool.false_ne_true
 |byt i=>
  obtain ⟨t,rfl⟩:=rx;cases y with
  |byt j=>obtain ⟨t',rfl⟩:=ry;exact PySem.W.eq_bytes (zt I q qaX)
  |_=>exact absurd (show false=true from hs) Bool.false_ne_true
 |_=>cases y<;>exact absurd (show false=true from hs) Bool.false_ne_true
def qnl:OpR X (compareOp .NotEq) rNe:=by
 intro pins s σ H x y v u Q I rx ry h;obtain ⟨hs,q⟩:=h;cases x with
 |non=>
  cases rx;cases y with
  |non=>cases ry;exact PySem.EqNone.ne_none_none (zt I q (by simp))
  |bl j=>cases ry;exact PySem.EqNone.ne_none_bool (zt I q (by simp))
  |int j=>obtain ⟨t',rfl⟩:=ry;exact PySem.EqNone.ne_none_int (zt I q (by simp))
  |str j=>obtain ⟨t',rfl⟩:=ry;exact PySem.EqNone.ne_none_str (zt I q (by simp))
  |_=>exact absurd (show false=true from hs) Bool.false_ne_true
 |bl i=>
  cases rx;cases y with
  |non=>cases ry;exact PySem.EqNone.ne_bool_none (zt I q (by simp))
  |bl j=>cases ry;exact ne_bool (zt I q (congrArg not qd7))
  |str j=>obtain ⟨t',rfl⟩:=ry;exact PySem.EqMixed.ne_bool_str (zt I q (by simp))
  |_=>exact absurd (show false=true from hs) Bool.false_ne_true
 |int i=>
  obtain ⟨t,rfl⟩:=rx;cases y with
  |non=>cases ry;exact PySem.EqNone.ne_int_none (zt I q (by simp))
  |int j=>obtain ⟨t',rfl⟩:=ry;exact ne_int (zt I q (congrArg not qbC))
  |str j=>obtain ⟨t',rfl⟩:=ry;exact PySem.EqMixed.ne_int_str (zt I q (by simp))
  |_=>exact absurd (show false=true from hs) Bool.false_ne_true
 |str i=>
  obtain ⟨t,rfl⟩:=rx;cases y with
  |non=>cases ry;exact PySem.EqNone.ne_str_none (zt I q (by simp))
  |bl j=>cases ry;exact PySem.EqMixed.ne_str_bool (zt I q (by simp))
  |int j=>obtain ⟨t',rfl⟩:=ry;exact PySem.EqMixed.ne_str_int (zt I q (by simp))
  |str j=>obtain ⟨t',rfl⟩:=ry;exact ne_str (zt I q (congrArg not qa1))
  |_=>exact absurd (show false=true from hs) Bool.false_ne_true
 |byt i=>
  obtain ⟨t,rfl⟩:=rx;cases y with
  |byt j=>obtain ⟨t',rfl⟩:=ry;exact PySem.W.ne_bytes (zt I q (congrArg not qaX))
  |_=>exact absurd (show false=true from hs) Bool.false_ne_true
 |_=>cases y<;>exact absurd (show false=true from hs) Bool.false_ne_true
def qav:OpR X (compareOp .Lt) (rI0 λi j=>.bl (decide (i<j))):=qlT λ_ _ _ _ _ _ _ q=>lt_int q
def qb3:OpR X (compareOp .LtE) (rI0 λi j=>.bl (decide (i<=j))):=qlT λ_ _ _ _ _ _ _ q=>le_int q
def K8:OpR X (compareOp .Gt) (rI0 λi j=>.bl (decide (j<i))):=qlT λ_ _ _ _ _ _ _ q=>gt_int q
def qaN:OpR X (compareOp .GtE) (rI0 λi j=>.bl (decide (j<=i))):=qlT λ_ _ _ _ _ _ _ q=>ge_int q
def qbJ:OpR X (compareOp .Is) (λx y H Q=>y=.non/\Q (.bl (decide (x=.non))) H):=by
 intro pins s σ H x y v u Q I rx ry h;obtain ⟨rfl,q⟩:=h;cases ry;refine is_none_gen (zt I q ?_);cases x<;>first
  | (cases rx;rfl)
  | (obtain ⟨t,rfl⟩:=rx;rfl)
def OpR.or {f:Value->Value->Sem Value} {r r':R2} (h:OpR X f r) (h':OpR X f r'):OpR X f (λx y H Q=>r x y H Q\/r' x y H Q):=by
 intro pins s σ H x y v u Q I rx ry q;rcases q with q|q
 ·exact h pins s σ H x y v u Q I rx ry q
 ·exact h' pins s σ H x y v u Q I rx ry q
def qo (b:Expr) {op:CmpOp} (h:op≠.In:=by decide) (h2:op≠.NotIn:=by decide):behindInMarks op b=false:=by
 have e1:(op==CmpOp.In)=false:=by cases op<;>first|rfl|exact absurd rfl h
 have e2:(op==CmpOp.NotIn)=false:=by cases op<;>first|rfl|exact absurd rfl h2
 cases b<;>simp [behindInMarks,e1,e2]
def qfB {op:CmpOp} {r:R2} (ho:OpR X (compareOp op) r) (ha:PE X a ta) (hb:PE X b tb) (hm:behindInMarks op b=false):PE X (.Compare a [op] [b] pos) (tOp r ta tb):=by
 intro pins s σ H Q I h;exact wpAny_Compare1 (qnB ha hb I h λv u s2 x y H2 I2 rx ry q=>ho pins s2 σ H2 x y v u Q I2 rx ry q) hm
def qhZ (t:TE):TT:=λσ H Q=>t σ H λx H'=>∃ k,x=.bl k/\Q k H'
def qe8 {op:CmpOp} {r:R2} (ho:OpR X (compareOp op) r) (ha:PE X a ta) (hb:PE X b tb) (hm:behindInMarks op b=false):PT X (.Compare a [op] [b] pos) (qhZ (tOp r ta tb)):=by
 intro pins s σ H Q I h;refine wpAny_isTrue_Compare1 (thn (ha pins s σ H _ I h) λv s1 ⟨x,H1,I1,r1,q1⟩=>thn (hb pins s1 σ H1 _ I1 q1) λu s2 ⟨y,H2,I2,r2,q2⟩=>
  thn (ho pins s2 σ H2 x y v u _ I2 r1 r2 q2) λc s3 ⟨z,H3,I3,r3,k,e,q3⟩=>?_) hm
 subst e;cases r3;exact wpAny_truthy_bool ⟨H3,I3,q3⟩
def SW:(sizeLine:Nat)<2 ^ 63:=by rw [sizeLine_eq];decide
def MR:OpR X (binaryOp .Add) (λx y H Q=>∃ i j,x=.str i/\y=.str j/\i.length+j.length<=sizeLine/\Q (.str (i++j)) H):=by
 intro pins s σ H x y v u Q I rx ry h;obtain ⟨i,j,rfl,rfl,hz,q⟩:=h;obtain ⟨t,rfl⟩:=rx;obtain ⟨t',rfl⟩:=ry;exact add_str (λt' tk=>⟨.str (i++j),H,I.tok _,⟨_,rfl⟩,q⟩) hz
def WA {x:V} {us:List Value} (r:jx [x] us):∃ u,us=[u]/\QJ x u:=by
 cases r with
 |cons r1 r2=>cases r2;exact ⟨_,rfl,r1⟩
def M4 {x y:V} {us:List Value} (r:jx [x,y] us):∃ u w',us=[u,w']/\QJ x u/\QJ y w':=by
 cases r with
 |cons r1 r2=>
  cases r2 with
  |cons r3 r4=>cases r4;exact ⟨_,_,rfl,r1,r3⟩
def LY:JU X (.builtin "abs") (λxs H Q=>∃ i,xs=[.int i]/\Q (.int (if i<0 then -i else i)) H):=by
 intro pins s σ H xs us Q I r h;obtain ⟨i,rfl,q⟩:=h;obtain ⟨u,rfl,t,rfl⟩:=WA r;exact call_abs_int λu tk=>⟨.int (if i<0 then -i else i),H,I.tok _,⟨_,rfl⟩,q⟩
def qbm (hc:X.calm=true):JU X (.builtin "max") (λxs H Q=>∃ i j,xs=[.int i,.int j]/\Q (.int (if j > i then j else i)) H):=by
 intro pins s σ H xs us Q I r h;obtain ⟨i,j,rfl,q⟩:=h;obtain ⟨u,w',rfl,⟨t,rfl⟩,⟨t',rfl⟩⟩:=M4 r;refine max_two_ints (I.ok.hd hc) λh' tk k=>⟨_,H,I.kept k,?_,q⟩
 by_cases hj:j > i
 ·rw [if_pos hj,if_pos hj];exact ⟨_,rfl⟩
 ·rw [if_neg hj,if_neg hj];exact ⟨_,rfl⟩
def SX (hc:X.calm=true):JU X (.builtin "min") (λxs H Q=>∃ i j,xs=[.int i,.int j]/\Q (.int (if j<i then j else i)) H):=by
 intro pins s σ H xs us Q I r h;obtain ⟨i,j,rfl,q⟩:=h;obtain ⟨u,w',rfl,⟨t,rfl⟩,⟨t',rfl⟩⟩:=M4 r;refine min_two_ints (I.ok.hd hc) λh' tk k=>⟨_,H,I.kept k,?_,q⟩
 by_cases hj:j<i
 ·rw [if_pos hj,if_pos hj];exact ⟨_,rfl⟩
 ·rw [if_neg hj,if_neg hj];exact ⟨_,rfl⟩
def SB:JU X (.type "int") (λxs H Q=>(∃ i,xs=[.int i]/\Q (.int i) H)\/∃ k,xs=[.bl k]/\Q (.int (if k then 1 else 0)) H):=by
 intro pins s σ H xs us Q I r h;rcases h with ⟨i,rfl,q⟩|⟨k,rfl,q⟩
 ·obtain ⟨u,rfl,t,rfl⟩:=WA r;exact call_int_int ⟨.int i,H,I,⟨_,rfl⟩,q⟩
 ·obtain ⟨u,rfl,r1⟩:=WA r;cases r1;exact call_int_bool ⟨.int (if k then 1 else 0),H,I.tok _,⟨_,rfl⟩,q⟩
def qn4 (K:Frg) (x:V) (H:Hp) (n:Nat):Prop:=
 match x with
 |.str y=>y.length<=sizeLine/\n=y.length
 |.byt y=>y.size<=sizeLine/\n=y.size
 |.ref p=>(∃ xs,SqL K H p xs/\n=xs.length)\/∃ xs,SqT K H p xs/\n=xs.length
 |_=>False
def qD:JU X (.builtin "len") (λxs H Q=>∃ x n,xs=[x]/\qn4 X.K x H n/\Q (.int n) H):=by
 intro pins s σ H xs us Q I r h;obtain ⟨x,n,rfl,e,q⟩:=h;obtain ⟨u,rfl,rx⟩:=WA r;have hl:=SW;have hs:sizeLine=16777216:=sizeLine_eq;cases x with
 |str y=>
  obtain ⟨t,rfl⟩:=rx;obtain ⟨hy,e'⟩:y.length<=sizeLine/\n=y.length:=e;subst e';exact len_str (by omega) ⟨.int _,H,I.tok _,⟨_,rfl⟩,q⟩
 |byt y=>
  obtain ⟨t,rfl⟩:=rx;obtain ⟨hy,e'⟩:y.size<=sizeLine/\n=y.size:=e;subst e';exact PySem.W.len_bytes (by omega) ⟨.int _,H,I.tok _,⟨_,rfl⟩,q⟩
 |ref p=>
  cases rx;have e':(∃ xs,SqL X.K H p xs/\n=xs.length)\/∃ xs,SqT X.K H p xs/\n=xs.length:=e;rcases e' with ⟨xs,hx,e'⟩|⟨xs,hx,e'⟩
  ·subst e';obtain ⟨its,r',pl,hz⟩:=I.list hx;have hlen:=r'.length;exact Calls.call_len_list pl.isList (by simp only [size_toArray];omega) ⟨.int xs.length,H,I.tok _,⟨_,by simp only [size_toArray];rw [hlen]⟩,q⟩
  ·subst e';obtain ⟨its,r',pl,hz⟩:=I.tuple hx;have hlen:=r'.length;exact len_tuple pl (by simp only [size_toArray];omega) ⟨.int xs.length,H,I.tok _,⟨_,by simp only [size_toArray];rw [hlen]⟩,q⟩
 |_=>exact (show False from e).elim
end
section
variable {prog:Program} {w:World} {A:Around} {E:Value->Shared->Prop} {s:Shared} {K:Frg} {x dx C f:Addr} {mA:Str->Option Value} {name:Str} {v:Value}
end
section
variable {P:Program} {w:World} {H H':Hp} {h h':Heap} {a C dx:Addr} {fs fs':List (Str×V)}
end
section
variable {X:Cx} {pins:List (Addr×Obj)} {σ:St} {H:Hp} {s:Shared} {a C dx:Addr} {fs:List (Str×V)} {f:Str} {v:V} {A:Around} {E:Value->Shared->Prop}
end
section
variable {X:Cx} {o e value:Expr} {f:Str} {pos pos' tpos:Pos} {ta tv:TE}
end
section
variable {X:Cx} {pins:List (Addr×Obj)} {σ:St} {H:Hp} {s:Shared} {A:Around} {E:Value->Shared->Prop} {Q:Value->Shared->Prop} {c:Value} {b:Bool}
end
structure Room (k:Nat) (A:Around):Prop where
 hd:A.handled=none
 dp:A.depth+3*k+5<recursionLimit
 un:A.units+16*k+200<cLine
 gd:A.guards=some []
def Room.mono {j k:Nat} {A:Around} (r:Room k A) (h:j<=k):Room j A:=⟨r.hd,by have:=r.dp;omega,by have:=r.un;omega,r.gd⟩
def Room.deeper {k:Nat} {A:Around} (r:Room (k+1) A) (env:Env):Room k (A.deeper env):=
 ⟨r.hd,by have:=r.dp;show A.depth+1+3*k+5<_;omega,by have:=r.un;show A.units+3+16*k+200<_;omega,r.gd⟩
def Room.in1 {k:Nat} {A:Around} (r:Room (k+1) A):Room k A.in1:=
 ⟨r.hd,by have:=r.dp;show A.depth+3*k+5<_;omega,by have:=r.un;show A.units+1+16*k+200<_;omega,r.gd⟩
def Room.depth {k:Nat} {A:Around} (r:Room k A):A.depth<recursionLimit:=by have:=r.dp;omega
def Room.units {k:Nat} {A:Around} (r:Room k A):A.units+64<cLine:=by have:=r.un;omega
def qpD:TA:=λ_ H Q=>Q [] H
def qmW (ta:TE) (tr:TA):TA:=λσ H Q=>ta σ H λx H1=>tr σ H1 λxs H2=>Q (x::xs) H2
section
variable {X:Cx} {e:Expr} {es:List Expr} {te:TE} {t:TA} {pos:Pos}
def ME:PA X [] qpD:=λ_ _ _ _ H Q I h=>Calls.spliced_nil ⟨[],H,I,.nil,h⟩
def UT (ha:PE X e te) (hr:PA X es t) (hs:starEach (e::es) X.env=(false,eval e X.env)::starEach es X.env:=by rfl):PA X (e::es) (qmW te t):=by
 intro pos pins s σ H Q I h;rw [hs];show wpAny _ _ (spliced ((false,eval e X.env)::backTo pos (starEach es X.env))) _ _ s;refine Calls.spliced_cons (thn (ha pins s σ H _ I h) λu s1 ⟨x,H1,I1,r1,q1⟩=>?_);exact thn (hr pos pins s1 σ H1 _ I1 q1) λus s2 ⟨xs,H2,I2,r2,q2⟩=>⟨x::xs,H2,I2,.cons r1 r2,q2⟩
def qoW (t:TA):TE:=λσ H Q=>t σ H λxs H1=>xs.length<=sizeLine/\∀ p,H1 p=none->Q (.ref p) (upd H1 p (.tup xs))
def qps (t:TA):TE:=λσ H Q=>t σ H λxs H1=>xs.length<=sizeLine/\∀ p,H1 p=none->Q (.ref p) (upd H1 p (.lst xs))
def qdK {x1} (h:PA X es t):PE X (.Tuple es x1 pos) (qoW t):=by
 intro pins s σ H Q I hq;refine wpAny_Tuple_spliced (thn (h pos pins s σ H _ I hq) λus s1 ⟨xs,H1,I1,r,z,q⟩=>⟨by rw [← r.length];exact z,?_⟩);have hf:H1 s1.heap.objs.size=none:=I1.hok.fresh (Nat.le_refl _);refine ⟨.ref s1.heap.objs.size,upd H1 s1.heap.objs.size (.tup xs),I1.laid (t':=s1.toks) (λb u e=>Heap.get?_push_of_some _ e) (Nat.le_refl _) ?_,rfl,q _ hf⟩;exact ⟨z,us,r,⟨_,Heap.get?_push_size _ rfl,rfl,_,rfl⟩⟩
def qiO (h:PA X es t):PE X (.List es pos) (qps t):=by
 intro pins s σ H Q I hq;refine wpAny_List_spliced (thn (h pos pins s σ H _ I hq) λus s1 ⟨xs,H1,I1,r,z,q⟩=>⟨by rw [← r.length];exact z,?_⟩);have hf:H1 s1.heap.objs.size=none:=I1.hok.fresh (Nat.le_refl _);refine ⟨.ref s1.heap.objs.size,upd H1 s1.heap.objs.size (.lst xs),I1.laid (t':=s1.toks) (λb u e=>Heap.get?_push_of_some _ e) (Nat.le_refl _) ?_,rfl,q _ hf⟩;exact ⟨z,us,0,r,Heap.get?_push_size _ rfl⟩
end
abbrev Sp:=List V->Hp->VK->XK->Prop
abbrev CXT:=List Env->Hp->Shared->XK->Value->Shared->Prop
structure Env0 (P:Program) (w:World) (K:Frg) (mg:Str->Option Value) (base:Heap) (A:Around) (outer:List Env) (s:Shared) (H:Hp):Prop where
 frames:A.frames=some outer
 mod:Mod K mg base
 bs:∀ b o,base.get? b=some o->s.heap.get? b=some o/\H b=none
 bsz:base.objs.size<=s.heap.objs.size
 funs:s.heap.FunFrames base outer
 frf:∀ b∈frs outer,H b=none
 hok:HOk P w H s.heap
 bare:AllBare s.gens
def CE (outer:List Env) (P:Program) (w:World) (H:Hp) (s:Shared) (Q:VK) (u:Value) (s':Shared):Prop:=
 ∃ v H',s'.os=s.os/\AllBare s'.gens/\Un (frs outer) [] H H' s.heap s'.heap/\HOk P w H' s'.heap/\QJ v u/\Q v H'
def CR (CX:CXT) (outer:List Env) (P:Program) (w:World) (H:Hp) (s:Shared) (Q:VK) (E:XK) (r:Result) (s':Shared):Prop:=
 match r with
 |.ok (.ret u)=>CE outer P w H s Q u s'
 |.ok _=>False
 |.error e=>CX outer H s E e s'
structure FnOk (P:Program) (w:World) (K:Frg) (mg:Str->Option Value) (base:Heap) (CX:CXT) (k:Nat) (f:Addr) (fd:FuncData) (ps:List Str) (sp:Sp):Prop where
 len:∀ vs H Q E,sp vs H Q E->vs.length=ps.length
 run:∀ (A:Around) (outer:List Env) (s:Shared) (H:Hp) (args:Args) (us:List Value) (vs:List V) (Q:VK) (E:XK),Room k A->Env0 P w K mg base A outer s H->BindsTo s fd args (ps.zip us)->jx vs us->sp vs H Q E ->
  codeAny (model P w) A (.call (.ref f) args) (CR CX outer P w H s Q E) s
def FnOk.mono {P:Program} {w:World} {K:Frg} {mg:Str->Option Value} {base:Heap} {CX:CXT} {j k:Nat} {f:Addr} {fd:FuncData} {ps:List Str} {sp:Sp} (F:FnOk P w K mg base CX j f fd ps sp) (h:j<=k) :
  FnOk P w K mg base CX k f fd ps sp:=⟨F.len,λA outer s H args us vs Q E hr=>F.run A outer s H args us vs Q E (hr.mono h)⟩
def FnOk.imp {P:Program} {w:World} {K:Frg} {mg:Str->Option Value} {base:Heap} {CX:CXT} {k:Nat} {f:Addr} {fd:FuncData} {ps:List Str} {sp sp':Sp} (F:FnOk P w K mg base CX k f fd ps sp)
  (h:∀ vs H Q E,sp' vs H Q E->sp vs H Q E):FnOk P w K mg base CX k f fd ps sp':=
 ⟨λvs H Q E q=>F.len vs H Q E (h _ _ _ _ q),λA outer s H args us vs Q E hr he hb hv hs=>F.run A outer s H args us vs Q E hr he hb hv (h _ _ _ _ hs)⟩
def Env0.in1 {P:Program} {w:World} {K:Frg} {mg:Str->Option Value} {base:Heap} {A:Around} {outer:List Env} {s:Shared} {H:Hp} (e:Env0 P w K mg base A outer s H) :
  Env0 P w K mg base A.in1 outer s H:=⟨e.frames,e.mod,e.bs,e.bsz,e.funs,e.frf,e.hok,e.bare⟩
section
variable {X:Cx} {pins:List (Addr×Obj)} {σ:St} {H:Hp} {s s':Shared}
def Inv.env0 (I:Inv X pins σ H s):Env0 X.prog X.w X.K X.mg X.base X.A X.stack s H:=
 ⟨I.ok.frames,I.ok.mod,I.bs,Nat.le_trans I.ok.bsz I.sz,I.stack,I.stkFree,I.hok,I.bare⟩
def Inv.after {Q:VK} {u:Value} (I:Inv X pins σ H s) (h:CE X.stack X.prog X.w H s Q u s'):EP X pins σ Q u s':=by
 obtain ⟨v,H',os,bare,un,hok,r,q⟩:=h;obtain ⟨hh,g,d,t,os'⟩:=s';obtain rfl:os'=s.os:=os;exact ⟨v,H',I.call (h':=hh) (g':=g) (d':=d) (t':=t) (ch:=[]) un hok bare (λb z=>absurd z (by simp)),r,q⟩
end
def qmk (sp:Sp) (dvs:List V) (E:XK) (t:TA):TE:=λσ H Q=>t σ H λvs H1=>sp (vs++dvs) H1 Q E
def zX (K:Frg) (fd:FuncData) (ps:List Str) (ds:List Value):Prop:=
 ∀ (s:Shared) (us:List Value),K.In s.heap->(us++ds).length=ps.length->BindsTo s fd ⟨us,[]⟩ (ps.zip (us++ds))
def zX.all {K:Frg} {fd:FuncData} {ps:List Str} (h:∀ us:List Value,us.length=ps.length->bindArgs fd ⟨us,[]⟩=pure (ps.zip us)):zX K fd ps []:=λs us _ hl=>by
 rw [List.append_nil] at hl ⊢;exact .of_eq (h us hl)
def qao (CX:CXT) (X:Cx) (E:XK):Prop:=∀ (pins:List (Addr×Obj)) (σ:St) (H:Hp) (s:Shared) (e:Value) (s':Shared),Inv X pins σ H s->CX X.stack H s E e s'->X.xe e s'
section
variable {X:Cx} {CX:CXT} {k:Nat} {f C:Addr} {fd:FuncData} {ps:List Str} {sp:Sp} {dvs:List V} {ds:List Value} {E:XK} {x m:Str} {p pos apos:Pos} {e o:Expr} {es:List Expr} {ta:TE} {t:TA}
def qjb {pins:List (Addr×Obj)} {σ:St} {H:Hp} {s:Shared} {Q:VK} {us:List Value} {vs:List V} (F:FnOk X.prog X.w X.K X.mg X.base CX k f fd ps sp) (hr:Room k X.A) (hb:zX X.K fd ps ds) (hd:jx dvs ds) (hx:qao CX X E)
  (I:Inv X pins σ H s) (r:jx vs us) (h:sp (vs++dvs) H Q E):wpAny (model X.prog X.w) X.A (call (.ref f) us) (EP X pins σ Q) X.xe s:=by
 have r2:jx (vs++dvs) (us++ds):=r.append hd;have hl:(us++ds).length=ps.length:=by rw [← r2.length];exact F.len _ _ _ _ h
 refine wpAny_call (codeAny_mono (F.run X.A X.stack s H ⟨us,[]⟩ (us++ds) (vs++dvs) Q E hr I.env0 (hb s us I.kIn hl) r2 h) λr s' hq=>?_);cases r with
 |error e=>exact hx pins σ H s e s' I hq
 |ok fl=>
  cases fl with
  |ret u=>exact I.after hq
  |next=>exact False.elim hq
  |brk=>exact False.elim hq
  |cont=>exact False.elim hq
def qgO (F:FnOk X.prog X.w X.K X.mg X.base CX k f fd ps sp) (hr:Room k X.A) (hg:Gl X x) (hm:X.mg x=some (.ref f)) (hk:PySem.W.keepIn X.K (.ref f)=true) (hb:zX X.K fd ps ds) (hd:jx dvs ds) (hx:qao CX X E)
  (ha:PA X (e::es) t) (hdb:(x==("__debug__" : Str))=false:=by decide) (he:starEach (e::es) X.env=(false,eval e X.env)::starEach es X.env:=by rfl) (hpl:(backTo pos (starEach es X.env)).any (·.1)=false:=by rfl) :
  PE X (.Call (.Name x p) (e::es) [] pos) (qmk sp dvs E t):=by
 intro pins s σ H Q I h;refine wpAny_Call_Name_kw (qfy I hg hm ?_ hdb);refine PySem.W.callWith_K (h₀:=X.base) I.ok.mod.kin hk (thn (ha pos pins s σ H _ I h) λus s1 ⟨vs,H1,I1,r,q⟩=>⟨I1.kIn,?_⟩) he hpl;exact qjb F hr hb hd hx I1 r q
end
section
variable {X:Cx} {CX:CXT} {k:Nat} {f C:Addr} {fd:FuncData} {ps ks:List Str} {sp:Sp} {E:XK} {x m:Str} {p pos apos kpos:Pos} {e o:Expr} {es:List Expr} {kws:List Keyword} {te ta:TE} {t tk:TA} {nm:Option Str}
variable {g:List Value->List Value->List Value} {gV:List V->List V->List V}
end
structure FnScope (N P:List Str) (sc:Scope):Prop where
 kind:sc.kind=.function
 co:sc.isCoroutine=false
 gen:sc.isGenerator=false
 nd:N.Nodup
 pre:N.take P.length=P
 par:∀ x∈P,sc.names.lookup x=some .local\/sc.names.lookup x=some .cell
 nofree:∀ y∈sc.names,y.2≠.free
def SC {kindOf:Str->Option NameKind} {x:Str}:∀ {binds:List (Str×Value)} {m:Str->Option Value},(∀ v,(x,v)∉binds)->bindL kindOf binds m x=m x
 |[],_,_=>rfl
 | (n,v)::r,m,h=>by
  unfold bindL;rw [SC λw hw=>h w (List.mem_cons_of_mem _ hw)];split
  ·have:x≠n:=by rintro rfl;exact h v List.mem_cons_self
   simp [this]
  ·rfl
def SQ {kindOf:Str->Option NameKind} {x:Str}:∀ {binds:List (Str×Value)} {m:Str->Option Value},(∀ v,(x,v)∉binds)->bindC kindOf binds m x=m x
 |[],_,_=>rfl
 | (n,v)::r,m,h=>by
  unfold bindC;rw [SQ λw hw=>h w (List.mem_cons_of_mem _ hw)];split
  ·rfl
  ·have:x≠n:=by rintro rfl;exact h v List.mem_cons_self
   simp [this]
def SR {kindOf:Str->Option NameKind} {x:Str} {v:Value}:∀ {P:List Str} {vs:List Value} {i:Nat} {m:Str->Option Value},P.Nodup->P[i]?=some x->vs[i]?=some v->kindOf x=some .local ->
  bindL kindOf (P.zip vs) m x=some v
 |[],_,_,_,_,h,_,_=>by simp at h
 |_::_,[],_,_,_,_,h,_=>by simp at h
 |p::P,w::vs,0,m,nd,h1,h2,hk=>by
  simp at h1 h2;subst h1;subst h2;show bindL kindOf ((p,w)::P.zip vs) m p=_;unfold bindL;rw [SC λv hv=>(List.nodup_cons.mp nd).1 (List.of_mem_zip hv).1,if_pos hk];simp
 |p::P,w::vs,i+1,m,nd,h1,h2,hk=>by
  show bindL kindOf ((p,w)::P.zip vs) m x=_;unfold bindL;exact SR (i:=i) (List.nodup_cons.mp nd).2 (by simpa using h1) (by simpa using h2) hk
def SY {kindOf:Str->Option NameKind} {x:Str} {v:Value}:∀ {P:List Str} {vs:List Value} {i:Nat} {m:Str->Option Value},P.Nodup->P[i]?=some x->vs[i]?=some v->kindOf x≠some .local ->
  bindC kindOf (P.zip vs) m x=some v
 |[],_,_,_,_,h,_,_=>by simp at h
 |_::_,[],_,_,_,_,h,_=>by simp at h
 |p::P,w::vs,0,m,nd,h1,h2,hk=>by
  simp at h1 h2;subst h1;subst h2;show bindC kindOf ((p,w)::P.zip vs) m p=_;unfold bindC;rw [SQ λv hv=>(List.nodup_cons.mp nd).1 (List.of_mem_zip hv).1,if_neg hk];simp
 |p::P,w::vs,i+1,m,nd,h1,h2,hk=>by
  show bindC kindOf ((p,w)::P.zip vs) m x=_;unfold bindC;exact SY (i:=i) (List.nodup_cons.mp nd).2 (by simpa using h1) (by simpa using h2) hk
def XS (N:List Str) (vs:List V):St:=vs.map some++List.replicate (N.length-vs.length) none
def qbU (CX:CXT) (P:Program) (w:World) (K:Frg) (mg:Str->Option Value) (base:Heap) (N:List Str) (qual:Str) (scope:Scope) (f:Addr) (cd:Value) (A:Around) (outer:List Env) (s:Shared) (H:Hp) (E:XK):Cx where
 prog:=P
 w:=w
 K:=K
 mg:=mg
 base:=base
 A:=A.deeper (envOfC qual scope s.heap.objs.size f cd)
 N:=N
 s₀:=s
 H₀:=H
 env:=envOfC qual scope s.heap.objs.size f cd
 outer:=outer
 stack:=envOfC qual scope s.heap.objs.size f cd::outer
 ex:=[]
 calm:=true
 fn:=λ_=>true
 pn:=[]
 xe:=λe s'=>wpAny (model P w) (A.deeper (envOfC qual scope s.heap.objs.size f cd)) (leaving (envOfC qual scope s.heap.objs.size f cd) e) (λ_ s''=>CX outer H s E e s'') (λe' s''=>CX outer H s E e' s'') s'
def LG {sc:Scope} {n:Nat} {x:Str} (h:sc.names.lookup x=some .cell):∃ c,(cellsFrom n sc.names []).lookup x=some c:=by
 have q:=PySem.W.cellsFrom_some sc.names n [] (.inl h);exact Option.isSome_iff_exists.mp q
def qap {CX:CXT} {P:Program} {w:World} {K:Frg} {mg:Str->Option Value} {base:Heap} {N ps:List Str} {qual:Str} {scope:Scope} {f:Addr} {cd:Value} {A:Around} {outer:List Env} {s s1:Shared} {H:Hp} {E:XK} {us:List Value} {vs:List V}
  (S:FnScope N ps scope) (hd:A.handled=none) (e0:Env0 P w K mg base A outer s H) (hl:vs.length=ps.length) (r:jx vs us)
  (x:InCallC s s.heap.objs.size (bindL (envOfC qual scope s.heap.objs.size f cd).kindOf (ps.zip us) λ_=>none) (cellsFrom (s.heap.objs.size+1) scope.names []) (bindC (envOfC qual scope s.heap.objs.size f cd).kindOf (ps.zip us) λ_=>none) s1) :
  Inv (qbU CX P w K mg base N qual scope f cd A outer s H E) [] (XS N vs) H s1:=by
 have hpl:ps.length<=N.length:=by have:=congrArg List.length S.pre;rw [List.length_take] at this;omega
 obtain ⟨h1,tk,rfl,hk⟩:=x.done;have noA:∀ b:Addr,b∉(qbU CX P w K mg base N qual scope f cd A outer s H E).ex:=λb z=>absurd (show b∈([]:List Addr) from z) (by simp);refine ⟨⟨e0.mod,S.kind,rfl,rfl,Nat.le_refl _,λy z c h1 h2=>?_,λy hy=>?_,λy c _ h=>?_,λ_=>hd,Around.frames_deeper e0.frames,.inr ⟨rfl,rfl⟩,λb z=>absurd z (noA b),e0.bs,e0.bsz,λb _ _=>noA b,λb z=>absurd z (noA b),e0.funs,e0.frf⟩,
  rfl,e0.bare,Un.kept hk,⟨_,x.toInCall.ns,λi y v h1 h2 h3=>?_⟩,λy c h=>⟨_,x.cell y c h⟩,e0.hok.fresh (Nat.le_refl _),λy c h=>?_,λp hp=>absurd (show p∈([]:List (Addr×Obj)) from hp) (by simp),e0.hok.kept hk,?_⟩
 ·exact name_of_addr x.apart (PySem.mem_of_lookup h1) (PySem.mem_of_lookup h2)
 ·have hy:scope.names.lookup y=some .cell\/scope.names.lookup y=some .free:=hy;rcases hy with hy|hy
  ·exact LG hy
  ·exact absurd rfl (S.nofree _ (PySem.mem_of_lookup hy))
 ·exact Nat.le_of_lt (x.above y c (PySem.mem_of_lookup h))
 ·have hi:i<vs.length:=by
   unfold XS at h2;by_cases hi:i<vs.length
   ·exact hi
   ·rw [List.getElem?_append_right (by simpa using hi)] at h2;rw [List.getElem?_replicate] at h2;split at h2<;>cases h2
  have ha:vs[i]?=some v:=by
   unfold XS at h2;rw [List.getElem?_append_left (by simpa using hi),getElem?_map] at h2;cases e:vs[i]? with
   |none=>rw [e] at h2;cases h2
   |some a=>rw [e] at h2;cases h2;rfl
  obtain ⟨u,hu,rv⟩:=r.get ha;have hp:ps[i]?=some y:=by
   rw [← S.pre,List.getElem?_take_of_lt (by omega)];exact h1
  have ndP:ps.Nodup:=by rw [← S.pre];exact S.nd.sublist (List.take_sublist _ _)
  refine ⟨u,rv,?_⟩;rcases S.par y (mem_of_getElem? hp) with k|k
  ·exact .inl ⟨k,SR ndP hp hu k⟩
  ·obtain ⟨c,e⟩:=LG (n:=s.heap.objs.size+1) k;refine .inr ⟨.inl k,c,e,?_⟩;have q:=x.cell y c e;rw [SY ndP hp hu (by show scope.names.lookup y≠_;rw [k];decide)] at q;exact q
 ·exact e0.hok.fresh (Nat.le_of_lt (x.above y c (PySem.mem_of_lookup h)))
 ·unfold XS;show _=N.length;rw [length_append,length_map,List.length_replicate];omega
def qnc {CX:CXT} {P:Program} {w:World} {K:Frg} {mg:Str->Option Value} {base:Heap} {k:Nat} {f:Addr} {name qual:Str} {params:Arguments} {body:List Stmt} {scope:Scope} {dV kV doc pm cdv ct oc:Value} {an od:Option Addr}
  {osl:Array (Option Value)} {N ps:List Str} {sp:Sp} (lk:K.lookup f=some ⟨oc,od,.func (PySem.W.fnOf name qual params body scope dV kV doc pm an cdv ct),osl⟩) (hcd:PySem.W.codeIn K cdv qual=true) (S:FnScope N ps scope)
  (len:∀ vs H Q E,sp vs H Q E->vs.length=ps.length)
  (hbody:∀ (A:Around) (outer:List Env) (s:Shared) (H:Hp) (vs:List V) (Q:VK) (E:XK),Room k (A.deeper (envOfC qual scope s.heap.objs.size f cdv))->sp vs H Q E ->
   ∃ t,PSs (qbU CX P w K mg base N qual scope f cdv A outer s H E) body t/\t { nx:=λ_ H'=>Q .non H',rt:=Q } (XS N vs) H) :
  FnOk P w K mg base CX (k+1) f (PySem.W.fnOf name qual params body scope dV kV doc pm an cdv ct) ps sp:=by
 refine ⟨len,λA outer s H args us vs Q E hr e0 hb r hsp=>?_⟩;have hl:=len _ _ _ _ hsp;have KX:K.In s.heap:=e0.mod.kin.keeps λb o e=>(e0.bs b o e).1;have lim:s.heap.NoLimit:=e0.mod.nolimit.keeps λb o e=>(e0.bs b o e).1;have hkind:∀ y∈ps.zip us,scope.names.lookup y.1=some .local\/(scope.names.lookup y.1=some .cell/\((cellsFrom (s.heap.objs.size+1) scope.names []).lookup y.1).isSome=true):=λ⟨n,v⟩ hy=>by
  rcases S.par n (List.of_mem_zip hy).1 with q|q
  ·exact .inl q
  ·exact .inr ⟨q,PySem.W.cellsFrom_some _ _ _ (.inl q)⟩
 refine codeAny_call_function hr.depth (KX _ _ lk) rfl S.co S.gen rfl (PySem.W.codeRec_of KX hcd) (hb _ _ _ _ ?_);refine wpAny_newFunctionEnv_cells S.kind hkind λenv he s1 x=>?_;subst he;refine ⟨lim.keeps x.toInCall.keep,codeAny_func ?_⟩;obtain ⟨t,ht,hq⟩:=hbody A outer s H vs Q E (hr.deeper _) hsp;have I:Inv (qbU CX P w K mg base N qual scope f cdv A outer s H E) [] (XS N vs) H s1:=qap S hr.hd e0 hl r x;refine wpAny_mono (ht [] s1 (XS N vs) H _ I hq) (λfl s' hs=>?_) λe s' hs=>hs;have fin:∀ {σ':St} {H':Hp} {v:V} {u:Value},Inv (qbU CX P w K mg base N qual scope f cdv A outer s H E) [] σ' H' s'->QJ v u->Q v H'->CE outer P w H s Q u s':=
  λ{σ' H' v u} J rv q=>⟨v,H',J.os,J.bare,J.base,J.hok,rv,q⟩
 cases fl with
 |ret u=>
  obtain ⟨v,σ',H',J,rv,q⟩:=hs;exact fin J rv q
 |next=>
  obtain ⟨σ',H',J,q⟩:=hs;exact fin (v:=V.non) (u:=Value.none) J rfl q
 |brk=>
  obtain ⟨_,_,_,q⟩:=hs;exact False.elim q
 |cont=>
  obtain ⟨_,_,_,q⟩:=hs;exact False.elim q
section
variable {X:Cx} {x:Str} {p pos:Pos} {e:Expr} {es:List Expr} {t:TA} {id T:String} {r:List V->Hp->VK->Prop}
def tCB (r:List V->Hp->VK->Prop) (t:TA):TE:=λσ H Q=>t σ H λvs H1=>r vs H1 Q
def RK (hc:JU X (.builtin id) r) (hg:Gl X x) (hm:X.mg x=none) (hv:bootBuiltins x=some (.builtin id)) (ha:PA X (e::es) t) (hn:x≠"__name__" := by decide) (hdb:(x==("__debug__" : Str))=false:=by decide)
  (he:starEach (e::es) X.env=(false,eval e X.env)::starEach es X.env:=by rfl) (hpl:(backTo pos (starEach es X.env)).any (·.1)=false:=by rfl):PE X (.Call (.Name x p) (e::es) [] pos) (tCB r t):=by
 intro pins s σ H Q I h;refine wpAny_Call_Name_kw (SI I hg hm hv ?_ hn hdb);exact PyProof.Rows.callWith_builtin1 (thn (ha pos pins s σ H _ I h) λus s1 ⟨vs,H1,I1,r1,q1⟩=>hc pins s1 σ H1 vs us Q I1 r1 q1) he hpl
def qbL (hc:JU X (.type T) r) (hg:Gl X x) (hm:X.mg x=none) (hv:bootBuiltins x=some (.type T)) (ha:PA X (e::es) t) (hn:x≠"__name__" := by decide) (hdb:(x==("__debug__" : Str))=false:=by decide)
  (he:starEach (e::es) X.env=(false,eval e X.env)::starEach es X.env:=by rfl) (hpl:(backTo pos (starEach es X.env)).any (·.1)=false:=by rfl):PE X (.Call (.Name x p) (e::es) [] pos) (tCB r t):=by
 intro pins s σ H Q I h;refine wpAny_Call_Name_kw (SI I hg hm hv ?_ hn hdb);exact PyProof.Rows.callWith_type1 (thn (ha pos pins s σ H _ I h) λus s1 ⟨vs,H1,I1,r1,q1⟩=>hc pins s1 σ H1 vs us Q I1 r1 q1) he hpl
end
end L2
namespace HT
open PySem PyProof.Rows
section
open PySem.SeqAt
open PySem.MeetsSeq PySem.MeetsSeq2 PySem.MeetsSeq3
end
section
variable {prog:Program} {w:World} {A:Around} {E:Value->Shared->Prop} {s:Shared}
def qgN {t b:Addr} {vs ws:List Value} {Q:Value->Shared->Prop} (ht:IsTup s.heap t vs.toArray) (hb:IsTup s.heap b ws.toArray) (hv:vs≠[])
  (h1:ws=[]->Q (.ref t) s) (h2:ws≠[]->Q (.ref s.heap.objs.size) { s with heap:=s.heap.push { cls:=.type "tuple",data:=.seq (vs++ws).toArray } })
  (hsz:vs.length+ws.length<=sizeLine):wpAny (model prog w) A (binaryOp .Add (.ref t) (.ref b)) Q E s:=by
 obtain ⟨⟨cls,dd,data,sl⟩,ho,hc,n,hd⟩:=id ht;obtain ⟨⟨cls2,dd2,data2,sl2⟩,ho2,hc2,n2,hd2⟩:=id hb;simp only at hc hd hc2 hd2;subst hc hd hc2 hd2;have e:vs.toArray++ws.toArray=(vs++ws).toArray:=by simp
 by_cases hw:ws=[]
 ·exact concat_meets ⟨_,ho,rfl⟩ ⟨_,ho2,rfl⟩ noFill_tuple_add seq_tuple_add PySem.F.slot_tuple_add PySem.F.entry_tuple_add (PySem.F.args_tuple_add_2 _ _)
   (tuple_addW1 t b vs.toArray ws.toArray n n2 dd dd2 sl sl2 (by simpa using hv) (by simp [hw])) ⟨ho,ho2,h1 hw⟩
 ·refine concat_meets ⟨_,ho,rfl⟩ ⟨_,ho2,rfl⟩ noFill_tuple_add seq_tuple_add PySem.F.slot_tuple_add PySem.F.entry_tuple_add (PySem.F.args_tuple_add_2 _ _)
   (tuple_addW2 t b vs.toArray ws.toArray n n2 dd dd2 sl sl2 (by simpa using hv) (by simpa using hw) (by rw [size_toArray,size_toArray];exact hsz)) ⟨ho,ho2,?_⟩
  rw [e];exact h2 hw
def sIx (n d:Nat):Option Int->Nat
 |none=>d
 |some v=>if v<0 then (v+(n:Int)).toNat else min v.toNat n
def LR (n d:Nat):sIx n d none=d:=rfl
def WU (n d k:Nat):sIx n d (some (k:Int))=min k n:=by
 show (if (k:Int)<0 then ((k:Int)+(n:Int)).toNat else min (k:Int).toNat n)=min k n;rw [if_neg (by omega),Int.toNat_natCast]
def qid (n d:Nat) (hd:d<=n) (o:Option Int):sIx n d o<=n:=by
 cases o with
 |none=>exact hd
 |some v=>
  show (if v<0 then (v+(n:Int)).toNat else min v.toNat n)<=n;by_cases hv:v<0
  ·rw [if_pos hv];omega
  ·rw [if_neg hv];exact Nat.min_le_right _ _
def N7 (v:Int) (n d:Nat):(if v<0 then max (v+(n:Int)) 0 else min v (n:Int))=((sIx n d (some v):Nat):Int):=by
 show (if v<0 then max (v+(n:Int)) 0 else min v (n:Int))=(((if v<0 then (v+(n:Int)).toNat else min v.toNat n):Nat):Int);by_cases hv:v<0
 ·simp only [if_pos hv];omega
 ·simp only [if_neg hv];omega
def M3 (lo hi:Option Int) (n:Nat):Builtin.Slice.sliceAdjust lo hi 1 (n:Int)=(((sIx n 0 lo:Nat):Int),((sIx n n hi:Nat):Int)):=by
 have h1:¬ ((1:Int)<0):=by omega
 unfold Builtin.Slice.sliceAdjust;simp only [h1,if_false];refine Prod.ext ?_ ?_
 ·cases lo with
  |none=>rfl
  |some v=>exact N7 v n 0
 ·cases hi with
  |none=>rfl
  |some v=>exact N7 v n n
def NO (i j:Nat):Builtin.Slice.slicePlaces (i:Int) (j:Int) 1=j-i:=by
 unfold Builtin.Slice.slicePlaces;have h1:(1:Int) > 0:=by omega
 simp only [h1,if_true,Int.ediv_one];split<;>omega
def EW {v:Value} {o:Option Int} {Q:Option Int->Shared->Prop} (p:IsPart v o) (h:Q o s):wpAny (model prog w) A (Builtin.Slice.slicePartIndex v) Q E s:=by
 cases p with
 |none=>exact slicePart_none h
 |int i t=>exact slicePart_int h
def VD {sl:Addr} {vl vu:Value} {lo hi:Option Int} {n:Nat} {Q:Int×Int×Nat->Shared->Prop} (hs:s.heap.IsSliceOf sl vl vu .none) (pl:IsPart vl lo) (pu:IsPart vu hi)
  (h:Q (((sIx n 0 lo:Nat):Int),1,sIx n n hi-sIx n 0 lo) s):wpAny (model prog w) A (Builtin.Slice.sliceApplied (.ref sl) (pure (n:Int))) Q E s:=by
 obtain ⟨os,hos,hcs,hds⟩:=id hs;unfold Builtin.Slice.sliceApplied Builtin.Slice.sliceFields;refine wpAny_bind (wpAny_bind (wpAny_field hos hds (x:=vl) rfl (wpAny_bind (wpAny_field hos hds (x:=vu) rfl (wpAny_bind (wpAny_field hos hds (x:=.none) rfl (wpAny_pure ?_)))))));refine wpAny_bind (slicePart_none ?_);show wpAny _ _ (if ((1:Int)==0)=true then _ else _) _ _ s;rw [if_neg (by decide)];refine wpAny_bind (EW pl (wpAny_bind (EW pu (wpAny_bind (wpAny_pure ?_)))));show wpAny _ _ (match Builtin.Slice.sliceAdjust lo hi 1 (n:Int) with|(lo,hi)=>pure (lo,(1:Int),Builtin.Slice.slicePlaces lo hi 1)) _ _ s;rw [M3 lo hi n];show wpAny _ _ (pure (((sIx n 0 lo:Nat):Int),(1:Int),Builtin.Slice.slicePlaces ((sIx n 0 lo:Nat):Int) ((sIx n n hi:Nat):Int) 1)) _ _ s;rw [NO];exact wpAny_pure h
def qcK (xs:Array Value) (i k:Nat):((List.range k).filterMap λ(m:Nat)=>xs[((i:Int)+(m:Int)*1).toNat]?).toArray=((xs.toList.drop i).take k).toArray:=by
 have e:(λ(m:Nat)=>xs[((i:Int)+(m:Int)*1).toNat]?)=λm=>xs[i+m]?:=by
  funext m;have:((i:Int)+(m:Int)*1).toNat=i+m:=by omega
  rw [this]
 rw [e];have:=pick_run xs i k;rw [List.filterMap_map] at this;have e2:((λx=>xs[x]?)∘λx=>i+x)=λm=>xs[i+m]?:=rfl;rw [e2] at this;rw [this]
def DL {t sl:Addr} {items:Array Value} {vl vu:Value} {lo hi:Option Int} {Q:Value->Shared->Prop} (ht:IsTup s.heap t items) (hs:s.heap.IsSliceOf sl vl vu .none) (pl:IsPart vl lo) (pu:IsPart vu hi)
  (hw:¬ (sIx items.size 0 lo=0/\sIx items.size items.size hi=items.size))
  (h:Q (.ref s.heap.objs.size) { s with heap:=s.heap.push { cls:=.type "tuple",data:=.seq ((items.toList.drop (sIx items.size 0 lo)).take (sIx items.size items.size hi-sIx items.size 0 lo)).toArray } })
  (hsz:items.size<=sizeLine):wpAny (model prog w) A (getItem (.ref t) (.ref sl)) Q E s:=by
 have htake:sizeOk (.seq ((items.toList.drop (sIx items.size 0 lo)).take (sIx items.size items.size hi-sIx items.size 0 lo)).toArray):=by
  show ((items.toList.drop (sIx items.size 0 lo)).take (sIx items.size items.size hi-sIx items.size 0 lo)).toArray.size<=sizeLine;rw [size_toArray,List.length_take,List.length_drop,Array.length_toList];omega
 have hj:sIx items.size items.size hi<=items.size:=qid _ _ (Nat.le_refl _) hi;obtain ⟨os,hos,hcs,hds⟩:=id hs;have hTs:s.TypeIs (.ref sl) "slice" := ⟨os,hos,hcs⟩
 unfold getItem
 try with_reducible refine wpAny_holding ?_
 first|refine wpAny_bind (wpAny_pure ?_)|skip
 refine wpAny_bind (wpAny_sequenceKey ht.typeIs (by decide) ?_);refine wpAny_bind (wpAny_callSpecial?_slot (name:=Str.ofString "__getitem__") ht.typeIs PyProof.Rows.slot_tuple_getitem
  (wpAny_call_entry PyProof.Rows.slot_tuple_getitem ht.typeIs entry_tuple_getitem ?_ (args_tuple_getitem _ _)))
 show wpAny _ _ (Builtin.Tuple.tupleItemsOf (.ref t) >>= _) _ _ s;refine wpAny_bind (tupleItemsOf_ ht ?_);refine wpAny_bind (wpAny_typeOf hTs ?_);rw [if_pos (by decide)];refine wpAny_bind (VD hs pl pu ?_);have hno:¬ ((((sIx items.size 0 lo:Nat):Int)==0&&(1:Int)==1&&(sIx items.size items.size hi-sIx items.size 0 lo)==items.size)=true):=by
  intro q;rw [Bool.and_eq_true,Bool.and_eq_true] at q;have q1:((sIx items.size 0 lo:Nat):Int)=0:=eq_of_beq q.1.1;have q2:sIx items.size items.size hi-sIx items.size 0 lo=items.size:=eq_of_beq q.2;exact hw ⟨by omega,by omega⟩
 show wpAny _ _ (if (((sIx items.size 0 lo:Nat):Int)==0&&(1:Int)==1&&(sIx items.size items.size hi-sIx items.size 0 lo)==items.size)=true then _ else _) _ _ s;rw [if_neg hno,qcK]
 first
  |exact wpAny_bind (m:=Builtin.Tuple.tupleExact _) (wpAny_newObj_type (wpAny_pure ⟨_,rfl,wpAny_pure h⟩) htake)
  |exact wpAny_bind (m:=Builtin.Tuple.tupleExact _) (wpAny_newObj_type (wpAny_bind (wpAny_pure (wpAny_pure ⟨_,rfl,wpAny_pure h⟩))) htake)
  |exact wpAny_bind (wpAny_bind (m:=Builtin.Tuple.tupleExact _) (wpAny_newObj_type (wpAny_pure (wpAny_pure ⟨_,rfl,wpAny_pure h⟩)) htake))
  |exact wpAny_bind (wpAny_bind (m:=Builtin.Tuple.tupleExact _) (wpAny_newObj_type (wpAny_pure ⟨_,rfl,wpAny_pure h⟩) htake))
end
end HT
namespace L2
open PySem PySem.Spec PyProof.Rows
abbrev TO:=St->Hp->(Option Int->Hp->Prop)->Prop
def PO (X:Cx) (e:Option Expr) (t:TO):Prop:=
 ∀ (pins:List (Addr×Obj)) (s:Shared) (σ:St) (H:Hp) (Q:Option Int->Hp->Prop),Inv X pins σ H s->t σ H Q ->
  wpAny (model X.prog X.w) X.A (evalPart e X.env) (λu s'=>∃ o H',Inv X pins σ H' s'/\IsPart u o/\Q o H') X.xe s
def qgH:TO:=λ_ H Q=>Q none H
def qm1 (t:TE):TO:=λσ H Q=>t σ H λx H1=>∃ i,x=.int i/\Q (some i) H1
section
variable {X:Cx} {e:Expr} {te:TE} {lo hi:Option Expr} {tl th:TO} {pos p2:Pos}
def qft:PO X none qgH:=by
 intro pins s σ H Q I h;rw [evalPart_none];exact wpAny_pure ⟨none,H,I,.none,h⟩
def qgJ (h:PE X e te):PO X (some e) (qm1 te):=by
 intro pins s σ H Q I hw;rw [evalPart_some];refine thn (h pins s σ H _ I hw) λu s1 ⟨x,H1,I1,r1,q1⟩=>?_;obtain ⟨i,rfl,q⟩:=q1;obtain ⟨t,rfl⟩:=r1;exact ⟨some i,H1,I1,.int i t,q⟩
def SlR (X:Cx) (r:V->Option Int->Option Int->Hp->VK->Prop):Prop:=
 ∀ (pins:List (Addr×Obj)) (s:Shared) (σ:St) (H:Hp) (x:V) (v vl vu:Value) (lo hi:Option Int) (sl:Addr) (Q:VK),Inv X pins σ H s->QJ x v->s.heap.IsSliceOf sl vl vu .none->IsPart vl lo->IsPart vu hi->r x lo hi H Q ->
  ∃ T id,typeLookup (.type T) "__getitem__" = pure (some (.builtin id))/\s.TypeIs v T/\wpAny (model X.prog X.w) X.A (getItem v (.ref sl)) (EP X pins σ Q) X.xe s
def SlR.or {r r':V->Option Int->Option Int->Hp->VK->Prop} (h:SlR X r) (h':SlR X r'):SlR X (λx lo hi H Q=>r x lo hi H Q\/r' x lo hi H Q):=by
 intro pins s σ H x v vl vu lo hi sl Q I rx hs pl pu q;rcases q with q|q
 ·exact h pins s σ H x v vl vu lo hi sl Q I rx hs pl pu q
 ·exact h' pins s σ H x v vl vu lo hi sl Q I rx hs pl pu q
def tSl (r:V->Option Int->Option Int->Hp->VK->Prop) (te:TE) (tl th:TO):TE:=λσ H Q=>te σ H λx H1=>tl σ H1 λl H2=>th σ H2 λu H3=>r x l u H3 Q
def RY {r:V->Option Int->Option Int->Hp->VK->Prop} (hr:SlR X r) (he:PE X e te) (hl:PO X lo tl) (hu:PO X hi th):PE X (.Subscript e (.Slice lo hi none p2) pos) (tSl r te tl th):=by
 intro pins s σ H Q I h;refine Subscript_ (thn (he pins s σ H _ I h) λv s1 ⟨x,H1,I1,r1,q1⟩=>?_);refine wpAny_Slice (thn (hl pins s1 σ H1 _ I1 q1) λvl s2 ⟨l,H2,I2,pl,q2⟩=>thn (hu pins s2 σ H2 _ I2 q2) λvu s3 ⟨u,H3,I3,pu,q3⟩=>?_);rw [evalPart_none];refine wpAny_pure ?_;have I4:Inv X pins σ H3 { s3 with heap:=s3.heap.push { cls:=.type "slice",data:=.fields #[vl,vu,.none] } }:=I3.kept (t':=s3.toks) λb ob q=>Heap.get?_push_of_some _ q;obtain ⟨T,id,hT,ht,hg⟩:=hr pins { s3 with heap:=s3.heap.push { cls:=.type "slice",data:=.fields #[vl,vu,.none] } } σ H3 x v vl vu l u s3.heap.objs.size Q I4 r1 (Heap.IsSliceOf.new ..) pl pu q3;show wpAny (model X.prog X.w) X.A (subscriptTail e (.Slice lo hi none p2) v (.ref s3.heap.objs.size)) (EP X pins σ Q) X.xe { s3 with heap:=s3.heap.push { cls:=.type "slice",data:=.fields #[vl,vu,.none] } };exact tail_any (ops:=[.ref s3.heap.objs.size,v]) ht hT hg (by with_unfolding_all rfl)
def qeB (xs:List V) (lo hi:Option Int):List V:=(xs.drop (HT.sIx xs.length 0 lo)).take (HT.sIx xs.length xs.length hi-HT.sIx xs.length 0 lo)
def W2 (xs:List V) (lo hi:Option Int):(qeB xs lo hi).length<=xs.length:=by
 unfold qeB;rw [List.length_take,List.length_drop];omega
def qpo (K:Frg):V->Option Int->Option Int->Hp->VK->Prop:=λx lo hi H Q=>∃ a xs,x=.ref a/\SqT K H a xs /\
 ¬ (HT.sIx xs.length 0 lo=0/\HT.sIx xs.length xs.length hi=xs.length)/\∀ p,H p=none->Q (.ref p) (upd H p (.tup (qeB xs lo hi)))
def qc6:SlR X (qpo X.K):=by
 intro pins s σ H x v vl vu lo hi sl Q I rx hs pl pu h;obtain ⟨a,xs,rfl,hx,hw,q⟩:=h;cases rx;obtain ⟨its,r,ht,hz⟩:=I.tuple hx;have hlen:its.toArray.size=xs.length:=by rw [size_toArray];exact r.length.symm
 refine ⟨"tuple",_,PyProof.Rows.slot_tuple_getitem.lookup,ht.typeIs,?_⟩;refine HT.DL ht hs pl pu (by rw [hlen];exact hw) ?_ (by rw [hlen];exact hz);rw [hlen];refine ⟨.ref s.heap.objs.size,_,I.laid (t':=s.toks) (o:=.tup (qeB xs lo hi)) (λb ob q=>Heap.get?_push_of_some _ q) (Nat.le_refl _) ?_,rfl,q _ (I.hok.fresh (Nat.le_refl _))⟩;exact ⟨Nat.le_trans (W2 xs lo hi) hz,_,(r.drop (HT.sIx xs.length 0 lo)).take (HT.sIx xs.length xs.length hi-HT.sIx xs.length 0 lo),IsTup.new _ _⟩
def qeX (K:Frg):R2:=λx y H Q=>∃ a b xs ys,x=.ref a/\y=.ref b/\SqT K H a xs/\SqT K H b ys/\xs≠[]/\xs.length+ys.length<=sizeLine /\
 (ys=[]->Q (.ref a) H)/\(ys≠[]->∀ p,H p=none->Q (.ref p) (upd H p (.tup (xs++ys))))
def jx.nil_iff {xs:List V} {us:List Value} (r:jx xs us):us=[]↔xs=[]:=by
 cases r with
 |nil=>simp
 |cons _ _=>simp
def qau:OpR X (binaryOp .Add) (qeX X.K):=by
 intro pins s σ H x y v u Q I rx ry h;obtain ⟨a,b,xs,ys,rfl,rfl,ha,hb,hx,hz,q1,q2⟩:=h;cases rx;cases ry;obtain ⟨its,r1,p1,_⟩:=I.tuple ha;obtain ⟨its2,r2,p2,_⟩:=I.tuple hb;refine HT.qgN p1 p2 (λz=>hx (r1.nil_iff.mp z)) (λz=>⟨.ref a,H,I,rfl,q1 (r2.nil_iff.mp z)⟩) (λz=>?_) (by rw [← r1.length,← r2.length];exact hz);refine ⟨.ref s.heap.objs.size,_,I.laid (t':=s.toks) (o:=.tup (xs++ys)) (λb ob q=>Heap.get?_push_of_some _ q) (Nat.le_refl _) ?_,rfl,q2 (λw=>z (r2.nil_iff.mpr w)) _ (I.hok.fresh (Nat.le_refl _))⟩;exact ⟨by rw [length_append];exact hz,_,r1.append r2,IsTup.new _ _⟩
end
def ixN (n:Nat) (i:Int):Option Nat:=if 0<=i then (if i<n then some i.toNat else none) else if -(n:Int)<=i then some (i+n).toNat else none
def atI {α:Type} (xs:List α) (i:Int):Option α:=(ixN xs.length i).bind λj=>xs[j]?
def qag {n:Nat} {i:Int} {j:Nat} (h:ixN n i=some j):seqIndex? i n=some j/\j<n/\-(n:Int)<=i/\i<n:=by
 unfold ixN at h;by_cases h0:0<=i
 ·rw [if_pos h0] at h;by_cases h1:i<n
  ·rw [if_pos h1] at h;have e:i.toNat=j:=Option.some.inj h;exact ⟨by rw [seqIndex_of h0 h1,e],by omega,by omega,h1⟩
  ·rw [if_neg h1] at h;cases h
 ·rw [if_neg h0] at h;by_cases h1:-(n:Int)<=i
  ·rw [if_pos h1] at h;have e:(i+n).toNat=j:=Option.some.inj h;exact ⟨by rw [seqIndex_neg (by omega) h1,e],by omega,h1,by omega⟩
  ·rw [if_neg h1] at h;cases h
def KW {α:Type} {xs:List α} {i:Int} {v:α} (h:atI xs i=some v):∃ j,seqIndex? i xs.length=some j/\xs[j]?=some v/\j<xs.length/\-(xs.length:Int)<=i/\i<xs.length:=by
 unfold atI at h;cases e:ixN xs.length i with
 |none=>rw [e] at h;cases h
 |some j=>
  rw [e] at h;obtain ⟨h1,h2,h3,h4⟩:=qag e;exact ⟨j,h1,h,h2,h3,h4⟩
def R7 (b:Expr):Prop:=∀ o i,subscripted b false o i=operate [o,i] (getItem o i)
def IxR (X:Cx) (r:R2):Prop:=
 ∀ (value slice:Expr) (pins:List (Addr×Obj)) (s:Shared) (σ:St) (H:Hp) (x y:V) (v u:Value) (Q:VK),Inv X pins σ H s->QJ x v->QJ y u->r x y H Q ->
  subscripted slice false v u=operate [v,u] (getItem v u)->wpAny (model X.prog X.w) X.A (subscriptTail value slice v u) (EP X pins σ Q) X.xe s
def MtR (X:Cx) (id:String) (r:V->List V->Hp->VK->Prop):Prop:=
 ∀ (pins:List (Addr×Obj)) (s:Shared) (σ:St) (H:Hp) (x:V) (xs:List V) (v:Value) (us:List Value) (Q:VK),Inv X pins σ H s->QJ x v->jx xs us->r x xs H Q ->
  wpAny (model X.prog X.w) X.A (call (.builtin id) (v::us)) (EP X pins σ Q) X.xe s
section
variable {X:Cx} {a b:Expr} {ta tb:TE} {pos:Pos}
def IxR.or {r r':R2} (h:IxR X r) (h':IxR X r'):IxR X (λx y H Q=>r x y H Q\/r' x y H Q):=by
 intro value slice pins s σ H x y v u Q I rx ry q hs;rcases q with q|q
 ·exact h value slice pins s σ H x y v u Q I rx ry q hs
 ·exact h' value slice pins s σ H x y v u Q I rx ry q hs
def qhs {r:R2} (hr:IxR X r) (ha:PE X a ta) (hb:PE X b tb) (hs:R7 b):PE X (.Subscript a b pos) (tOp r ta tb):=by
 intro pins s σ H Q I h;exact Subscript_ (qnB ha hb I h λv u s2 x y H2 I2 rx ry q=>hr a b pins s2 σ H2 x y v u Q I2 rx ry q (hs _ _))
def qoi (K:Frg):R2:=λx y H Q=>∃ p xs i v,x=.ref p/\y=.int i/\SqL K H p xs/\atI xs i=some v/\Q v H
def qoy (K:Frg):R2:=λx y H Q=>∃ p xs i v,x=.ref p/\y=.int i/\SqT K H p xs/\atI xs i=some v/\Q v H
def ql7:R2:=λx y H Q=>∃ z i c,x=.str z/\y=.int i/\z.length<=sizeLine/\atI z.cps.toList i=some c/\Q (.str ⟨#[c]⟩) H
def qfk:IxR X (qoi X.K):=by
 intro value slice pins s σ H x y v u Q I rx ry h hs;obtain ⟨p,xs,i,z,rfl,rfl,hq,he,q⟩:=h;cases rx;obtain ⟨t,rfl⟩:=ry;obtain ⟨its,r,pl,hz⟩:=I.list hq;obtain ⟨j,h1,h2,h3,h4,h5⟩:=KW he;obtain ⟨w,ew,rw'⟩:=r.get h2;have hl:=r.length;have hn:=SW;have fin:EP X pins σ Q w s:=⟨z,H,I,rw',q⟩
 by_cases h0:0<=i
 ·have hj:i.toNat=j:=by
   rw [seqIndex_of h0 h5] at h1;exact Option.some.inj h1
  exact item_listR pl.isList h0 (by omega) (by rw [hj];simpa using ew) fin hs
 ·have hj:(i+(its.toArray.size:Int)).toNat=j:=by
   rw [seqIndex_neg (by omega) h4] at h1;rw [size_toArray,← hl];exact Option.some.inj h1
  exact subscriptTail_builtinR (x:=w) pl.isList.typeIs slot_list_getitem.lookup
   (wpAny_getItem_list_neg (Q:=λr s'=>r=w/\EP X pins σ Q r s') pl.isList (by omega) (by rw [size_toArray]<;>omega) (by omega) (by rw [hj];simpa using ew) ⟨rfl,fin⟩) hs
def qhv:IxR X (qoy X.K):=by
 intro value slice pins s σ H x y v u Q I rx ry h hs;obtain ⟨p,xs,i,z,rfl,rfl,hq,he,q⟩:=h;cases rx;obtain ⟨t,rfl⟩:=ry;obtain ⟨its,r,pl,hz⟩:=I.tuple hq;obtain ⟨j,h1,h2,h3,h4,h5⟩:=KW he;obtain ⟨w,ew,rw'⟩:=r.get h2;have hl:=r.length;have hn:=SW;have fin:EP X pins σ Q w s:=⟨z,H,I,rw',q⟩
 exact subscriptTail_builtinR (x:=w) pl.typeIs slot_tuple_getitem.lookup
  (getItem_tuple (j:=j) (Q:=λr s'=>r=w/\EP X pins σ Q r s') pl (by omega) (by omega) (by rw [size_toArray,← hl];exact h1) (by simpa using ew) ⟨rfl,fin⟩) hs
def qeb:IxR X ql7:=by
 intro value slice pins s σ H x y v u Q I rx ry h hs;obtain ⟨z,i,c,rfl,rfl,hz,he,q⟩:=h;obtain ⟨t,rfl⟩:=rx;obtain ⟨t',rfl⟩:=ry;obtain ⟨j,h1,h2,h3,h4,h5⟩:=KW he;have hl:z.cps.toList.length=z.length:=by simp [Str.length]
 rw [hl] at h1 h4 h5;have hn:=SW;exact tail_any (typeIs_str s z t) slot_str_getitem.lookup (getItem_str (c:=c) (by
  have e1:decide (i < -(2 ^ 63:Int))=false:=decide_eq_false (by omega);have e2:decide (i ≥ 2 ^ 63)=false:=decide_eq_false (by omega);rw [e1,e2,Bool.or_false]) (by rw [h1];simpa using h2) ⟨.str ⟨#[c]⟩,H,I.tok _,⟨_,rfl⟩,q⟩) hs
def rIx (K:Frg):R2:=λx y H Q=>qoi K x y H Q\/qoy K x y H Q\/ql7 x y H Q
def qkC:IxR X (rIx X.K):=qfk.or (qhv.or qeb)
def MN (its:List Value) (n j:Nat) (u:Value):Obj.mapSeq (·.setIfInBounds j u) { cls:=.type "list",data:=.seq its.toArray n }={ cls:=.type "list",data:=.seq (its.set j u).toArray n }:=by
 simp [Obj.mapSeq]
def Inv.lst {pins:List (Addr×Obj)} {σ:St} {H:Hp} {s:Shared} {p:Addr} {xs:List V} (I:Inv X pins σ H s) (h:H p=some (.lst xs)) :
  ∃ (its:List Value) (n:Nat),jx xs its/\s.heap.get? p=some { cls:=.type "list",data:=.seq its.toArray n }/\xs.length<=sizeLine:=by
 obtain ⟨z,its,n,r,e⟩:=I.hok p _ h;exact ⟨its,n,r,e,z⟩
def Inv.lstUpd {pins:List (Addr×Obj)} {σ:St} {H:Hp} {s:Shared} {p:Addr} {xs ys:List V} {its its':List Value} {n n':Nat} {f:Obj->Obj} (I:Inv X pins σ H s) (h:H p=some (.lst xs))
  (ho:s.heap.get? p=some { cls:=.type "list",data:=.seq its.toArray n }) (hf:f { cls:=.type "list",data:=.seq its.toArray n }={ cls:=.type "list",data:=.seq its'.toArray n' }) (r:jx ys its') (hz:ys.length<=sizeLine) (t:Nat) :
  Inv X pins σ (upd H p (.lst ys)) { s with heap:=s.heap.update p f,toks:=t }:=by
 have e:(s.heap.update p f).get? p=some { cls:=.type "list",data:=.seq its'.toArray n' }:=by
  rw [Heap.get?_update_self f ho (by rw [hf]<;>rfl),hf]
 refine I.write (x:=p) (e:=p) (by rw [h];trivial) (.inl rfl) (λb u hb q=>(Heap.get?_update_other _ _ (Ne.symm hb)).trans q) ⟨_,e⟩ ?_;exact ⟨hz,its',n',r,e⟩
def qnG:V->V->V->Hp->(Hp->Prop)->Prop:=λo i v H Q=>∃ p xs k j,o=.ref p/\i=.int k/\H p=some (.lst xs)/\ixN xs.length k=some j/\Q (upd H p (.lst (xs.set j v)))
def qb9:qod X qnG:=by
 intro pins s σ H o i v ov iv u Q I ro ri rv h;obtain ⟨p,xs,k,j,rfl,rfl,hp,hj,q⟩:=h;cases ro;obtain ⟨t,rfl⟩:=ri;obtain ⟨its,n,r,ho,hz⟩:=I.lst hp;obtain ⟨h1,h2,h3,h4⟩:=qag hj;have hl:=r.length;have hn:=SW;have I':Inv X pins σ (upd H p (.lst (xs.set j v))) { s with heap:=s.heap.update p (Obj.mapSeq (·.setIfInBounds j u)) }:=
  I.lstUpd hp ho (MN its n j u) (r.set rv j) (by rw [List.length_set];exact hz) s.toks
 by_cases h0:0<=k
 ·have hk:k.toNat=j:=by
   rw [seqIndex_of h0 h4] at h1;exact Option.some.inj h1
  exact PySem.W.ki_setAt ho h0 (by omega) (by rw [size_toArray,← hl];exact h4) (by rw [hk];exact ⟨_,I',q⟩)
 ·have hk:(k+(its.toArray.size:Int)).toNat=j:=by
   rw [seqIndex_neg (by omega) h3] at h1;rw [size_toArray,← hl];exact Option.some.inj h1
  exact PySem.W.ki_setBack ho (by omega) (by rw [size_toArray,← hl];exact h3) (by omega) (by rw [hk];exact ⟨_,I',q⟩)
def S5 (lo hi:Option Int) (n:Nat):(sliceBounds lo hi none n).1=((HT.sIx n 0 lo:Nat):Int)/\(sliceBounds lo hi none n).2.1=((HT.sIx n n hi:Nat):Int)/\(sliceBounds lo hi none n).2.2=1:=by
 refine ⟨?_,?_,rfl⟩
 ·cases lo with
  |none=>simp [sliceBounds,HT.sIx]
  |some i=>
   simp only [sliceBounds,HT.sIx,Option.getD_none,show (1:Int) > 0 by decide,if_true];by_cases h:i<0
   ·simp only [h,if_true]<;>omega
   ·simp only [h,if_false]<;>omega
 ·cases hi with
  |none=>simp [sliceBounds,HT.sIx]
  |some i=>
   simp only [sliceBounds,HT.sIx,Option.getD_none,show (1:Int) > 0 by decide,if_true];by_cases h:i<0
   ·simp only [h,if_true]<;>omega
   ·simp only [h,if_false]<;>omega
def R8 (its:List Value) (lo hi:Option Int):slicePick its.toArray lo hi none=((its.drop (HT.sIx its.length 0 lo)).take (HT.sIx its.length its.length hi-HT.sIx its.length 0 lo)).toArray:=by
 obtain ⟨h1,h2,h3⟩:=S5 lo hi its.toArray.size;unfold slicePick;rw [h1,h2,h3];simp only [sliceRange_one,pick_run,size_toArray]<;>rfl
def qpq (K:Frg):V->Option Int->Option Int->Hp->VK->Prop:=λx lo hi H Q=>∃ a xs,x=.ref a/\SqL K H a xs/\∀ p,H p=none->Q (.ref p) (upd H p (.lst (qeB xs lo hi)))
def qax:SlR X (qpq X.K):=by
 intro pins s σ H x v vl vu lo hi sl Q I rx hs pl pu h;obtain ⟨a,xs,rfl,hx,q⟩:=h;cases rx;obtain ⟨its,r,ht,hz⟩:=I.list hx;have hlen:=r.length;refine ⟨"list",_,slot_list_getitem.lookup,ht.isList.typeIs,?_⟩;refine wpAny_getItem_list_slice ht.isList hs pl pu .none (by simp) ?_ (by rw [size_toArray]<;>omega);rw [R8,← hlen];refine ⟨.ref s.heap.objs.size,_,I.laid (t':=s.toks) (o:=.lst (qeB xs lo hi)) (λb ob q=>Heap.get?_push_of_some _ q) (Nat.le_refl _) ?_,rfl,q _ (I.hok.fresh (Nat.le_refl _))⟩;exact ⟨Nat.le_trans (W2 xs lo hi) hz,_,0,(r.drop (HT.sIx xs.length 0 lo)).take (HT.sIx xs.length xs.length hi-HT.sIx xs.length 0 lo),Heap.get?_push_size _ rfl⟩
def X3:V->Bool
 |.non=>true
 |.bl _=>true
 |.int _=>true
 |.str _=>true
 |_=>false
def eqV:V->V->Bool
 |.non,.non=>true
 |.bl a,.bl b=>a==b
 |.bl a,.int b=>(if a then 1 else 0)==b
 |.int a,.bl b=>a==(if b then 1 else 0)
 |.int a,.int b=>a==b
 |.str a,.str b=>a==b
 |_,_=>false
def qk7 {A:Around} {s:Shared} {y x:V} {u v:Value} (ry:QJ y u) (rx:QJ x v) (fy:X3 y=true) (fx:X3 x=true):SeqAt.EqAt A s u v (eqV y x):=by
 cases y with
 |non=>
  cases ry;cases x with
  |non=>cases rx;exact SeqAt.EqAt.same _
  |bl b=>cases rx;exact SeqAt.EqAt.none_bool b
  |int b=>obtain ⟨t,rfl⟩:=rx;exact SeqAt.EqAt.none_int b t
  |str b=>obtain ⟨t,rfl⟩:=rx;exact SeqAt.EqAt.none_str b t
  |_=>exact absurd (show false=true from fx) Bool.false_ne_true
 |bl a=>
  cases ry;cases x with
  |non=>cases rx;exact SeqAt.EqAt.bool_none a
  |bl b=>cases rx;exact SeqAt.EqAt.bool_bool a b
  |int b=>obtain ⟨t,rfl⟩:=rx;exact SeqAt.EqAt.bool_int a b t
  |str b=>obtain ⟨t,rfl⟩:=rx;exact SeqAt.EqAt.bool_str a b t
  |_=>exact absurd (show false=true from fx) Bool.false_ne_true
 |int a=>
  obtain ⟨t',rfl⟩:=ry;cases x with
  |non=>cases rx;exact SeqAt.EqAt.int_none a t'
  |bl b=>cases rx;exact SeqAt.EqAt.int_bool a t' b
  |int b=>obtain ⟨t,rfl⟩:=rx;exact SeqAt.EqAt.int_int a t' b t
  |str b=>obtain ⟨t,rfl⟩:=rx;exact SeqAt.EqAt.int_str a t' b t
  |_=>exact absurd (show false=true from fx) Bool.false_ne_true
 |str a=>
  obtain ⟨t',rfl⟩:=ry;cases x with
  |non=>cases rx;exact SeqAt.EqAt.str_none a t'
  |bl b=>cases rx;exact SeqAt.EqAt.str_bool a t' b
  |int b=>obtain ⟨t,rfl⟩:=rx;exact SeqAt.EqAt.str_int a t' b t
  |str b=>obtain ⟨t,rfl⟩:=rx;exact SeqAt.EqAt.str_str a t' b t
  |_=>exact absurd (show false=true from fx) Bool.false_ne_true
 |_=>exact absurd (show false=true from fy) Bool.false_ne_true
def eqU (x:V) (u:Value):Bool:=match u with
 |.none=>eqV .non x
 |.bool b=>eqV (.bl b) x
 |.int i _=>eqV (.int i) x
 |.str z _=>eqV (.str z) x
 |_=>false
def qdH {x y:V} {u:Value} (r:QJ y u) (f:X3 y=true):eqU x u=eqV y x:=by
 cases y with
 |non=>cases r;rfl
 |bl b=>cases r;rfl
 |int i=>obtain ⟨t,rfl⟩:=r;rfl
 |str z=>obtain ⟨t,rfl⟩:=r;rfl
 |_=>exact absurd (show false=true from f) Bool.false_ne_true
def K3 {x:V}:∀ {xs:List V} {us:List Value},jx xs us->xs.all X3=true->us.any (eqU x)=xs.any λy=>eqV y x
 |_,_,.nil,_=>rfl
 |y::xs,u::us,.cons r t,f=>by
  rw [List.all_cons,Bool.and_eq_true] at f;rw [List.any_cons,List.any_cons,qdH r f.1,K3 t f.2]
def RH {A:Around} {s:Shared} {x:V} {v:Value} (rx:QJ x v) (fx:X3 x=true):∀ {xs:List V} {us:List Value},jx xs us->xs.all X3=true->∀ u∈us,SeqAt.EqAt A s u v (eqU x u)
 |_,_,.nil,_=>λu hu=>by cases hu
 |y::xs,u::us,.cons r t,f=>λu' hu=>by
  rw [List.all_cons,Bool.and_eq_true] at f;rcases mem_cons.mp hu with rfl|hu
  ·rw [qdH r f.1];exact qk7 r rx f.1 fx
  ·exact RH rx fx t f.2 u' hu
def inV (x:V) (xs:List V):Bool:=xs.any λy=>eqV y x
def rIn (K:Frg) (neg:Bool):R2:=λx y H Q=>∃ p xs,y=.ref p/\(SqL K H p xs\/SqT K H p xs)/\X3 x=true/\xs.all X3=true/\Q (.bl (if neg then !inV x xs else inV x xs)) H
def qbf:OpR X (compareOp .In) (rIn X.K false):=by
 intro pins s σ H x y v u Q I rx ry h;obtain ⟨p,xs,rfl,hq,fx,fs,q⟩:=h;cases ry;rcases hq with hq|hq
 ·obtain ⟨its,r,pl,hz⟩:=I.list hq;refine SeqAt.in_listAt (eqU x) pl.isList (λw hw=>RH rx fx r fs w (by simpa using hw)) ⟨.bl _,H,I,rfl,?_⟩;rw [show its.toArray.any (eqU x)=its.any (eqU x) by simp,K3 r fs];exact q
 ·obtain ⟨its,r,pl,hz⟩:=I.tuple hq;refine SeqAt.in_tupleAt (eqU x) pl (λw hw=>RH rx fx r fs w (by simpa using hw)) ⟨.bl _,H,I,rfl,?_⟩;rw [show its.toArray.any (eqU x)=its.any (eqU x) by simp,K3 r fs];exact q
def TN:JU X (.type "list") (λxs H Q=>∃ p ys,xs=[.ref p]/\(SqL X.K H p ys\/SqT X.K H p ys)/\∀ l,H l=none->Q (.ref l) (upd H l (.lst ys))):=by
 intro pins s σ H xs us Q I r h;obtain ⟨p,ys,rfl,hq,q⟩:=h;obtain ⟨u,rfl,rx⟩:=WA r;cases rx;have fin:∀ (its:List Value),jx ys its->ys.length<=sizeLine->∀ (h':Heap) (c':Nat),(∀ b o',s.heap.get? b=some o'->h'.get? b=some o') ->
   h'.get? s.heap.objs.size=some { cls:=.type "list",dict:=none,data:=.seq its.toArray c',slots:=#[] }->EP X pins σ Q (.ref s.heap.objs.size) { s with heap:=h' }:=λits r' hz h' c' kp e=>
  ⟨.ref s.heap.objs.size,_,I.laid (t':=s.toks) kp (Nat.le_refl _) (show UX X.prog X.w _ h' _ (.lst ys) from ⟨hz,its,c',r',e⟩),rfl,q _ (I.hok.fresh (Nat.le_refl _))⟩
 rcases hq with hq|hq
 ·obtain ⟨its,r',pl,hz⟩:=I.list hq;have hlen:=r'.length;obtain ⟨o,ho,hc,n,hd⟩:=pl.isList;exact call_list_seq p (.inl rfl) ho hc hd (λh' c' kp e=>fin its r' hz h' c' kp e) (by simp only [size_toArray]<;>omega)
 ·obtain ⟨its,r',pl,hz⟩:=I.tuple hq;have hlen:=r'.length;obtain ⟨o,ho,hc,n,hd⟩:=pl;exact call_list_seq p (.inr rfl) ho hc hd (λh' c' kp e=>fin its r' hz h' c' kp e) (by simp only [size_toArray]<;>omega)
def ja:JU X (.type "tuple") (λxs H Q=>∃ p ys,xs=[.ref p]/\((SqL X.K H p ys/\∀ l,H l=none->Q (.ref l) (upd H l (.tup ys)))\/(SqT X.K H p ys/\Q (.ref p) H))):=by
 intro pins s σ H xs us Q I r h;obtain ⟨p,ys,rfl,h⟩:=h;obtain ⟨u,rfl,rx⟩:=WA r;cases rx;rcases h with ⟨hq,q⟩|⟨hq,q⟩
 ·obtain ⟨its,r',pl,hz⟩:=I.list hq;have hlen:=r'.length;refine call_tuple_list pl.isList (λh' kp=>?_) (by simp only [size_toArray]<;>omega);have I1:Inv X pins σ H { s with heap:=h' }:=I.kept (t':=s.toks) kp;have I2:Inv X pins σ (upd H h'.objs.size (.tup ys)) { s with heap:=h'.push { cls:=.type "tuple",data:=.seq its.toArray } }:=
   I1.laid (t':=s.toks) (λb o e=>Heap.get?_push_of_some _ e) (Nat.le_refl _) (show UX X.prog X.w _ _ _ (.tup ys) from ⟨hz,its,r',IsTup.new _ _⟩)
  exact ⟨.ref h'.objs.size,_,I2,rfl,q _ (I1.hok.fresh (Nat.le_refl _))⟩
 ·obtain ⟨its,r',pl,hz⟩:=I.tuple hq;exact call_tuple_same pl ⟨.ref p,H,I,rfl,q⟩
def tyV (K:Frg) (T:String) (x:V) (H:Hp):Prop:=match x with
 |.str _=>T="str"
 |.int _=>T="int"
 |.ref p=>(T="list"/\∃ xs,SqL K H p xs)\/(T="tuple"/\∃ o,K.lookup p=some o/\o.cls=.type "tuple"/\o.dict=none) ∨
   (T="dict"/\((∃ kvs,H p=some (.dK kvs))\/∃ kvs,H p=some (.dT kvs)))\/(T="set"/\∃ S n,H p=some (.set S n))
 |_=>False
def qez {pins:List (Addr×Obj)} {σ:St} {H:Hp} {s:Shared} {T:String} {x:V} {v:Value} (I:Inv X pins σ H s) (r:QJ x v) (ty:tyV X.K T x H) :
  s.TypeIs v T/\∀ a,v=.ref a->∃ ob,s.heap.get? a=some ob/\ob.dict=none:=by
 cases x with
 |str z=>
  obtain ⟨t,rfl⟩:=r;cases (show T="str" from ty);exact ⟨typeIs_str s z t,λ_ e=>nomatch e⟩
 |int i=>
  obtain ⟨t,rfl⟩:=r;cases (show T="int" from ty);exact ⟨typeIs_int s i t,λ_ e=>nomatch e⟩
 |ref p=>
  cases r;rcases ty with ⟨rfl,xs,hq⟩|⟨rfl,o,hk,hc,hd⟩|⟨rfl,hk⟩|⟨rfl,S,n,hk⟩
  ·obtain ⟨its,_,pl,_⟩:=I.list hq;refine ⟨pl.isList.typeIs,λa e=>?_⟩;cases e;obtain ⟨o,n,e,c,hd,_⟩:=pl;exact ⟨o,e,hd⟩
  ·refine ⟨⟨o,I.kIn p o hk,hc⟩,λa e=>?_⟩;cases e;exact ⟨o,I.kIn _ o hk,hd⟩
  ·have z:∃ o,s.heap.get? p=some o/\o.ExactDict:=by
    rcases hk with ⟨kvs,hk⟩|⟨kvs,hk⟩
    ·obtain ⟨_,_,_,_,o,_,_,e,ex,_⟩:=I.hok p _ hk;exact ⟨o,e,ex⟩
    ·obtain ⟨_,_,_,_,o,_,_,e,ex,_⟩:=I.hok p _ hk;exact ⟨o,e,ex⟩
   obtain ⟨o,e,ex⟩:=z;refine ⟨⟨o,e,ex.1⟩,λa e2=>?_⟩;cases e2;exact ⟨o,e,ex.2.1⟩
  ·obtain ⟨o,_,_,_,e,ex,_⟩:=I.hok p _ hk;refine ⟨⟨o,e,ex.1⟩,λa e2=>?_⟩;cases e2;exact ⟨o,e,ex.2.1⟩
 |_=>exact False.elim ty
def qpm (K:Frg) (T:String) (r:V->List V->Hp->VK->Prop) (to:TE):TE:=λσ H Q=>to σ H λx H1=>tyV K T x H1/\r x [] H1 Q
def tBM (K:Frg) (T:String) (r:V->List V->Hp->VK->Prop) (to:TE) (t:TA):TE:=λσ H Q=>to σ H λx H1=>tyV K T x H1/\t σ H1 λxs H2=>r x xs H2 Q
variable {o e:Expr} {es:List Expr} {to:TE} {t:TA} {name:Str} {apos cpos:Pos} {T id:String} {r:V->List V->Hp->VK->Prop}
def qjM (pa:PlainAttrs T) (slot:Slot T name id) (hty:typeOf (.builtin id)=pure (.type "method_descriptor")) (hm:MtR X id r) (ho:PE X o to)
  (hbase:attributeBase o name X.env (eval o X.env)=eval o X.env:=by rfl) (hline:(apos.endLine==cpos.line)=true:=by rfl):PE X (.Call (.Attribute o name apos) [] [] cpos) (qpm X.K T r to):=by
 intro pins s σ H Q I h;refine wpAny_Call_method0_late hbase hline (thn (ho pins s σ H _ I h) λv s1 ⟨x,H1,I1,r1,ty,q1⟩=>?_);obtain ⟨h1,h2⟩:=qez I1 r1 ty;exact ⟨T,id,pa,slot,hty,h1,h2,Calls.callWith_builtin rfl (PySem.evalArgs_none (hm pins s1 σ H1 x [] v [] Q I1 r1 .nil q1))⟩
def qmU (pa:PlainAttrs T) (slot:Slot T name id) (hty:typeOf (.builtin id)=pure (.type "method_descriptor")) (hm:MtR X id r) (ho:PE X o to) (ha:PA X (e::es) t)
  (hbase:attributeBase o name X.env (eval o X.env)=eval o X.env:=by rfl)
  (hfew:((backTo cpos (starEach (e::es) X.env)).all (λx=>!x.1)&&(backToKw cpos (keywordEach [] X.env)).all (λx=>x.1.isSome)
   && decide ((e::es).length+([]:List Keyword).length+(if ([]:List Keyword).isEmpty then 0 else 1)<30))=true:=by rfl)
  (hline:(apos.endLine==cpos.line)=true:=by rfl) (hs:starEach (e::es) X.env=(false,eval e X.env)::starEach es X.env:=by rfl) (hplain:(backTo cpos (starEach es X.env)).any (·.1)=false:=by rfl) :
  PE X (.Call (.Attribute o name apos) (e::es) [] cpos) (tBM X.K T r to t):=by
 intro pins s σ H Q I h;refine wpAny_Call_method_late hbase hfew hline rfl (thn (ho pins s σ H _ I h) λv s1 ⟨x,H1,I1,r1,ty,q1⟩=>?_);obtain ⟨h1,h2⟩:=qez I1 r1 ty;refine ⟨T,id,pa,slot,hty,h1,h2,?_⟩;have hA:=ha cpos pins s1 σ H1 _ I1 q1;rw [hs] at hA ⊢;refine Calls.callWith_builtin (by show (false||(backTo cpos (starEach es X.env)).any (·.1))=false;rw [hplain]<;>rfl) (Calls.evalArgs_plain ?_);exact thn hA λus s2 ⟨vs,H2,I2,r2,q2⟩=>hm pins s2 σ H2 x vs v us Q I2 r1 r2 q2
end
def MtM (X:Cx) (id:String) (r:V->List V->Hp->VK->Prop):Prop:=
 ∀ (pins:List (Addr×Obj)) (s:Shared) (σ:St) (H:Hp) (x:V) (xs:List V) (v:Value) (us:List Value) (Q:VK),Inv X pins σ H s->QJ x v->jx xs us->r x xs H Q ->
  wpAny (model X.prog X.w) X.A (call (.builtin id) (v::us)) (EP X pins σ Q) X.xe s
def jx.one:∀ {x:V} {us:List Value},jx [x] us->∃ u,us=[u]/\QJ x u
 |_,_,.cons r .nil=>⟨_,rfl,r⟩
def jx.zero:∀ {us:List Value},jx [] us->us=[]
 |_,.nil=>rfl
def jx.reverse {xs:List V} {us:List Value} (h:jx xs us):jx xs.reverse us.reverse:=by
 induction h with
 |nil=>exact .nil
 |cons r t ih=>rw [List.reverse_cons,List.reverse_cons];exact jx.append ih (.cons r .nil)
section
variable {X:Cx} {pins:List (Addr×Obj)} {σ:St} {H:Hp} {s:Shared} {l b:Addr} {xs ys zs:List V}
def Inv.lset {its its':List Value} {n:Nat} {f:Array Value->Array Value} {t':Nat} (I:Inv X pins σ H s) (hH:H l=some (.lst xs))
  (e:s.heap.get? l=some { cls:=.type "list",data:=.seq its.toArray n }) (hf:f its.toArray=its'.toArray) (hv:jx ys its') (hz:ys.length<=sizeLine) :
  Inv X pins σ (upd H l (.lst ys)) { s with heap:=s.heap.update l (Obj.mapSeq f),toks:=t' }:=by
 have q:=PySem.IsL.update e f;rw [hf] at q;refine I.write (x:=l) (e:=l) (by rw [hH];exact trivial) (.inl rfl) (λb' u hb hu=>(Heap.get?_update_other s.heap (Obj.mapSeq f) (Ne.symm hb)).trans hu) ⟨_,q⟩ ?_;exact ⟨hz,its',_,hv,q⟩
def Inv.lnew {its:List Value} {t':Nat} (I:Inv X pins σ H s) (hv:jx ys its) (hz:ys.length<=sizeLine) :
  Inv X pins σ (upd H s.heap.objs.size (.lst ys)) { s with heap:=s.heap.push { cls:=.type "list",data:=.seq its.toArray },toks:=t' }:=
 I.laid (λ_ _ q=>Heap.get?_push_of_some _ q) (Nat.le_refl _) ⟨hz,its,0,hv,Heap.get?_push_size _ rfl⟩
def Inv.fresh (I:Inv X pins σ H s):H s.heap.objs.size=none:=I.hok.fresh (Nat.le_refl _)
def Inv.lstM (I:Inv X pins σ H s) (hH:H l=some (.lst xs)):xs.length<=sizeLine/\∃ (its:List Value) (n:Nat),jx xs its/\xs.length=its.length/\s.heap.get? l=some { cls:=.type "list",data:=.seq its.toArray n }:=by
 obtain ⟨z,its,n,r,e⟩:=I.hok l _ hH;exact ⟨z,its,n,r,r.length,e⟩
end
section
variable {X:Cx}
def qaJ:V->List V->Hp->VK->Prop:=λx vs H Q=>∃ l xs y,x=.ref l/\vs=[y]/\H l=some (.lst xs)/\xs.length<sizeLine/\Q .non (upd H l (.lst (xs++[y])))
def XX:MtM X "list.append" qaJ:=by
 intro pins s σ H x vs v us Q I rx rv h;obtain ⟨l,xs,y,rfl,rfl,hH,hz,q⟩:=h;cases rx;obtain ⟨u,rfl,ru⟩:=rv.one;obtain ⟨z,its,n,r,hl,e⟩:=I.lstM hH;refine call_meets F.slot_list_append ⟨_,e,rfl⟩ F.entry_list_append (F.args_list_append_2 _ _) (PySem.list_append l its.toArray n u (by rw [size_toArray];omega)) ⟨e,?_⟩;refine ⟨.non,_,I.lset (its':=its++[u]) hH e (by simp) (r.append (.cons ru .nil)) ?_,rfl,q⟩;rw [length_append,List.length_singleton];omega
def qmY:R2:=λx y H Q=>∃ l b xs zs,x=.ref l/\y=.ref b/\H l=some (.lst xs)/\H b=some (.lst zs)/\xs.length+zs.length<=sizeLine/\∀ p,H p=none->Q (.ref p) (upd H p (.lst (xs++zs)))
def qdp:OpR X (binaryOp .Add) qmY:=by
 intro pins s σ H x y v u Q I rx ry h;obtain ⟨l,b,xs,zs,rfl,rfl,hH,hB,hz,q⟩:=h;cases rx;cases ry;obtain ⟨z,its,n,r,hl,e⟩:=I.lstM hH;obtain ⟨z2,its2,n2,r2,hl2,e2⟩:=I.lstM hB;refine PySem.P.add_list e e2 ?_ (by rw [size_toArray,size_toArray];omega);have ea:its.toArray++its2.toArray=(its++its2).toArray:=by simp
 rw [ea];exact ⟨.ref _,_,I.lnew (t':=s.toks) (r.append r2) (by rw [length_append];omega),rfl,q _ I.fresh⟩
end
section
variable {prog:Program} {w:World} {A:Around} {E:Value->Shared->Prop} {s:Shared}
end
section
variable {X:Cx}
end
end L2
namespace Att
open PySem PySem.W PySem.Calls PyProof.Rows
def XM {P:Params} {h:Heap}:∀ (ns:List Int) (vs:List Value),WellAll P h vs (ns.map WData.int)->IntsAre vs ns:=by
 intro ns;induction ns with
 |nil=>
  intro vs w;rw [List.map_nil] at w;cases w;exact .nil
 |cons n ns ih=>
  intro vs w;rw [map_cons] at w;cases w with
  |cons a b=>
   cases a;exact .cons _ _ (ih _ b)
def qai {l:OpenLaw} {n:Nat} (hn:l.most=some n) {P:Params} {h:Heap} {args:List WData} {vals:List Value}
  (hpre:l.row.toRowW.claim.pre args=true) (hwl:WellAll P h vals args) :
  ∃ a vs ns,vals=[Value.ref a]/\args=[WData.list (ns.map WData.int)]/\h.get? a=some { cls:=.type "list",data:=.seq vs.toArray }/\IntsAre vs ns/\ns.length<=n:=by
 have hsh:WShape.hasAll [] args [.list .int]=true:=(pre_splitW hpre).1;have hc:l.pre.holds [] { args:=args }=true:=(pre_splitW hpre).2;obtain ⟨d,r,rfl,h1,h2⟩:=hasAllW_cons hsh;obtain rfl:=hasAllW_nil h2;obtain ⟨xs,rfl,h3⟩:=hasW_list h1;obtain ⟨ns,rfl⟩:=items_int h3;have hlen:ns.length<=n:=by
  unfold OpenLaw.pre at hc;have h4:(WTm.not (.lt (.lit (.int (n:Int))) (.len (.arg 0)))).holds [] { args:=[.list (ns.map .int)] }=true:=by
   have h4:=(holds_andW hc).1;rw [hn] at h4;exact h4
  have h5:=condW_of h4 (w_not (w_lt w_lit (w_len_list (w_arg rfl))));rw [length_map] at h5;refine Nat.le_of_not_lt λq=>?_;have q':(n:Int)<((ns.length:Nat):Int):=by omega
  first
   | (rw [decide_eq_true q'] at h5;exact absurd h5 (by decide))
   | (simp at h5;omega)
 cases hwl with
 |cons w1 w2=>
  cases w2;cases w1 with
  |list ho hall=>exact ⟨_,_,ns,rfl,rfl,ho,XM ns _ hall,hlen⟩
def qbA (l:OpenLaw) (args:List WData):l.row.toRowW.claim.post args (.bool true) args=true:=
 postW_of (r:=l.row.toRowW) (X:=(true==true))
  (show WShape.has [] (.bool true) .bool=true by first|rfl|decide|simp [WShape.has,WShape.arms,WShape.armsAll])
  (show (WTm.eq .res (.lit (.bool true))).value [] { args:=args,res:=some (.bool true),after:=args }=some (.bool (true==true)) from w_eq_bool (w_res rfl) w_lit) rfl
def K4 {l:OpenLaw} {n:Nat} {q:Program} {loose:List Str} {XP:(Str->Option Value)->Heap->Prop} {YP:World->Heap->Prop} {d:DefRec}
  (hn:l.most=some n) (hdf:d.params.defaults=[])
  (call:∀ (w:World) (s₀ s₁:Shared) (mg mb:Str->Option Value) (fa:Addr) (o:Obj) (pm cd doc:Value) (a:Addr) (vs:List Value) (ns:List Int),
   Ground q loose [] XP w s₀ mg mb s₁.heap->YP w s₁.heap ->
   s₁.heap.get? fa=some o->o.data=.func (docDef d.name d.params d.body d.scope pm cd doc)->s₁.heap.CodeRec cd d.name->mg d.name=some (.ref fa) ->
   s₁.heap.get? a=some { cls:=.type "list",data:=.seq vs.toArray }->IntsAre vs ns->ns.length<=n->s₁.gens=#[] ->
   codeAny (model l.prog w) callerA (.call (.ref fa) ⟨[.ref a],[]⟩) (λr s'=>r=.ok (.ret (.bool true))/\OldK s₁.heap s'.heap/\s'.os=s₁.os/\AllBare s'.gens) s₁) :
  WalkO q loose XP YP l.row.toRowW d [] (λf vs=>PySem.call f vs):=by
 intro w s₀ s₁ mg mb G Y fa o pm cd doc dV kV ho hd hcd hD hmg hg args vals as hpre hlay hrd hwl hlo;obtain rfl:dV=.none:=Dflts.none hD hdf;obtain rfl:kV=.none:=Dflts.noKw hD;obtain ⟨a,vs,ns,rfl,rfl,hobj,hints,hlen⟩:=qai hn hpre hwl;refine enter_call (codeAny_mono (call w s₀ s₁ mg mb fa o pm cd doc a vs ns G Y ho (fd_plain hd) hcd hmg hobj hints hlen hg) λr s' hq=>?_);obtain ⟨rfl,h2,h3,h4⟩:=hq;exact ⟨.inl ⟨.bool true,.bool true,[],rfl,λ_=>rfl,.bool true,qbA l _,λ_=>⟨List.Pairwise.nil,λ_ hm=>(nomatch hm)⟩⟩,h2,h3,h4⟩
section
variable {prog:Program} {w:World} {A:Around} {E:Value->Shared->Prop} {s:Shared} {K:Frag}
end
end Att
namespace L2
open PySem PySem.Spec PyProof.Rows
def TL:∀ {vs:List Value} {ns:List Int},IntsAre vs ns->jx (ns.map V.int) vs
 |_,_,.nil=>.nil
 |_,_,.cons n t h=>.cons ⟨t,rfl⟩ (TL h)
def qlW (H:Hp):Prop:=∀ b,H b=none\/∃ o xs,H b=some (.frz o (.lst xs))
def qcI {P:Program} {w:World} {K:Frg} {mg mb:Str->Option Value} {CX:CXT} {k:Nat} {fa a:Addr} {fd:FuncData} {x:Str} {sp:Sp} {s₁:Shared} {vs:List Value} {ns:List Int}
  (KX:K.In s₁.heap) (hns:s₁.heap.Ns mainGlobals mg) (hb:s₁.heap.Ns builtinsNs mb) (hbb:∀ x:Str,x≠"__name__" -> mb x=bootBuiltins x) (hlim:s₁.heap.NoLimit) (hg:s₁.gens=#[])
  (ha:s₁.heap.get? a=some { cls:=.type "list",data:=.seq vs.toArray }) (hi:IntsAre vs ns) (hl:ns.length<=sizeLine) (hr:Room k callerA)
  (F:∀ base:Heap,K.In base->base.Ns mainGlobals mg->FnOk P w K mg base CX k fa fd [x] sp) (hbind:∀ (s:Shared) (u:Value),BindsTo s fd ⟨[u],[]⟩ [(x,u)])
  (hsp:∀ H:Hp,qlW H->SqL K H a (ns.map V.int)->sp [.ref a] H (λv _=>v=.bl true) λ_ _ _=>False)
  (hCX:∀ H e s',CX [] H s₁ (λ_ _ _=>False) e s'->False) :
  codeAny (model P w) callerA (.call (.ref fa) ⟨[.ref a],[]⟩) (λr s'=>r=.ok (.ret (.bool true))/\OldK s₁.heap s'.heap/\s'.os=s₁.os/\AllBare s'.gens) s₁:=by
 have rv:=TL hi;have lenV:=hi.length
 -- from an abstract heap in which nothing but the script may be tracked
 have core:∀ H:Hp,qlW H->SqL K H a (ns.map V.int)->HOk P w H s₁.heap->(∀ b,H b≠none->b=a)->(H a≠none->K.lookup a=none) ->
   codeAny (model P w) callerA (.call (.ref fa) ⟨[.ref a],[]⟩) (λr s'=>r=.ok (.ret (.bool true))/\OldK s₁.heap s'.heap/\s'.os=s₁.os/\AllBare s'.gens) s₁:=by
  intro H hO hS hok hA hK;have base_of:∀ {b:Addr} {o:Obj},s₁.heap.get? b=some o->H b=none->(qcb s₁.heap H).get? b=some o:=λe n=>qb8 e n;have noA:∀ {b:Addr} {o:Obj} {es:Array DictEntry} {ep:Nat},s₁.heap.get? b=some o->o.data=.dict es ep->H b=none:=λ{b o es ep} e d=>by
   cases q:H b with
   |none=>rfl
   |some u=>
    have e':b=a:=hA b (by rw [q];simp);subst e';rw [ha] at e;cases e;have d':Data.seq vs.toArray _=Data.dict es ep:=d;cases d'
  have nsK:∀ {b:Addr} {m:Str->Option Value},s₁.heap.Ns b m->(qcb s₁.heap H).Ns b m:=λ{b m} ⟨o,es,ep,e,d,r⟩=>⟨o,es,ep,base_of e (noA e d),d,r⟩
  have hKb:K.In (qcb s₁.heap H):=λb o e=>base_of (KX b o e) (by
   cases q:H b with
   |none=>rfl
   |some u=>
    have e':b=a:=hA b (by rw [q];simp);subst e';rw [hK (by rw [q];simp)] at e;cases e)
  have hM:Mod K mg (qcb s₁.heap H):=⟨hKb,nsK hns,⟨mb,nsK hb,hbb⟩,let ⟨mc,h1,h2⟩:=hlim;⟨mc,nsK h1,h2⟩⟩
  have e0:Env0 P w K mg (qcb s₁.heap H) callerA [] s₁ H:=⟨rfl,hM,λb o e=>qgb e,Nat.le_of_eq (qba _ _),trivial,λb hb=>absurd (show b∈([]:List Addr) from hb) (by simp),hok,.of_eq hg⟩
  refine codeAny_mono ((F _ hKb (nsK hns)).run callerA [] s₁ H ⟨[.ref a],[]⟩ [.ref a] [.ref a] _ _ hr e0 (hbind s₁ (.ref a)) (.cons rfl .nil) (hsp H hO hS)) λr s' h=>?_;cases r with
  |error e=>exact (hCX H e s' h).elim
  |ok fl=>
   cases fl with
   |next=>exact False.elim h
   |brk=>exact False.elim h
   |cont=>exact False.elim h
   |ret u=>
    obtain ⟨v,H',os,bare,un,hok',r',q⟩:=h;have q':v=.bl true:=q;subst q';obtain rfl:u=Value.bool true:=r';refine ⟨rfl,OldK.of_keep λb o e=>?_,os,bare⟩;cases q:H b with
    |none=>exact un.keep b o e q (by intro z;exact absurd (show b∈([]:List Addr) from z) (by simp)) (by simp)
    |some u=>
     rcases hO b with z|⟨ob,xs,z⟩
     ·rw [q] at z;cases z
     ·have z2:=un.frzs b ob _ z;obtain ⟨e1,_⟩:=hok b _ z;obtain ⟨e2,_⟩:=hok' b _ z2;rw [e] at e1;cases e1;exact e2
 cases hk:K.lookup a with
 |some o=>
  -- the script is one of the module's own objects
  have e:=KX a o hk;rw [ha] at e;cases e;refine core (λ_=>none) (λ_=>.inl rfl) (.inr ⟨_,vs.toArray,_,hk,rfl,rfl,rfl,by rw [size_toArray,lenV];exact hl,by simpa using rv⟩) (λb u z=>by have z':(none:Option HO)=some u:=z;cases z') (λb z=>absurd rfl z) λz=>absurd rfl z
 |none=>
  refine core (λb=>if b=a then some (.frz { cls:=.type "list",data:=.seq vs.toArray } (.lst (ns.map V.int))) else none) (λb=>?_) (.inl (.inr ⟨{ cls:=.type "list",data:=.seq vs.toArray },if_pos rfl⟩)) (λb u z=>?_) (λb z=>?_) λ_=>hk
  ·by_cases hb:b=a
   ·exact .inr ⟨_,_,if_pos hb⟩
   ·exact .inl (if_neg hb)
  ·by_cases hb:b=a
   ·have z':=(if_pos hb).symm.trans z;cases z';subst hb;exact ⟨ha,by rw [length_map];exact hl,vs,_,rv,ha⟩
   ·have z':=(if_neg hb).symm.trans z;cases z'
  ·by_cases hb:b=a
   ·exact hb
   ·exact absurd (if_neg hb) z
def qf2 {l:PySem.W.OpenLaw} {n k:Nat} {q:Program} {loose:List Str} {XP:(Str->Option Value)->Heap->Prop} {YP:World->Heap->Prop} {d:DefRec} {K:Params->PySem.W.Frag} {CX:World->CXT} {sp:World->Sp} {x:Str}
  (hn:l.most=some n) (hn2:n<=sizeLine) (hdf:d.params.defaults=[]) (hr:Room k callerA)
  (hY:∀ (w:World) (h:Heap),YP w h->(K w.params).In h)
  (F:∀ (w:World) (mg:Str->Option Value) (fa:Addr) (h:Heap),(K w.params).In h->h.Ns mainGlobals mg->mg d.name=some (.ref fa) ->
   ∃ fd:FuncData,(∀ (s:Shared) (u:Value),BindsTo s fd ⟨[u],[]⟩ [(x,u)]) /\
    ∀ base:Heap,(K w.params).In base->base.Ns mainGlobals mg->FnOk l.prog w (K w.params) mg base (CX w) k fa fd [x] (sp w))
  (hsp:∀ (w:World) (H:Hp) (a:Addr) (ns:List Int),ns.length<=n->qlW H->SqL (K w.params) H a (ns.map V.int)->sp w [.ref a] H (λv _=>v=.bl true) λ_ _ _=>False)
  (hCX:∀ (w:World) (H:Hp) (s:Shared) (e:Value) (s':Shared),CX w [] H s (λ_ _ _=>False) e s'->False) :
  PySem.W.WalkO q loose XP YP l.row.toRowW d [] (λf vs=>PySem.call f vs):=by
 refine Att.K4 hn hdf λw s₀ s₁ mg mb fa o pm cd doc a vs ns G Y ho hd hcd hmg hobj hints hlen hg=>?_;have KX:=hY w _ Y;obtain ⟨fd,hb,hF⟩:=F w mg fa _ KX G.T.g hmg;exact qcI KX G.T.g G.T.b G.T.builtins G.T.nolimit hg hobj hints (Nat.le_trans hlen hn2) hr hF hb (λH hO hS=>hsp w H a ns hlen hO hS) λH e s'=>hCX w H s₁ e s'
def YR (s:Stmt):Arguments:=match s with
 |.FunctionDef _ a _ _ _ _ _ _ _ _=>a
 |_=>{ posonlyargs:=[],args:=[],vararg:=none,kwonlyargs:=[],kw_defaults:=[],kwarg:=none,defaults:=[] }
def QF (s:Stmt):List Stmt:=match s with
 |.FunctionDef _ _ b _ _ _ _ _ _ _=>b
 |_=>[]
def qk (s:Stmt):Scope:=match s with
 |.FunctionDef _ _ _ _ _ _ sc _ _ _=>sc
 |_=>{ kind:=.function,names:=[],isGenerator:=false,isCoroutine:=false }
abbrev CX0:CXT:=λ_ _ _ _ _ _=>False
abbrev E0:XK:=λ_ _ _=>False
def qno {X:Cx}:qao CX0 X E0:=λ_ _ _ _ _ _ _ h=>h.elim
structure Fun (K:Frg) (x qual:Str) (st:Stmt) (f:Addr) (fd:FuncData):Prop where
 ex:∃ (oc:Value) (od:Option Addr) (kV doc pm:Value) (an:Option Addr) (cdv ct:Value) (osl:Array (Option Value)),
  fd=PySem.W.fnOf x qual (YR st) (QF st) (qk st) .none kV doc pm an cdv ct/\K.lookup f=some ⟨oc,od,.func fd,osl⟩/\PySem.W.codeIn K cdv qual=true
 kp:PySem.W.keepIn K (.ref f)=true
section
variable {P:Program} {w:World} {K:Frg} {mg:Str->Option Value} {base:Heap}
def Fun.ok {x qual:Str} {st:Stmt} {f:Addr} {fd:FuncData} {N ps:List Str} {k:Nat} {sp:Sp} (F:Fun K x qual st f fd) (S:FnScope N ps (qk st)) (len:∀ vs H Q E,sp vs H Q E->vs.length=ps.length)
  (hbody:∀ (cdv:Value) (A:Around) (outer:List Env) (s:Shared) (H:Hp) (vs:List V) (Q:VK) (E:XK),Room k (A.deeper (envOfC qual (qk st) s.heap.objs.size f cdv))->sp vs H Q E ->
   ∃ t,PSs (qbU CX0 P w K mg base N qual (qk st) f cdv A outer s H E).nox (QF st) t/\t { nx:=λ_ H'=>Q .non H',rt:=Q } (XS N vs) H):FnOk P w K mg base CX0 (k+1) f fd ps sp:=by
 obtain ⟨oc,od,kV,doc,pm,an,cdv,ct,osl,rfl,lk,hcd⟩:=F.ex;refine qnc lk hcd S len λA outer s H vs Q E hr hsp=>?_;obtain ⟨t,h,q⟩:=hbody cdv A outer s H vs Q E hr hsp;exact ⟨t,h.nox,q⟩
def Fun.binds {x qual:Str} {st:Stmt} {f:Addr} {fd:FuncData} {ps:List Str} (F:Fun K x qual st f fd)
  (h:∀ (kV doc pm:Value) (an:Option Addr) (cdv ct:Value) (us:List Value),us.length=ps.length->bindArgs (PySem.W.fnOf x qual (YR st) (QF st) (qk st) .none kV doc pm an cdv ct) ⟨us,[]⟩=pure (ps.zip us)):zX K fd ps []:=by
 obtain ⟨oc,od,kV,doc,pm,an,cdv,ct,osl,rfl,lk,hcd⟩:=F.ex;exact .all (h kV doc pm an cdv ct)
def qia {x qual:Str} {st:Stmt} {f:Addr} {oc:Value} {od an:Option Addr} {osl:Array (Option Value)} {kV doc pm cdv ct:Value} (l:K.lookup f=some ⟨oc,od,.func (PySem.W.fnOf x qual (YR st) (QF st) (qk st) .none kV doc pm an cdv ct),osl⟩)
  (c:PySem.W.codeIn K cdv qual=true) (k:PySem.W.keepIn K (.ref f)=true):Fun K x qual st f (PySem.W.fnOf x qual (YR st) (QF st) (qk st) .none kV doc pm an cdv ct):=⟨⟨oc,od,kV,doc,pm,an,cdv,ct,osl,rfl,l,c⟩,k⟩
end
section
variable {X:Cx}
end
def qom {A B:Prop} (h:B):if false=true then A else B:=by
 rw [if_neg Bool.false_ne_true];exact h
def qoC {A B:Prop} (h:A):if true=true then A else B:=by
 rw [if_pos rfl];exact h
end L2
set_option maxHeartbeats 4000000
namespace L3
open PySem PySem.Spec PyProof.Rows L2
set_option genInjectivity true in
inductive T where
 |non|bl (b:Bool)|int (i:Int)|str (x:Str)|tup (xs:List T)|ref (a:Addr)
inductive O where
 |lst (xs:List T)
 |frz (xs:List T)
abbrev Gp:=Addr->Option O
def gu (G:Gp) (a:Addr) (o:O):Gp:=λb=>if b=a then some o else G b
def qL {G:Gp} {a:Addr} {o:O}:gu G a o a=some o:=by unfold gu;rw [if_pos rfl]
def ZW {G:Gp} {a b:Addr} {o:O} (h:b≠a):gu G a o b=G b:=by unfold gu;rw [if_neg h]
mutual
inductive Rp (K:Frg) (H:Hp):T->V->Prop
 |non:Rp K H .non .non
 |bl (b:Bool):Rp K H (.bl b) (.bl b)
 |int (i:Int):Rp K H (.int i) (.int i)
 |str (x:Str):Rp K H (.str x) (.str x)
 |ref (a:Addr):Rp K H (.ref a) (.ref a)
 |tup {xs:List T} {a:Addr} {vs:List V}:SqT K H a vs->Rps K H xs vs->Rp K H (.tup xs) (.ref a)
inductive Rps (K:Frg) (H:Hp):List T->List V->Prop
 |nil:Rps K H [] []
 |cons {x:T} {v:V} {xs:List T} {vs:List V}:Rp K H x v->Rps K H xs vs->Rps K H (x::xs) (v::vs)
end
def OR (K:Frg) (H:Hp) (a:Addr):O->Prop
 |.lst xs=>∃ vs,H a=some (.lst vs)/\Rps K H xs vs
 |.frz xs=>∃ vs,(∃ o,H a=some (.frz o (.lst vs)))/\Rps K H xs vs
def HR (K:Frg) (G:Gp) (H:Hp):Prop:=∀ a o,G a=some o->OR K H a o
def Kp (G:Gp) (H:Hp) (G':Gp) (H':Hp):Prop:=∀ a o,H a=some o->G a=none->H' a=some o/\G' a=none
def Kp.refl {G:Gp} {H:Hp}:Kp G H G H:=λ_ _ h g=>⟨h,g⟩
def Kp.trans {G G1 G2:Gp} {H H1 H2:Hp} (a:Kp G H G1 H1) (b:Kp G1 H1 G2 H2):Kp G H G2 H2:=λx o h g=>
 let ⟨h1,g1⟩:=a x o h g;b x o h1 g1
section
variable {K:Frg} {G G':Gp} {H H':Hp}
def HR.noneT (hr:HR K G H) {a:Addr} {vs:List V} (h:Rd H a (.tup vs)):G a=none:=by
 cases e:G a with
 |none=>rfl
 |some o=>
  have q:=hr a o e;cases o with
  |lst xs=>
   obtain ⟨us,q1,_⟩:=q;rcases h with h|⟨ob,h⟩<;>(rw [q1] at h;cases h)
  |frz xs=>
   obtain ⟨us,⟨o1,q1⟩,_⟩:=q;rcases h with h|⟨ob,h⟩<;>(rw [q1] at h;cases h)
def RA (hr:HR K G H) (k:Kp G H G' H') {a:Addr} {vs:List V} (h:SqT K H a vs):SqT K H' a vs:=by
 rcases h with h|h
 ·have g:=hr.noneT h;rcases h with h|⟨o,h⟩
  ·exact .inl (.inl (k a _ h g).1)
  ·exact .inl (.inr ⟨o,(k a _ h g).1⟩)
 ·exact .inr h
mutual
def Rp.keep (hr:HR K G H) (k:Kp G H G' H'):∀ {x:T} {v:V},Rp K H x v->Rp K H' x v
 |_,_,.non=>.non
 |_,_,.bl b=>.bl b
 |_,_,.int i=>.int i
 |_,_,.str x=>.str x
 |_,_,.ref a=>.ref a
 |_,_,.tup h hs=>.tup (RA hr k h) (Rps.keep hr k hs)
def Rps.keep (hr:HR K G H) (k:Kp G H G' H'):∀ {x:List T} {v:List V},Rps K H x v->Rps K H' x v
 |_,_,.nil=>.nil
 |_,_,.cons a b=>.cons (Rp.keep hr k a) (Rps.keep hr k b)
end
def Rps.length:∀ {xs:List T} {vs:List V},Rps K H xs vs->xs.length=vs.length
 |_,_,.nil=>rfl
 |_,_,.cons _ b=>by simp [Rps.length b]
def Rps.get:∀ {xs:List T} {vs:List V} {i:Nat} {x:T},Rps K H xs vs->xs[i]?=some x->∃ v,vs[i]?=some v/\Rp K H x v
 |_,_,_,_,.nil,e=>by simp at e
 |_,_,0,_,.cons r _,e=>by simp at e;subst e;exact ⟨_,rfl,r⟩
 |_,_,i+1,x,.cons _ t,e=>by
  obtain ⟨u,h1,h2⟩:=Rps.get (i:=i) (x:=x) t (by simpa using e);exact ⟨u,by simpa using h1,h2⟩
def Rps.append:∀ {xs ys:List T} {vs us:List V},Rps K H xs vs->Rps K H ys us->Rps K H (xs++ys) (vs++us)
 |_,_,_,_,.nil,s=>s
 |_,_,_,_,.cons r t,s=>.cons r (Rps.append t s)
def Rps.take:∀ {xs:List T} {vs:List V} (n:Nat),Rps K H xs vs->Rps K H (xs.take n) (vs.take n)
 |_,_,0,_=>.nil
 |_,_,_+1,.nil=>.nil
 |_,_,n+1,.cons r t=>.cons r (Rps.take n t)
def Rps.drop:∀ {xs:List T} {vs:List V} (n:Nat),Rps K H xs vs->Rps K H (xs.drop n) (vs.drop n)
 |_,_,0,r=>r
 |_,_,_+1,.nil=>.nil
 |_,_,n+1,.cons _ t=>Rps.drop n t
def Rps.set {x:T} {v:V} (r:Rp K H x v):∀ {xs:List T} {vs:List V} (i:Nat),Rps K H xs vs->Rps K H (xs.set i x) (vs.set i v)
 |_,_,_,.nil=>.nil
 |_,_,0,.cons _ t=>.cons r t
 |_,_,i+1,.cons q t=>.cons q (Rps.set r i t)
def Rps.ints:∀ (ns:List Int),Rps K H (ns.map T.int) (ns.map V.int)
 |[]=>.nil
 |n::r=>.cons (.int n) (Rps.ints r)
def Kp.laid {p:Addr} {ho:HO} (hp:H p=none):Kp G H G (upd H p ho):=λa o h g=>⟨by rw [zp (qU h hp)];exact h,g⟩
def HR.free (hr:HR K G H) {p:Addr} (hp:H p=none):G p=none:=by
 cases e:G p with
 |none=>rfl
 |some o=>
  have q:=hr p o e;cases o with
  |lst xs=>obtain ⟨us,q1,_⟩:=q;rw [hp] at q1;cases q1
  |frz xs=>obtain ⟨us,⟨o1,q1⟩,_⟩:=q;rw [hp] at q1;cases q1
def OR.keep (hr:HR K G H) (k:Kp G H G' H') {a:Addr} {o:O} (h:OR K H a o) (e:∀ u,H a=some u->H' a=some u):OR K H' a o:=by
 cases o with
 |lst xs=>obtain ⟨vs,h1,h2⟩:=h;exact ⟨vs,e _ h1,h2.keep hr k⟩
 |frz xs=>obtain ⟨vs,⟨o,h1⟩,h2⟩:=h;exact ⟨vs,⟨o,e _ h1⟩,h2.keep hr k⟩
def HR.laid (hr:HR K G H) {p:Addr} {ho:HO} (hp:H p=none):HR K G (upd H p ho):=λa o e=>
 (hr a o e).keep hr (Kp.laid hp) λu h=>by rw [zp (qU h hp)];exact h
def Kp.newL {p:Addr} {ho:HO} {o':O} (hp:H p=none):Kp G H (gu G p o') (upd H p ho):=λa o h g=>
 ⟨by rw [zp (qU h hp)];exact h,by rw [ZW (qU h hp)];exact g⟩
def HR.newL (hr:HR K G H) {p:Addr} {xs:List T} {vs:List V} (hp:H p=none) (r:Rps K H xs vs):HR K (gu G p (.lst xs)) (upd H p (.lst vs)):=λa o e=>by
 by_cases ha:a=p
 ·subst ha;rw [qL] at e;cases e;exact ⟨vs,zK,r.keep hr (Kp.laid hp)⟩
 ·rw [ZW ha] at e;exact (hr a o e).keep hr (Kp.laid hp) λu h=>by rw [zp ha];exact h
def Kp.wr {p:Addr} {ho:HO} {o o':O} (g:G p=some o):Kp G H (gu G p o') (upd H p ho):=λa ob h ga=>by
 have ha:a≠p:=by intro e;subst e;rw [g] at ga;cases ga
 exact ⟨by rw [zp ha];exact h,by rw [ZW ha];exact ga⟩
def HR.wr (hr:HR K G H) {p:Addr} {ys xs:List T} {vs:List V} (g:G p=some (.lst ys)) (r:Rps K H xs vs):HR K (gu G p (.lst xs)) (upd H p (.lst vs)):=λa o e=>by
 have k:Kp G H (gu G p (.lst xs)) (upd H p (.lst vs)):=Kp.wr g;by_cases ha:a=p
 ·subst ha;rw [qL] at e;cases e;exact ⟨vs,zK,r.keep hr k⟩
 ·rw [ZW ha] at e;exact (hr a o e).keep hr k λu h=>by rw [zp ha];exact h
end
abbrev St3:=List (Option T)
structure Rel (K:Frg) (τ:St3) (G:Gp) (σ:L2.St) (H:Hp):Prop where
 hp:HR K G H
 len:τ.length=σ.length
 st:∀ (i:Nat) (t:T),τ[i]?=some (some t)->∃ v,σ[i]?=some (some v)/\Rp K H t v
def Rel.next {K:Frg} {τ:St3} {G G':Gp} {σ:L2.St} {H H':Hp} (r:Rel K τ G σ H) (hr:HR K G' H') (k:Kp G H G' H'):Rel K τ G' σ H':=
 ⟨hr,r.len,λi t e=>let ⟨v,h1,h2⟩:=r.st i t e;⟨v,h1,h2.keep r.hp k⟩⟩
def Rel.set {K:Frg} {τ:St3} {G:Gp} {σ:L2.St} {H:Hp} {t:T} {v:V} (r:Rel K τ G σ H) (i:Nat) (h:Rp K H t v):Rel K (τ.set i (some t)) G (σ.set i (some v)) H:=by
 refine ⟨r.hp,by simp [r.len],λj u e=>?_⟩;by_cases hij:i=j
 ·subst hij;rw [List.getElem?_set_self'] at e;have hl:i<τ.length:=by
   cases q:τ[i]? with
   |none=>rw [q] at e;cases e
   |some z=>exact (List.getElem?_eq_some_iff.mp q).1
  rw [getElem?_eq_getElem hl] at e;have e':t=u:=by simpa using e
  subst e';exact ⟨v,by rw [List.getElem?_set_self (by rw [← r.len];exact hl)],h⟩
 ·rw [List.getElem?_set_ne hij] at e;obtain ⟨w,h1,h2⟩:=r.st j u e;exact ⟨w,by rw [List.getElem?_set_ne hij];exact h1,h2⟩
abbrev Q3:=T->Gp->Prop
abbrev TE3:=St3->Gp->Q3->Prop
abbrev TT3:=St3->Gp->(Bool->Gp->Prop)->Prop
abbrev TA3:=St3->Gp->(List T->Gp->Prop)->Prop
def Aft (K:Frg) (G:Gp) (H:Hp) (q:Q3) (Q:VK):Prop:=∀ x G',q x G'->∀ v H',Rp K H' x v->HR K G' H'->Kp G H G' H'->Q v H'
def qlC (K:Frg) (G:Gp) (H:Hp) (q:Bool->Gp->Prop) (Q:Bool->Hp->Prop):Prop:=∀ x G',q x G'->∀ H',HR K G' H'->Kp G H G' H'->Q x H'
def qpe (K:Frg) (G:Gp) (H:Hp) (q:List T->Gp->Prop) (Q:List V->Hp->Prop):Prop:=∀ x G',q x G'->∀ v H',Rps K H' x v->HR K G' H'->Kp G H G' H'->Q v H'
def lE (K:Frg) (t:TE3):TE:=λσ H Q=>∃ τ G q,Rel K τ G σ H/\t τ G q/\Aft K G H q Q
def lT (K:Frg) (t:TT3):TT:=λσ H Q=>∃ τ G q,Rel K τ G σ H/\t τ G q/\qlC K G H q Q
def lA (K:Frg) (t:TA3):TA:=λσ H Q=>∃ τ G q,Rel K τ G σ H/\t τ G q/\qpe K G H q Q
abbrev E3 (X:Cx) (e:Expr) (t:TE3):Prop:=PE X e (lE X.K t)
abbrev C3 (X:Cx) (e:Expr) (t:TT3):Prop:=PT X e (lT X.K t)
abbrev W3 (X:Cx) (e:Expr) (t:TT3):Prop:=PW X e (lT X.K t)
abbrev A3 (X:Cx) (es:List Expr) (t:TA3):Prop:=PA X es (lA X.K t)
def Aft.back {K:Frg} {G G1:Gp} {H H1:Hp} {q:Q3} {Q:VK} (a:Aft K G H q Q) (k:Kp G H G1 H1):Aft K G1 H1 q Q:=λx G' h v H' r hr k'=>a x G' h v H' r hr (k.trans k')
def qlC.back {K:Frg} {G G1:Gp} {H H1:Hp} {q:Bool->Gp->Prop} {Q:Bool->Hp->Prop} (a:qlC K G H q Q) (k:Kp G H G1 H1):qlC K G1 H1 q Q:=λx G' h H' hr k'=>a x G' h H' hr (k.trans k')
def WF {X:Cx} {e:Expr} {t t':TE} (h:PE X e t) (w:∀ σ H Q,t' σ H Q->t σ H Q):PE X e t':=λpins s σ H Q I q=>h pins s σ H Q I (w σ H Q q)
def qm5 {X:Cx} {e:Expr} {t t':TT} (h:PT X e t) (w:∀ σ H Q,t' σ H Q->t σ H Q):PT X e t':=λpins s σ H Q I q=>h pins s σ H Q I (w σ H Q q)
def qn6 {X:Cx} {e:Expr} {t t':TT} (h:PW X e t) (w:∀ σ H Q,t' σ H Q->t σ H Q):PW X e t':=λwh pins s σ H Q I q=>h wh pins s σ H Q I (w σ H Q q)
def qn7 {X:Cx} {e:List Expr} {t t':TA} (h:PA X e t) (w:∀ σ H Q,t' σ H Q->t σ H Q):PA X e t':=λpos pins s σ H Q I q=>h pos pins s σ H Q I (w σ H Q q)
def jG {K:Frg} {ta:TE3} {τ:St3} {G:Gp} {σ:L2.St} {H:Hp} {q:Q3} {Q:VK} (r:Rel K τ G σ H) (h:ta τ G q)
  (n:∀ x G1,q x G1->∀ v H1,Rp K H1 x v->HR K G1 H1->Kp G H G1 H1->Rel K τ G1 σ H1->Q v H1):lE K ta σ H Q:=
 ⟨τ,G,q,r,h,λx G1 hq v H1 rx hr k=>n x G1 hq v H1 rx hr k (r.next hr k)⟩
def CQ {K:Frg} {ta:TT3} {τ:St3} {G:Gp} {σ:L2.St} {H:Hp} {q:Bool->Gp->Prop} {Q:Bool->Hp->Prop} (r:Rel K τ G σ H) (h:ta τ G q)
  (n:∀ x G1,q x G1->∀ H1,HR K G1 H1->Kp G H G1 H1->Rel K τ G1 σ H1->Q x H1):lT K ta σ H Q:=
 ⟨τ,G,q,r,h,λx G1 hq H1 hr k=>n x G1 hq H1 hr k (r.next hr k)⟩
def UF {K:Frg} {ta:TA3} {τ:St3} {G:Gp} {σ:L2.St} {H:Hp} {q:List T->Gp->Prop} {Q:List V->Hp->Prop} (r:Rel K τ G σ H) (h:ta τ G q)
  (n:∀ x G1,q x G1->∀ v H1,Rps K H1 x v->HR K G1 H1->Kp G H G1 H1->Rel K τ G1 σ H1->Q v H1):lA K ta σ H Q:=
 ⟨τ,G,q,r,h,λx G1 hq v H1 rx hr k=>n x G1 hq v H1 rx hr k (r.next hr k)⟩
section
variable {X:Cx} {a b c:Expr} {ta tb tc:TE3} {pos:Pos}
def v3 (i:Nat):TE3:=λτ G q=>match τ[i]? with|some (some t)=>q t G|_=>False
def qma (i:Nat) {x:Str} {pos:Pos} (hN:X.N[i]?=some x:=by rfl) (hv:Vis X.env.scope x:=by first|exact Or.inl rfl|exact Or.inr (Or.inl rfl)|exact Or.inr (Or.inr rfl)) (hd:(x==("__debug__" : Str))=false:=by decide)
  (hcd:(x==("__classdict__" : Str))=false:=by decide):E3 X (.Name x pos) (v3 i):=by
 refine WF (qi0 (i:=i) hN hv hd hcd) λσ H Q ⟨τ,G,q,r,h,af⟩=>?_;unfold v3 at h;split at h
 ·rename_i t e;obtain ⟨v,e2,rv⟩:=r.st i t e;exact ⟨v,e2,af t G h v H rv r.hp Kp.refl⟩
 ·exact h.elim
def c3 (t:T):TE3:=λ_ G q=>q t G
def e_c {t:T} {v:V} {e:Expr} (h:PE X e (tC v)) (hr:∀ H,Rp X.K H t v):E3 X e (c3 t):=WF h λσ H Q ⟨τ,G,q,r,h,af⟩=>af t G h v H (hr H) r.hp Kp.refl
def qnf {i:Int} {j pos}:E3 X (.Constant (.int i) j pos) (c3 (.int i)):=e_c qiP λ_=>.int i
def qpL {b:Bool} {j pos}:E3 X (.Constant (.bool b) j pos) (c3 (.bl b)):=e_c qnK λ_=>.bl b
def qnJ {j pos}:E3 X (.Constant .none j pos) (c3 .non):=e_c qjV λ_=>.non
def qmx {x:Str} {j pos}:E3 X (.Constant (.str x) j pos) (c3 (.str x)):=e_c qiB λ_=>.str x
abbrev R3:=T->T->Gp->Q3->Prop
def XT (K:Frg) (r3:R3) (r:R2):Prop:=∀ x y v u G H q Q,HR K G H->Rp K H x v->Rp K H y u->r3 x y G q->Aft K G H q Q->r v u H Q
def o3 (r:R3) (ta tb:TE3):TE3:=λτ G q=>ta τ G λx G1=>tb τ G1 λy G2=>r x y G2 q
def qa3 {K:Frg} {r3:R3} {r:R2} (hr:XT K r3 r) {σ:L2.St} {H:Hp} {Q:VK} (h:lE K (o3 r3 ta tb) σ H Q):tOp r (lE K ta) (lE K tb) σ H Q:=by
 obtain ⟨τ,G,q,rl,h,af⟩:=h;refine jG rl h λx G1 h1 v H1 rx hr1 k1 rl1=>jG rl1 h1 λy G2 h2 u H2 ry hr2 k2 rl2=>?_;exact hr x y v u G2 H2 q Q hr2 (rx.keep hr1 k2) ry h2 (af.back (k1.trans k2))
def M1 {op:Operator} {r3:R3} {r:R2} (ho:OpR X (binaryOp op) r) (hr:XT X.K r3 r) (ha:E3 X a ta) (hb:E3 X b tb):E3 X (.BinOp a op b pos) (o3 r3 ta tb):=
 WF (ql5 ho ha hb) λ_ _ _ h=>qa3 hr h
def qni {op:CmpOp} {r3:R3} {r:R2} (ho:OpR X (compareOp op) r) (hr:XT X.K r3 r) (ha:E3 X a ta) (hb:E3 X b tb) (hm:behindInMarks op b=false):E3 X (.Compare a [op] [b] pos) (o3 r3 ta tb):=
 WF (qfB ho ha hb hm) λ_ _ _ h=>qa3 hr h
def tb3 (t:TE3):TT3:=λτ G q=>t τ G λx G'=>match x with|.bl k=>q k G'|_=>False
def qi6 {K:Frg} {t:TE3} {t2:TE} (hw:∀ σ H Q,lE K t σ H Q->t2 σ H Q) {σ:L2.St} {H:Hp} {Q:Bool->Hp->Prop} (h:lT K (tb3 t) σ H Q):qhZ t2 σ H Q:=by
 obtain ⟨τ,G,q,rl,h,af⟩:=h;refine hw _ _ _ (jG rl h λx G1 h1 v H1 rx hr1 k1 rl1=>?_);cases x with
 |bl k=>cases rx;exact ⟨k,rfl,af k G1 h1 H1 hr1 k1⟩
 |_=>exact h1.elim
def qmM {op:CmpOp} {r3:R3} {r:R2} (ho:OpR X (compareOp op) r) (hr:XT X.K r3 r) (ha:E3 X a ta) (hb:E3 X b tb) (hm:behindInMarks op b=false):C3 X (.Compare a [op] [b] pos) (tb3 (o3 r3 ta tb)):=
 qm5 (qe8 ho ha hb hm) λ_ _ _ h=>qi6 (λ_ _ _=>qa3 hr) h
def ch3 (r r':R3) (ta tb tc:TE3):TE3:=λτ G q=>ta τ G λx G1=>tb τ G1 λy G2=>r x y G2 λz G3=>match z with
 |.bl k=>if k=true then tc τ G3 λw G4=>r' y w G4 q else q (.bl false) G3
 |_=>False
def qoI (K:Frg) (r3:T->Gp->Q3->Prop) (r:V->Hp->VK->Prop):Prop:=∀ x v G H q Q,HR K G H->Rp K H x v->r3 x G q->Aft K G H q Q->r v H Q
def u3 (r:T->Gp->Q3->Prop) (ta:TE3):TE3:=λτ G q=>ta τ G λx G1=>r x G1 q
def qoO {op:UnaryOp} {r3:T->Gp->Q3->Prop} {r:V->Hp->VK->Prop} (ho:UnR X (unaryOp op) r) (hr:qoI X.K r3 r) (ha:E3 X a ta):E3 X (.UnaryOp op a pos) (u3 r3 ta):=
 WF (qmS ho ha) λ_ _ _ ⟨τ,G,q,rl,h,af⟩=>jG rl h λx G1 h1 v H1 rx hr1 k1 rl1=>hr x v G1 H1 q _ hr1 rx h1 (af.back k1)
def XZ:T->Gp->Q3->Prop:=λx G q=>match x with|.int i=>q (.int (-i)) G|_=>False
def qgv {K:Frg}:qoI K XZ (rU λi=>.int (-i)):=λx v G H q Q hr rx h af=>by
 cases x with
 |int i=>cases rx;exact ⟨i,rfl,af _ G h _ H (.int _) hr Kp.refl⟩
 |_=>exact h.elim
def iI (f:Int->Int->Int):R3:=λx y G q=>match x,y with|.int i,.int j=>q (.int (f i j)) G|_,_=>False
def iC (C:Int->Int->Prop) (f:Int->Int->Int):R3:=λx y G q=>match x,y with|.int i,.int j=>C i j/\q (.int (f i j)) G|_,_=>False
def iB (f:Int->Int->Bool):R3:=λx y G q=>match x,y with|.int i,.int j=>q (.bl (f i j)) G|_,_=>False
def qly {K:Frg} {f:Int->Int->Int}:XT K (iI f) (rI0 λi j=>.int (f i j)):=λx y v u G H q Q hr rx ry h af=>by
 cases x<;>try exact h.elim
 cases y<;>try exact h.elim
 cases rx;cases ry;exact ⟨_,_,rfl,rfl,af _ G h _ H (.int _) hr Kp.refl⟩
def TK {K:Frg} {C:Int->Int->Prop} {f:Int->Int->Int}:XT K (iC C f) (rI C λi j=>.int (f i j)):=λx y v u G H q Q hr rx ry h af=>by
 cases x<;>try exact h.elim
 cases y<;>try exact h.elim
 cases rx;cases ry;exact ⟨_,_,rfl,rfl,h.1,af _ G h.2 _ H (.int _) hr Kp.refl⟩
def jN {K:Frg} {f:Int->Int->Bool}:XT K (iB f) (rI0 λi j=>.bl (f i j)):=λx y v u G H q Q hr rx ry h af=>by
 cases x<;>try exact h.elim
 cases y<;>try exact h.elim
 cases rx;cases ry;exact ⟨_,_,rfl,rfl,af _ G h _ H (.bl _) hr Kp.refl⟩
def qnL (ha:E3 X a ta) (hb:E3 X b tb):E3 X (.BinOp a .Sub b pos) (o3 (iI (·-·)) ta tb):=M1 qjA qly ha hb
def qnv (ha:E3 X a ta) (hb:E3 X b tb):E3 X (.BinOp a .Mult b pos) (o3 (iC V9 (·*·)) ta tb):=M1 qj3 TK ha hb
def qmK (ha:E3 X a ta) (hb:E3 X b tb):E3 X (.BinOp a .Mod b pos) (o3 (iC (λ_ j=>0<j) (·%·)) ta tb):=M1 qho TK ha hb
def qmA (ha:E3 X a ta) (hb:E3 X b tb):E3 X (.BinOp a .FloorDiv b pos) (o3 (iC qfW (·/·)) ta tb):=M1 qf1 TK ha hb
def qnm (ha:E3 X a ta) (hb:E3 X b tb):E3 X (.BinOp a .Pow b pos) (o3 (iC TW (λi j=>i ^ j.toNat)) ta tb):=M1 qk3 TK ha hb
def qmP (ha:E3 X a ta) (hb:E3 X b tb):E3 X (.BinOp a .LShift b pos) (o3 (iC TW (λi j=>i*2 ^ j.toNat)) ta tb):=M1 qle TK ha hb
def qmm (ha:E3 X a ta):E3 X (.UnaryOp .USub a pos) (u3 XZ ta):=qoO qhf qgv ha
def jU:T->T->Option Bool
 |.non,.non=>some true|.non,.int _=>some false|.int _,.non=>some false|.non,.bl _=>some false|.bl _,.non=>some false|.non,.str _=>some false|.str _,.non=>some false
 |.int i,.int j=>some (decide (i=j))|.bl i,.bl j=>some (decide (i=j))|.str i,.str j=>some (decide (i=j))
 |.int _,.str _=>some false|.str _,.int _=>some false|.bl _,.str _=>some false|.str _,.bl _=>some false
 |_,_=>none
def MM {K:Frg} {H:Hp} {x y:T} {v u:V} {k:Bool} (rx:Rp K H x v) (ry:Rp K H y u) (h:jU x y=some k):qnA v u=true/\decide (v=u)=k:=by
 cases rx<;>cases ry<;>simp [jU] at h<;>subst h<;>refine ⟨rfl,?_⟩<;>simp
def qcm (neg:Bool):R3:=λx y G q=>match y with|.non=>q (.bl (match x with|.non=>!neg|_=>neg)) G|_=>False
def qkO {K:Frg} {H:Hp} {x:T} {v:V} (rx:Rp K H x v):decide (v=.non)=(match x with|.non=>true|_=>false):=by
 cases rx<;>simp
def K0 {K:Frg}:XT K (qcm false) (λx y H Q=>y=.non/\Q (.bl (decide (x=.non))) H):=λx y v u G H q Q hr rx ry h af=>by
 cases y<;>try exact h.elim
 cases ry;refine ⟨rfl,?_⟩;rw [qkO rx];refine af _ G h _ H ?_ hr Kp.refl;cases x<;>exact .bl _
variable {tA tB:TT3} {J0:List Expr}
def TB (t u:TT3):TT3:=λτ G q=>t τ G λk G1=>if k=true then u τ G1 q else q false G1
def or3 (t u:TT3):TT3:=λτ G q=>t τ G λk G1=>if k=true then q true G1 else u τ G1 q
def UE (t:TT3):TT3:=λτ G q=>t τ G λk G1=>q (!k) G1
def qir (ha:C3 X a tA):W3 X (.BoolOp .And [a] pos) tA:=qfj ha
def qnz (ha:C3 X a tA):W3 X (.BoolOp .Or [a] pos) tA:=qi5 ha
def qm8 (ha:C3 X a tA) (hb:W3 X (.BoolOp .And (b::J0) pos) tB):W3 X (.BoolOp .And (a::b::J0) pos) (TB tA tB):=
 qn6 (qkx ha hb) λ_ _ _ ⟨τ,G,q,rl,h,af⟩=>CQ rl h λk G1 h1 H1 hr1 k1 rl1=>by
  cases k with
  |true=>rw [if_pos rfl] at h1 ⊢;exact ⟨τ,G1,q,rl1,h1,af.back k1⟩
  |false=>rw [if_neg Bool.false_ne_true] at h1 ⊢;exact af _ G1 h1 H1 hr1 k1
def qo9 (ha:C3 X a tA) (hb:W3 X (.BoolOp .Or (b::J0) pos) tB):W3 X (.BoolOp .Or (a::b::J0) pos) (or3 tA tB):=
 qn6 (qnP ha hb) λ_ _ _ ⟨τ,G,q,rl,h,af⟩=>CQ rl h λk G1 h1 H1 hr1 k1 rl1=>by
  cases k with
  |true=>rw [if_pos rfl] at h1 ⊢;exact af _ G1 h1 H1 hr1 k1
  |false=>rw [if_neg Bool.false_ne_true] at h1 ⊢;exact ⟨τ,G1,q,rl1,h1,af.back k1⟩
def qnx (ha:C3 X a tA):C3 X (.UnaryOp .Not a pos) (UE tA):=
 qm5 (qjD ha) λ_ _ _ ⟨τ,G,q,rl,h,af⟩=>CQ rl h λk G1 h1 H1 hr1 k1 rl1=>af _ G1 h1 H1 hr1 k1
def qmq {e:Expr} {t:TE3} (h:E3 X e t) (he:∀ whole,isTrue e X.env whole=(do let v←whole;standAt e.pos;holding [v] (truthy v)):=by intro _;rfl):C3 X e (tb3 t):=
 qm5 (qil h he) λ_ _ _ h=>qi6 (λ_ _ _ h=>h) h
def ji (ta tb:TE3):TE3:=λτ G q=>ta τ G λx G1=>match x with|.bl k=>if k=true then tb τ G1 q else q (.bl false) G1|_=>False
def qht (ta tb:TE3):TE3:=λτ G q=>ta τ G λx G1=>match x with|.bl k=>if k=true then q (.bl true) G1 else tb τ G1 q|_=>False
def XG (ta:TE3):TE3:=λτ G q=>ta τ G λx G1=>match x with|.bl k=>q (.bl (!k)) G1|_=>False
def qnW {op} (h:E3 X a ta):E3 X (.BoolOp op [a] pos) ta:=qh1 h
def qmX (ha:E3 X a ta) (hb:E3 X (.BoolOp .And (b::J0) pos) tb):E3 X (.BoolOp .And (a::b::J0) pos) (ji ta tb):=
 WF (qiI ha hb) λ_ _ _ ⟨τ,G,q,rl,h,af⟩=>jG rl h λx G1 h1 v H1 rx hr1 k1 rl1=>by
  cases x with
  |bl k=>
   cases rx;refine ⟨k,rfl,?_⟩;cases k with
   |true=>rw [if_pos rfl];exact ⟨τ,G1,q,rl1,(show tb τ G1 q from by simpa using h1),af.back k1⟩
   |false=>rw [if_neg Bool.false_ne_true];exact af _ G1 (by simpa using h1) _ H1 (.bl false) hr1 k1
  |_=>exact h1.elim
def qmF (ha:E3 X a ta):E3 X (.UnaryOp .Not a pos) (XG ta):=
 WF (qlc ha) λ_ _ _ ⟨τ,G,q,rl,h,af⟩=>jG rl h λx G1 h1 v H1 rx hr1 k1 rl1=>by
  cases x with
  |bl k=>cases rx;exact ⟨k,rfl,af _ G1 h1 _ H1 (.bl _) hr1 k1⟩
  |_=>exact h1.elim
def if3 (t:TT3) (ta tb:TE3):TE3:=λτ G q=>t τ G λk G1=>if k=true then ta τ G1 q else tb τ G1 q
def qo6 {c:Expr} (hc:C3 X c tA) (ha:E3 X a ta) (hb:E3 X b tb):E3 X (.IfExp c a b pos) (if3 tA ta tb):=
 WF (qcr hc ha hb) λ_ _ _ ⟨τ,G,q,rl,h,af⟩=>CQ rl h λk G1 h1 H1 hr1 k1 rl1=>by
  cases k with
  |true=>rw [if_pos rfl] at h1 ⊢;exact ⟨τ,G1,q,rl1,h1,af.back k1⟩
  |false=>rw [if_neg Bool.false_ne_true] at h1 ⊢;exact ⟨τ,G1,q,rl1,h1,af.back k1⟩
variable {e:Expr} {es:List Expr} {te:TE3} {t:TA3}
def qi:TA3:=λ_ G q=>q [] G
def qc (ta:TE3) (tr:TA3):TA3:=λτ G q=>ta τ G λx G1=>tr τ G1 λxs G2=>q (x::xs) G2
def qmT:A3 X [] qi:=qn7 ME λ_ H _ ⟨τ,G,q,rl,h,af⟩=>af _ G h _ H .nil rl.hp Kp.refl
def qiY (ha:E3 X e te) (hr:A3 X es t) (hs:starEach (e::es) X.env=(false,eval e X.env)::starEach es X.env:=by rfl):A3 X (e::es) (qc te t):=
 qn7 (UT ha hr hs) λ_ _ _ ⟨τ,G,q,rl,h,af⟩=>jG rl h λx G1 h1 v H1 rx hr1 k1 rl1=>UF rl1 h1 λxs G2 h2 vs H2 rs hr2 k2 rl2=>
  af _ G2 h2 _ H2 (.cons (rx.keep hr1 k2) rs) hr2 (k1.trans k2)
def ju (t:TA3):TE3:=λτ G q=>t τ G λxs G1=>xs.length<=sizeLine/\q (.tup xs) G1
def VO (t:TA3):TE3:=λτ G q=>t τ G λxs G1=>xs.length<=sizeLine/\∀ p,G1 p=none->q (.ref p) (gu G1 p (.lst xs))
def qnU {x1} (h:A3 X es t):E3 X (.Tuple es x1 pos) (ju t):=
 WF (qdK h) λ_ _ _ ⟨τ,G,q,rl,h,af⟩=>UF rl h λxs G1 h1 vs H1 rs hr1 k1 rl1=>⟨by rw [← rs.length];exact h1.1,λp hp=>
  af _ G1 h1.2 _ _ (.tup (SqT.of zK) (rs.keep hr1 (Kp.laid hp))) (hr1.laid hp) (k1.trans (Kp.laid hp))⟩
def qmr (h:A3 X es t):E3 X (.List es pos) (VO t):=
 WF (qiO h) λ_ _ _ ⟨τ,G,q,rl,h,af⟩=>UF rl h λxs G1 h1 vs H1 rs hr1 k1 rl1=>⟨by rw [← rs.length];exact h1.1,λp hp=>
  af _ _ (h1.2 p (hr1.free hp)) _ _ (.ref p) (hr1.newL hp rs) (k1.trans (Kp.newL hp))⟩
def KI (K:Frg) (r3:List T->Gp->Q3->Prop) (r:List V->Hp->VK->Prop):Prop:=∀ xs vs G H q Q,HR K G H->Rps K H xs vs->r3 xs G q->Aft K G H q Q->r vs H Q
def cb3 (r:List T->Gp->Q3->Prop) (t:TA3):TE3:=λτ G q=>t τ G λxs G1=>r xs G1 q
def qif {K:Frg} {r3:List T->Gp->Q3->Prop} {r:List V->Hp->VK->Prop} (hr:KI K r3 r) {σ:L2.St} {H:Hp} {Q:VK} (h:lE K (cb3 r3 t) σ H Q):tCB r (lA K t) σ H Q:=by
 obtain ⟨τ,G,q,rl,h,af⟩:=h;exact UF rl h λxs G1 h1 vs H1 rs hr1 k1 rl1=>hr xs vs G1 H1 q Q hr1 rs h1 (af.back k1)
def qfQ {x:Str} {p:Pos} {id:String} {r3:List T->Gp->Q3->Prop} {r:List V->Hp->VK->Prop} (hc:JU X (.builtin id) r) (hr:KI X.K r3 r) (hg:Gl X x) (hm:X.mg x=none) (hv:bootBuiltins x=some (.builtin id)) (ha:A3 X (e::es) t) (hn:x≠"__name__" := by decide) (hdb:(x==("__debug__" : Str))=false:=by decide)
  (he:starEach (e::es) X.env=(false,eval e X.env)::starEach es X.env:=by rfl) (hpl:(backTo pos (starEach es X.env)).any (·.1)=false:=by rfl):E3 X (.Call (.Name x p) (e::es) [] pos) (cb3 r3 t):=
 WF (RK hc hg hm hv ha hn hdb he hpl) λ_ _ _ h=>qif hr h
def qb6 {x:Str} {p:Pos} {ty:String} {r3:List T->Gp->Q3->Prop} {r:List V->Hp->VK->Prop} (hc:JU X (.type ty) r) (hr:KI X.K r3 r) (hg:Gl X x) (hm:X.mg x=none) (hv:bootBuiltins x=some (.type ty)) (ha:A3 X (e::es) t) (hn:x≠"__name__" := by decide) (hdb:(x==("__debug__" : Str))=false:=by decide)
  (he:starEach (e::es) X.env=(false,eval e X.env)::starEach es X.env:=by rfl) (hpl:(backTo pos (starEach es X.env)).any (·.1)=false:=by rfl):E3 X (.Call (.Name x p) (e::es) [] pos) (cb3 r3 t):=
 WF (qbL hc hg hm hv ha hn hdb he hpl) λ_ _ _ h=>qif hr h
end
def getL (G:Gp) (p:Addr):Option (List T):=match G p with|some (.lst xs)=>some xs|some (.frz xs)=>some xs|none=>none
section
variable {K:Frg} {G G':Gp} {H H':Hp}
def jT (hr:HR K G H) {p:Addr} {xs:List T} (h:getL G p=some xs):∃ vs,SqL K H p vs/\Rps K H xs vs:=by
 unfold getL at h;split at h
 ·rename_i ys e;cases h;obtain ⟨vs,h1,h2⟩:=hr p _ e;exact ⟨vs,SqL.of h1,h2⟩
 ·rename_i ys e;cases h;obtain ⟨vs,⟨o,h1⟩,h2⟩:=hr p _ e;exact ⟨vs,.inl (.inr ⟨o,h1⟩),h2⟩
 ·cases h
def HR.lst (hr:HR K G H) {p:Addr} {xs:List T} (h:G p=some (.lst xs)):∃ vs,H p=some (.lst vs)/\Rps K H xs vs:=hr p _ h
def Rps.atI {xs:List T} {vs:List V} {i:Int} {x:T} (r:Rps K H xs vs) (h:atI xs i=some x):∃ v,L2.atI vs i=some v/\Rp K H x v:=by
 unfold L2.atI at h ⊢;rw [← r.length];cases e:ixN xs.length i with
 |none=>rw [e] at h;cases h
 |some j=>
  rw [e] at h;exact r.get (by simpa using h)
end
def ix3:R3:=λx y G q=>match x,y with
 |.tup xs,.int i=>(match atI xs i with|some z=>q z G|none=>False)
 |.ref p,.int i=>(match getL G p with|some xs=>(match atI xs i with|some z=>q z G|none=>False)|none=>False)
 |_,_=>False
section
variable {X:Cx} {a b c e:Expr} {es:List Expr} {ta tb tc te:TE3} {t:TA3} {pos:Pos}
def qip {K:Frg}:XT K ix3 (rIx K):=λx y v u G H q Q hr rx ry h af=>by
 cases x<;>try exact h.elim
 case tup xs=>
  cases y<;>try exact h.elim
  case int i=>
   unfold ix3 at h;simp only at h;split at h
   ·rename_i z e;cases ry;cases rx with
    |tup hs rs=>
     obtain ⟨w,e2,rw'⟩:=rs.atI e;exact .inr (.inl ⟨_,_,i,w,rfl,rfl,hs,e2,af z G h w H rw' hr Kp.refl⟩)
   ·exact h.elim
 case ref p=>
  cases y<;>try exact h.elim
  case int i=>
   unfold ix3 at h;simp only at h;split at h
   ·rename_i xs e0;split at h
    ·rename_i z e;cases ry;cases rx;obtain ⟨vs,hs,rs⟩:=jT hr e0;obtain ⟨w,e2,rw'⟩:=rs.atI e;exact .inl ⟨p,vs,i,w,rfl,rfl,hs,e2,af z G h w H rw' hr Kp.refl⟩
    ·exact h.elim
   ·exact h.elim
def qpk (ha:E3 X a ta) (hb:E3 X b tb) (hs:R7 b:=by intro _ _;rfl):E3 X (.Subscript a b pos) (o3 ix3 ta tb):=WF (qhs qkC ha hb hs) λ_ _ _ h=>qa3 qip h
def EJ {α:Type} (xs:List α) (lo hi:Option Int):List α:=(xs.drop (HT.sIx xs.length 0 lo)).take (HT.sIx xs.length xs.length hi-HT.sIx xs.length 0 lo)
def Rps.cut {K:Frg} {H:Hp} {xs:List T} {vs:List V} (r:Rps K H xs vs) (lo hi:Option Int):Rps K H (EJ xs lo hi) (qeB vs lo hi):=by
 unfold EJ qeB;rw [r.length];exact (r.drop _).take _
abbrev TO3:=St3->Gp->(Option Int->Gp->Prop)->Prop
def lO (K:Frg) (t:TO3):TO:=λσ H Q=>∃ τ G q,Rel K τ G σ H/\t τ G q/\∀ x G',q x G'->∀ H',HR K G' H'->Kp G H G' H'->Q x H'
abbrev P3 (X:Cx) (e:Option Expr) (t:TO3):Prop:=PO X e (lO X.K t)
def np3:TO3:=λ_ G q=>q none G
def sp3 (t:TE3):TO3:=λτ G q=>t τ G λx G1=>match x with|.int i=>q (some i) G1|_=>False
def qol {X:Cx} {e:Option Expr} {t t':TO} (h:PO X e t) (w:∀ σ H Q,t' σ H Q->t σ H Q):PO X e t':=λpins s σ H Q I q=>h pins s σ H Q I (w σ H Q q)
def qjN:P3 X none np3:=qol qft λ_ H _ ⟨τ,G,q,rl,h,af⟩=>af none G h H rl.hp Kp.refl
def qjo (h:E3 X e te):P3 X (some e) (sp3 te):=qol (qgJ h) λ_ _ _ ⟨τ,G,q,rl,h,af⟩=>jG rl h λx G1 h1 v H1 rx hr1 k1 rl1=>by
 cases x<;>try exact h1.elim
 cases rx;exact ⟨_,rfl,af _ G1 h1 H1 hr1 k1⟩
def sl3:T->Option Int->Option Int->Gp->Q3->Prop:=λx lo hi G q=>match x with
 |.tup xs=>¬ (HT.sIx xs.length 0 lo=0/\HT.sIx xs.length xs.length hi=xs.length)/\q (.tup (EJ xs lo hi)) G
 |.ref p=>(match getL G p with|some xs=>∀ a,G a=none->q (.ref a) (gu G a (.lst (EJ xs lo hi)))|none=>False)
 |_=>False
def CA (te:TE3) (tl th:TO3):TE3:=λτ G q=>te τ G λx G1=>tl τ G1 λl G2=>th τ G2 λu G3=>sl3 x l u G3 q
def qgy {lo hi:Option Expr} {tl th:TO3} {p2:Pos} (he:E3 X e te) (hl:P3 X lo tl) (hu:P3 X hi th):E3 X (.Subscript e (.Slice lo hi none p2) pos) (CA te tl th):=
 WF (RY (qc6.or qax) he hl hu) λ_ _ _ ⟨τ,G,q,rl,h,af⟩=>jG rl h λx G1 h1 v H1 rx hr1 k1 rl1=>
  ⟨τ,G1,_,rl1,h1,λl G2 h2 H2 hr2 k2=>⟨τ,G2,_,rl1.next hr2 k2,h2,λu G3 h3 H3 hr3 k3=>by
   have kk:=(k1.trans k2).trans k3;have rx3:=(rx.keep hr1 k2).keep hr2 k3;cases x<;>try exact h3.elim
   case tup xs=>
    cases rx3 with
    |tup hs rs=>
     refine .inl ⟨_,_,rfl,hs,by rw [← rs.length];exact h3.1,λp hp=>?_⟩;exact af _ G3 h3.2 _ _ (.tup (SqT.of zK) ((rs.cut _ _).keep hr3 (Kp.laid hp))) (hr3.laid hp) (kk.trans (Kp.laid hp))
   case ref p=>
    unfold sl3 at h3;simp only at h3;split at h3
    ·rename_i xs e0;cases rx3;obtain ⟨vs,hs,rs⟩:=jT hr3 e0;refine .inr ⟨p,vs,rfl,hs,λa ha=>?_⟩;exact af _ _ (h3 a (hr3.free ha)) _ _ (.ref a) (hr3.newL ha (rs.cut _ _)) (kk.trans (Kp.newL ha))
    ·exact h3.elim⟩⟩
def qbI {K:Frg} {H:Hp} {xs:List T} {vs:List V} (r:Rps K H xs vs):vs=[]↔xs=[]:=by
 cases r<;>simp
def j5:R3:=λx y G q=>match x,y with
 |.tup xs,.tup ys=>xs≠[]/\xs.length+ys.length<=sizeLine/\q (.tup (xs++ys)) G
 |.ref a,.ref b=>(match G a,G b with|some (.lst xs),some (.lst ys)=>xs.length+ys.length<=sizeLine/\∀ p,G p=none->q (.ref p) (gu G p (.lst (xs++ys)))|_,_=>False)
 |.int i,.int j=>q (.int (i+j)) G
 |_,_=>False
def RM {K:Frg}:XT K j5 (λx y H Q=>(rI0 (λi j=>.int (i+j)) x y H Q\/qeX K x y H Q)\/qmY x y H Q):=λx y v u G H q Q hr rx ry h af=>by
 cases x<;>try exact h.elim
 case int i=>
  cases y<;>try exact h.elim
  cases rx;cases ry;exact .inl (.inl ⟨_,_,rfl,rfl,af _ G h _ H (.int _) hr Kp.refl⟩)
 case tup xs=>
  cases y<;>try exact h.elim
  case tup ys=>
   obtain ⟨h1,h2,h3⟩:=h;cases rx with
   |tup hs rs=>
    cases ry with
    |tup hs' rs'=>
     refine .inl (.inr ⟨_,_,_,_,rfl,rfl,hs,hs',λz=>h1 ((qbI rs).mp z),by rw [← rs.length,← rs'.length];exact h2,λz=>?_,λz p hp=>?_⟩)
     ·have e:=(qbI rs').mp z;subst e;rw [List.append_nil] at h3;exact af _ G h3 _ H (.tup hs rs) hr Kp.refl
     ·exact af _ G h3 _ _ (.tup (SqT.of zK) ((rs.append rs').keep hr (Kp.laid hp))) (hr.laid hp) (Kp.laid hp)
 case ref a=>
  cases y<;>try exact h.elim
  case ref b=>
   unfold j5 at h;simp only at h;split at h
   ·rename_i xs ys e1 e2;cases rx;cases ry;obtain ⟨vs,g1,r1⟩:=hr.lst e1;obtain ⟨us,g2,r2⟩:=hr.lst e2;refine .inr ⟨a,b,vs,us,rfl,rfl,g1,g2,by rw [← r1.length,← r2.length];exact h.1,λp hp=>?_⟩;exact af _ _ (h.2 p (hr.free hp)) _ _ (.ref p) (hr.newL hp (r1.append r2)) (Kp.newL hp)
   ·exact h.elim
def qiz (ha:E3 X a ta) (hb:E3 X b tb):E3 X (.BinOp a .Add b pos) (o3 j5 ta tb):=M1 ((qd0.or qau).or qdp) RM ha hb
def UC:T->Bool
 |.non=>true|.bl _=>true|.int _=>true|.str _=>true|_=>false
def eqF:T->T->Bool
 |.non,.non=>true
 |.bl a,.bl b=>a==b
 |.bl a,.int b=>(if a then 1 else 0)==b
 |.int a,.bl b=>a==(if b then 1 else 0)
 |.int a,.int b=>a==b
 |.str a,.str b=>a==b
 |_,_=>false
def K6 {K:Frg} {H:Hp} {x:T} {v:V} (r:Rp K H x v) (h:UC x=true):X3 v=true:=by
 cases r<;>first|rfl|(cases h)
def RQ {K:Frg} {H:Hp}:∀ {x:List T} {v:List V},Rps K H x v->x.all UC=true->v.all X3=true
 |_,_,.nil,_=>rfl
 |_,_,.cons a b,h=>by
  rw [List.all_cons,Bool.and_eq_true] at h ⊢;exact ⟨K6 a h.1,RQ b h.2⟩
def qhF {K:Frg} {H:Hp} {x y:T} {v u:V} (r:Rp K H x v) (s:Rp K H y u) (h:UC x=true) (h':UC y=true):eqV v u=eqF x y:=by
 cases r<;>first|(cases h;done)|(cases s<;>first|rfl|(cases h';done))
def N0 {K:Frg} {H:Hp} {x:T} {v:V} (r:Rp K H x v) (h:UC x=true):∀ {ys:List T} {us:List V},Rps K H ys us->ys.all UC=true->inV v us=ys.any λy=>eqF y x
 |_,_,.nil,_=>rfl
 |_,_,.cons a b,h'=>by
  rw [List.all_cons,Bool.and_eq_true] at h';unfold inV;rw [List.any_cons,List.any_cons,qhF a r h'.1 h];congr 1;exact N0 r h b h'.2
def in3 (neg:Bool):R3:=λx y G q=>UC x=true/\match y with
 |.tup ys=>ys.all UC=true/\q (.bl (if neg then !(ys.any λy=>eqF y x) else (ys.any λy=>eqF y x))) G
 |.ref p=>(match getL G p with|some ys=>ys.all UC=true/\q (.bl (if neg then !(ys.any λy=>eqF y x) else (ys.any λy=>eqF y x))) G|none=>False)
 |_=>False
def qiH {K:Frg} {neg:Bool}:XT K (in3 neg) (rIn K neg):=λx y v u G H q Q hr rx ry h af=>by
 obtain ⟨hf,h⟩:=h;cases y<;>try exact h.elim
 case tup ys=>
  cases ry with
  |tup hs rs=>
   refine ⟨_,_,rfl,.inr hs,K6 rx hf,RQ rs h.1,?_⟩;rw [N0 rx hf rs h.1];exact af _ G h.2 _ H (.bl _) hr Kp.refl
 case ref p=>
  simp only at h;split at h
  ·rename_i ys e;cases ry;obtain ⟨us,hs,rs⟩:=jT hr e;refine ⟨_,_,rfl,.inl hs,K6 rx hf,RQ rs h.1,?_⟩;rw [N0 rx hf rs h.1];exact af _ G h.2 _ H (.bl _) hr Kp.refl
  ·exact h.elim
def JL:List T->Gp->Q3->Prop:=λxs G q=>match xs with
 |[.tup ys]=>q (.int ys.length) G
 |[.str y]=>y.length<=sizeLine/\q (.int y.length) G
 |[.ref p]=>(match getL G p with|some ys=>q (.int ys.length) G|none=>False)
 |_=>False
def T7 {K:Frg} {H:Hp} {x:T} {vs:List V} (r:Rps K H [x] vs):∃ v,vs=[v]/\Rp K H x v:=by
 cases r with
 |cons a b=>cases b;exact ⟨_,rfl,a⟩
def qlH {K:Frg} {H:Hp} {x y:T} {vs:List V} (r:Rps K H [x,y] vs):∃ v u,vs=[v,u]/\Rp K H x v/\Rp K H y u:=by
 cases r with
 |cons a b=>cases b with|cons c d=>cases d;exact ⟨_,_,rfl,a,c⟩
def qW {K:Frg}:KI K JL (λxs H Q=>∃ x n,xs=[x]/\qn4 K x H n/\Q (.int n) H):=λxs vs G H q Q hr rs h af=>by
 unfold JL at h;split at h
 ·obtain ⟨v,rfl,r⟩:=T7 rs;cases r with
  |tup hs r2=>exact ⟨_,_,rfl,.inr ⟨_,hs,rfl⟩,by rw [← r2.length];exact af _ G h _ H (.int _) hr Kp.refl⟩
 ·obtain ⟨v,rfl,r⟩:=T7 rs;cases r;exact ⟨_,_,rfl,⟨h.1,rfl⟩,af _ G h.2 _ H (.int _) hr Kp.refl⟩
 ·obtain ⟨v,rfl,r⟩:=T7 rs;split at h
  ·rename_i ys e;cases r;obtain ⟨us,hs,r2⟩:=jT hr e;exact ⟨_,_,rfl,.inl ⟨_,hs,rfl⟩,by rw [← r2.length];exact af _ G h _ H (.int _) hr Kp.refl⟩
  ·exact h.elim
 ·exact h.elim
def qbP:List T->Gp->Q3->Prop:=λxs G q=>match xs with|[.int i]=>q (.int (if i<0 then -i else i)) G|_=>False
def qad {K:Frg}:KI K qbP (λxs H Q=>∃ i,xs=[.int i]/\Q (.int (if i<0 then -i else i)) H):=λxs vs G H q Q hr rs h af=>by
 unfold qbP at h;split at h
 ·obtain ⟨v,rfl,r⟩:=T7 rs;cases r;exact ⟨_,rfl,af _ G h _ H (.int _) hr Kp.refl⟩
 ·exact h.elim
def NS:List T->Gp->Q3->Prop:=λxs G q=>match xs with|[.int i,.int j]=>q (.int (if j<i then j else i)) G|_=>False
def qaW {K:Frg}:KI K NS (λxs H Q=>∃ i j,xs=[.int i,.int j]/\Q (.int (if j<i then j else i)) H):=λxs vs G H q Q hr rs h af=>by
 unfold NS at h;split at h
 ·obtain ⟨v,u,rfl,r,r'⟩:=qlH rs;cases r;cases r';exact ⟨_,_,rfl,af _ G h _ H (.int _) hr Kp.refl⟩
 ·exact h.elim
def qcS:List T->Gp->Q3->Prop:=λxs G q=>match xs with|[.int i,.int j]=>q (.int (if j > i then j else i)) G|_=>False
def qgD {K:Frg}:KI K qcS (λxs H Q=>∃ i j,xs=[.int i,.int j]/\Q (.int (if j > i then j else i)) H):=λxs vs G H q Q hr rs h af=>by
 unfold qcS at h;split at h
 ·obtain ⟨v,u,rfl,r,r'⟩:=qlH rs;cases r;cases r';exact ⟨_,_,rfl,af _ G h _ H (.int _) hr Kp.refl⟩
 ·exact h.elim
def qbV:List T->Gp->Q3->Prop:=λxs G q=>match xs with|[.int i]=>q (.int i) G|[.bl k]=>q (.int (if k then 1 else 0)) G|_=>False
def qbq {K:Frg}:KI K qbV (λxs H Q=>(∃ i,xs=[.int i]/\Q (.int i) H)\/∃ k,xs=[.bl k]/\Q (.int (if k then 1 else 0)) H):=λxs vs G H q Q hr rs h af=>by
 unfold qbV at h;split at h
 ·obtain ⟨v,rfl,r⟩:=T7 rs;cases r;exact .inl ⟨_,rfl,af _ G h _ H (.int _) hr Kp.refl⟩
 ·obtain ⟨v,rfl,r⟩:=T7 rs;cases r;exact .inr ⟨_,rfl,af _ G h _ H (.int _) hr Kp.refl⟩
 ·exact h.elim
def jE:List T->Gp->Q3->Prop:=λxs G q=>match xs with
 |[.tup ys]=>q (.tup ys) G
 |[.ref p]=>(match getL G p with|some ys=>q (.tup ys) G|none=>False)
 |_=>False
def JH {K:Frg}:KI K jE (λxs H Q=>∃ p ys,xs=[.ref p]/\((SqL K H p ys/\∀ l,H l=none->Q (.ref l) (upd H l (.tup ys)))\/(SqT K H p ys/\Q (.ref p) H))):=λxs vs G H q Q hr rs h af=>by
 unfold jE at h;split at h
 ·obtain ⟨v,rfl,r⟩:=T7 rs;cases r with
  |tup hs r2=>exact ⟨_,_,rfl,.inr ⟨hs,af _ G h _ H (.tup hs r2) hr Kp.refl⟩⟩
 ·obtain ⟨v,rfl,r⟩:=T7 rs;split at h
  ·rename_i ys e;cases r;obtain ⟨us,hs,r2⟩:=jT hr e;exact ⟨_,_,rfl,.inl ⟨hs,λl hl=>af _ G h _ _ (.tup (SqT.of zK) (r2.keep hr (Kp.laid hl))) (hr.laid hl) (Kp.laid hl)⟩⟩
  ·exact h.elim
 ·exact h.elim
def CK:List T->Gp->Q3->Prop:=λxs G q=>match xs with
 |[.tup ys]=>∀ p,G p=none->q (.ref p) (gu G p (.lst ys))
 |[.ref p]=>(match getL G p with|some ys=>∀ p,G p=none->q (.ref p) (gu G p (.lst ys))|none=>False)
 |_=>False
def qca {K:Frg}:KI K CK (λxs H Q=>∃ p ys,xs=[.ref p]/\(SqL K H p ys\/SqT K H p ys)/\∀ l,H l=none->Q (.ref l) (upd H l (.lst ys))):=λxs vs G H q Q hr rs h af=>by
 unfold CK at h;split at h
 ·obtain ⟨v,rfl,r⟩:=T7 rs;cases r with
  |tup hs r2=>exact ⟨_,_,rfl,.inr hs,λl hl=>af _ _ (h l (hr.free hl)) _ _ (.ref l) (hr.newL hl r2) (Kp.newL hl)⟩
 ·obtain ⟨v,rfl,r⟩:=T7 rs;split at h
  ·rename_i ys e;cases r;obtain ⟨us,hs,r2⟩:=jT hr e;exact ⟨_,_,rfl,.inl hs,λl hl=>af _ _ (h l (hr.free hl)) _ _ (.ref l) (hr.newL hl r2) (Kp.newL hl)⟩
  ·exact h.elim
 ·exact h.elim
def qkw:T->List T->Gp->Q3->Prop:=λx xs G q=>match x,xs with
 |.ref l,[.ref b]=>(match G l,G b with|some (.lst ys),some (.lst zs)=>ys.length+zs.length<=sizeLine/\q .non (gu G l (.lst (ys++zs)))|_,_=>False)
 |_,_=>False
def NT:T->List T->Gp->Q3->Prop:=λx xs G q=>match x,xs with
 |.ref l,[y]=>(match G l with|some (.lst ys)=>ys.length<sizeLine/\q .non (gu G l (.lst (ys++[y])))|_=>False)
 |_,_=>False
def qoo (K:Frg) (r3:T->List T->Gp->Q3->Prop) (r:V->List V->Hp->VK->Prop):Prop:=∀ x xs v vs G H q Q,HR K G H->Rp K H x v->Rps K H xs vs->r3 x xs G q->Aft K G H q Q->r v vs H Q
def qfT {K:Frg}:qoo K NT qaJ:=λx xs v vs G H q Q hr rx rs h af=>by
 unfold NT at h;split at h
 ·rename_i l y;split at h
  ·rename_i ys e1;cases rx;obtain ⟨u,rfl,r⟩:=T7 rs;obtain ⟨vs,g1,r1⟩:=hr.lst e1;exact ⟨l,vs,u,rfl,rfl,g1,by rw [← r1.length];exact h.1,af _ _ h.2 _ _ .non (hr.wr e1 (r1.append (.cons r .nil))) (Kp.wr e1)⟩
  ·exact h.elim
 ·exact h.elim
def bm3 (r:T->List T->Gp->Q3->Prop) (to:TE3) (t:TA3):TE3:=λτ G q=>to τ G λx G1=>(match x with|.ref p=>(getL G1 p).isSome=true|_=>False)/\t τ G1 λxs G2=>r x xs G2 q
def qoS {o:Expr} {to:TE3} {name:Str} {apos cpos:Pos} {id:String} {r3:T->List T->Gp->Q3->Prop} {r:V->List V->Hp->VK->Prop} (slot:Slot "list" name id) (hty:typeOf (.builtin id)=pure (.type "method_descriptor")) (hm:MtR X id r) (hr:qoo X.K r3 r) (ho:E3 X o to) (ha:A3 X (e::es) t)
  (hbase:attributeBase o name X.env (eval o X.env)=eval o X.env:=by rfl)
  (hfew:((backTo cpos (starEach (e::es) X.env)).all (λx=>!x.1)&&(backToKw cpos (keywordEach [] X.env)).all (λx=>x.1.isSome)
   && decide ((e::es).length+([]:List Keyword).length+(if ([]:List Keyword).isEmpty then 0 else 1)<30))=true:=by rfl)
  (hline:(apos.endLine==cpos.line)=true:=by rfl) (hs:starEach (e::es) X.env=(false,eval e X.env)::starEach es X.env:=by rfl) (hplain:(backTo cpos (starEach es X.env)).any (·.1)=false:=by rfl) :
  E3 X (.Call (.Attribute o name apos) (e::es) [] cpos) (bm3 r3 to t):=
 WF (qmU PySem.F.plainAttrs_list slot hty hm ho ha hbase hfew hline hs hplain) λ_ _ _ ⟨τ,G,q,rl,h,af⟩=>jG rl h λx G1 h1 v H1 rx hr1 k1 rl1=>by
  obtain ⟨hp,h1⟩:=h1;cases x<;>try exact hp.elim
  case ref p=>
   cases rx;have hp':(getL G1 p).isSome=true:=hp;obtain ⟨ys,e⟩:=Option.isSome_iff_exists.mp hp';obtain ⟨us,hs,r2⟩:=jT hr1 e;exact ⟨.inl ⟨rfl,us,hs⟩,UF rl1 h1 λxs G2 h2 vs H2 rs hr2 k2 rl2=>hr _ xs _ vs G2 H2 q _ hr2 (.ref p) rs h2 (af.back (k1.trans k2))⟩
def qcl {o:Expr} {to:TE3} {apos cpos:Pos} (ho:E3 X o to) (ha:A3 X [e] t)
  (hbase:attributeBase o "append" X.env (eval o X.env)=eval o X.env:=by rfl)
  (hfew:((backTo cpos (starEach [e] X.env)).all (λx=>!x.1)&&(backToKw cpos (keywordEach [] X.env)).all (λx=>x.1.isSome)
   && decide (([e]:List Expr).length+([]:List Keyword).length+(if ([]:List Keyword).isEmpty then 0 else 1)<30))=true:=by rfl)
  (hline:(apos.endLine==cpos.line)=true:=by rfl) (hs:starEach [e] X.env=(false,eval e X.env)::starEach [] X.env:=by rfl) (hplain:(backTo cpos (starEach [] X.env)).any (·.1)=false:=by rfl) :
  E3 X (.Call (.Attribute o "append" apos) [e] [] cpos) (bm3 NT to t):=qoS PySem.F.slot_list_append PySem.F.type_list_append XX qfT ho ha hbase hfew hline hs hplain
end
def tyT (G:Gp):T->Option String
 |.non=>some "NoneType" |.bl _=>some "bool" |.int _=>some "int" |.str _=>some "str" |.tup _=>some "tuple"
 |.ref p=>if (getL G p).isSome then some "list" else none
def zA (t c:String):Bool:=t==c||(t == "bool" && c == "int")
def R0 (K:Frg):∀ t∈["NoneType","bool","int","str","tuple","list"],∀ c∈["bool","int","str","tuple","list"],PySem.W.kitOne K (.type t) (.type c)=some (zA t c):=by
 intro t ht c hc;simp only [mem_cons,not_mem_nil,or_false] at ht hc;rcases ht with rfl|rfl|rfl|rfl|rfl|rfl<;>rcases hc with rfl|rfl|rfl|rfl|rfl<;>kernel_rfl
section
variable {X:Cx} {a b c e:Expr} {es:List Expr} {ta tb tc te:TE3} {t:TA3} {pos:Pos}
def TyS (K:Frg) (H:Hp) (x:V) (t:String):Prop:=match x with
 |.non=>t="NoneType" |.bl _=>t="bool" |.int _=>t="int" |.str _=>t="str"
 |.ref a=>(t="tuple"/\∃ vs,SqT K H a vs)\/(t="list"/\∃ vs,SqL K H a vs)
 |_=>False
def TyS.mem {K:Frg} {H:Hp} {x:V} {t:String} (h:TyS K H x t):t∈["NoneType","bool","int","str","tuple","list"]:=by
 cases x<;>simp [TyS] at h<;>first|(subst h;decide)|(rcases h with ⟨rfl,_⟩|⟨rfl,_⟩<;>decide)
def TyS.kitx {pins:List (Addr×Obj)} {σ:L2.St} {H:Hp} {s:Shared} {x:V} {u:Value} {t:String} (I:Inv X pins σ H s) (rx:QJ x u) (h:TyS X.K H x t) :
  ∃ HH:Heap->Prop,PySem.W.KitX X.K u (.type t) HH/\HH s.heap/\u≠.builtin "__main__.__loader__#opaque" := by
 cases x with
 |non=>cases (show u=Value.none from rx);cases (show t=_ from h);exact ⟨_,PySem.W.kitx_none,True.intro,λz=>nomatch z⟩
 |bl y=>cases (show u=Value.bool y from rx);cases (show t=_ from h);exact ⟨_,PySem.W.kitx_bool,True.intro,λz=>nomatch z⟩
 |int i=>obtain ⟨tk,q⟩:=(show ∃ t,u=Value.int i t from rx);cases q;cases (show t=_ from h);exact ⟨_,PySem.W.kitx_int,True.intro,λz=>nomatch z⟩
 |str y=>obtain ⟨tk,q⟩:=(show ∃ t,u=Value.str y t from rx);cases q;cases (show t=_ from h);exact ⟨_,PySem.W.kitx_str,True.intro,λz=>nomatch z⟩
 |ref a=>
  cases (show u=Value.ref a from rx);rcases (show (t="tuple"/\∃ vs,SqT X.K H a vs)\/(t="list"/\∃ vs,SqL X.K H a vs) from h) with ⟨rfl,vs,hs⟩|⟨rfl,vs,hs⟩
  ·obtain ⟨its,_,p,_⟩:=I.tuple hs;obtain ⟨o,h1,h2,_⟩:=p;exact ⟨_,PySem.W.kitx_tuple,⟨o,h1,h2⟩,λz=>nomatch z⟩
  ·obtain ⟨its,_,p,_⟩:=I.list hs;obtain ⟨o,n,h1,h2,_⟩:=p;exact ⟨_,PySem.W.kitx_list,⟨o,h1,h2⟩,λz=>nomatch z⟩
 |_=>exact False.elim h
abbrev JG:List String:=["bool","int","str","tuple","list"]
def qcv:JU X (.builtin "isinstance") (λxs H Q=>∃ x t c,xs=[x,.ty c]/\TyS X.K H x t/\c∈JG/\Q (.bl (zA t c)) H):=by
 intro pins s σ H xs us Q I r h;obtain ⟨x,t,c,rfl,ht,hc,q⟩:=h;obtain ⟨u,w,rfl,rx,rc⟩:=M4 r;cases (show w=Value.type c from rc);obtain ⟨HH,kx,hh,ne⟩:=ht.kitx I rx;exact PySem.W.kia_one kx I.kIn hh (R0 X.K t ht.mem c hc) ne λtk=>⟨.bl _,H,I.tok tk,rfl,q⟩
def qct (K:Frg) {t c d:String} (ht:t∈["NoneType","bool","int","str","tuple","list"]) (hc:c∈JG) (hd:d∈JG):PySem.W.kitAny K (.type t) [.type c,.type d]=some (zA t c||zA t d):=by
 unfold PySem.W.kitAny;rw [R0 K t ht c hc];cases zA t c with
 |true=>rfl
 |false=>
  show PySem.W.kitAny K (.type t) [.type d]=_;unfold PySem.W.kitAny;rw [R0 K t ht d hd];cases zA t d<;>rfl
def qaI:JU X (.builtin "isinstance") (λxs H Q=>∃ x t c d p,xs=[x,.ref p]/\H p=some (.tup [.ty c,.ty d])/\TyS X.K H x t/\c∈JG/\d∈JG/\Q (.bl (zA t c||zA t d)) H):=by
 intro pins s σ H xs us Q I r h;obtain ⟨x,t,c,d,p,rfl,hp,ht,hc,hd,q⟩:=h;obtain ⟨u,w,rfl,rx,rc⟩:=M4 r;cases (show w=Value.ref p from rc);obtain ⟨HH,kx,hh,ne⟩:=ht.kitx I rx;obtain ⟨_,its,rv,⟨o,ho,hcl,n,hda⟩⟩:=(show UX X.prog X.w H s.heap p (.tup [.ty c,.ty d]) from I.hok p _ hp)
 obtain ⟨u1,u2,rfl,r1,r2⟩:=M4 rv;cases (show u1=Value.type c from r1);cases (show u2=Value.type d from r2);obtain ⟨cl,dd,da,sl⟩:=o;cases (show cl=_ from hcl);cases (show da=_ from hda);exact PySem.W.kia_tup kx I.kIn hh ho (qct X.K ht.mem hc hd) ne λtk=>⟨.bl _,H,I.tok tk,rfl,q⟩
def qex {K:Frg} {G:Gp} {H:Hp} (hr:HR K G H) {x:T} {v:V} {t:String} (r:Rp K H x v) (h:tyT G x=some t):TyS K H v t:=by
 cases r with
 |non=>cases h;rfl
 |bl _=>cases h;rfl
 |int _=>cases h;rfl
 |str _=>cases h;rfl
 |tup hs rs=>cases h;exact .inl ⟨rfl,_,hs⟩
 |ref a=>
  have h:(if (getL G a).isSome then some "list" else none)=some t:=h;split at h
  ·rename_i e;cases h;obtain ⟨ys,e⟩:=Option.isSome_iff_exists.mp e;obtain ⟨us,hs,_⟩:=jT hr e;exact .inr ⟨rfl,us,hs⟩
  ·cases h
def J1 (f:String->Bool) (te:TE3):TE3:=λτ G q=>te τ G λx G1=>match tyT G1 x with|some t=>q (.bl (f t)) G1|none=>False
def qnM {tn:Str} {ty:String} {p p2:Pos} (he:E3 X e te) (hg:Gl X "isinstance") (hm:X.mg "isinstance" = none) (hg2:Gl X tn) (hm2:X.mg tn=none) (hv:bootBuiltins tn=some (.type ty)) (hmem:ty∈JG:=by decide) (hn:tn≠"__name__" := by decide) (hdb:(tn==("__debug__" : Str))=false:=by decide)
  (hs:starEach [e,.Name tn p2] X.env=(false,eval e X.env)::starEach [.Name tn p2] X.env:=by rfl) (hs2:starEach [.Name tn p2] X.env=(false,eval (.Name tn p2) X.env)::starEach [] X.env:=by rfl) (hpl:(backTo pos (starEach [.Name tn p2] X.env)).any (·.1)=false:=by rfl) :
  E3 X (.Call (.Name "isinstance" p) [e,.Name tn p2] [] pos) (J1 (λt=>zA t ty) te):=
 WF (RK qcv hg hm PyProof.Rows.boot_isinstance (UT he (UT (KR (v:=.ty ty) hg2 hm2 hv rfl hn hdb) ME hs2) hs) (by decide) (by decide) hs hpl)
  λ_ _ _ ⟨τ,G,q,rl,h,af⟩=>jG rl h λx G1 h1 v H1 rx hr1 k1 rl1=>by
   split at h1
   ·rename_i t e1;exact ⟨_,t,ty,rfl,qex hr1 rx e1,hmem,af _ G1 h1 _ H1 (.bl _) hr1 k1⟩
   ·exact h1.elim
def qjg {tn tn':Str} {ty ty':String} {p p2 p3 p4:Pos} {x1} (he:E3 X e te) (hg:Gl X "isinstance") (hm:X.mg "isinstance" = none) (hg2:Gl X tn) (hm2:X.mg tn=none) (hv:bootBuiltins tn=some (.type ty)) (hg3:Gl X tn') (hm3:X.mg tn'=none) (hv3:bootBuiltins tn'=some (.type ty'))
  (hmem:ty∈JG:=by decide) (hn:tn≠"__name__" := by decide) (hdb:(tn==("__debug__" : Str))=false:=by decide) (hmem3:ty'∈JG:=by decide) (hn3:tn'≠"__name__" := by decide) (hdb3:(tn'==("__debug__" : Str))=false:=by decide)
  (hs:starEach [e,.Tuple [.Name tn p2,.Name tn' p3] x1 p4] X.env=(false,eval e X.env)::starEach [.Tuple [.Name tn p2,.Name tn' p3] x1 p4] X.env:=by rfl) (hs2:starEach [.Tuple [.Name tn p2,.Name tn' p3] x1 p4] X.env=(false,eval (.Tuple [.Name tn p2,.Name tn' p3] x1 p4) X.env)::starEach [] X.env:=by rfl)
  (hs3:starEach [.Name tn p2,.Name tn' p3] X.env=(false,eval (.Name tn p2) X.env)::starEach [.Name tn' p3] X.env:=by rfl) (hs4:starEach [.Name tn' p3] X.env=(false,eval (.Name tn' p3) X.env)::starEach [] X.env:=by rfl)
  (hpl:(backTo pos (starEach [.Tuple [.Name tn p2,.Name tn' p3] x1 p4] X.env)).any (·.1)=false:=by rfl) :
  E3 X (.Call (.Name "isinstance" p) [e,.Tuple [.Name tn p2,.Name tn' p3] x1 p4] [] pos) (J1 (λt=>zA t ty||zA t ty') te):=
 WF (RK qaI hg hm PyProof.Rows.boot_isinstance (UT he (UT (qdK (UT (KR (v:=.ty ty) hg2 hm2 hv rfl hn hdb) (UT (KR (v:=.ty ty') hg3 hm3 hv3 rfl hn3 hdb3) ME hs4) hs3)) ME hs2) hs) (by decide) (by decide) hs hpl)
  λ_ _ _ ⟨τ,G,q,rl,h,af⟩=>jG rl h λx G1 h1 v H1 rx hr1 k1 rl1=>by
   refine ⟨by show 2<=sizeLine;decide,λpp hp=>?_⟩;split at h1
   ·rename_i t e1;have hr2:=hr1.laid (ho:=.tup [.ty ty,.ty ty']) hp;have kk:Kp G1 H1 G1 (upd H1 pp (.tup [.ty ty,.ty ty'])):=Kp.laid hp;exact ⟨_,t,ty,ty',pp,rfl,zK,qex hr2 (rx.keep hr1 kk) e1,hmem,hmem3,af _ G1 h1 _ _ (.bl _) hr2 (k1.trans kk)⟩
   ·exact h1.elim
structure Ends3 where
 nx:St3->Gp->Prop
 rt:Q3
 bk:St3->Gp->Prop:=λ_ _=>False
 ct:St3->Gp->Prop:=λ_ _=>False
abbrev TS3:=Ends3->St3->Gp->Prop
def qc7 (K:Frg) (G:Gp) (H:Hp) (q:St3->Gp->Prop) (Q:L2.St->Hp->Prop):Prop:=∀ τ G',q τ G'->∀ σ H',Rel K τ G' σ H'->Kp G H G' H'->Q σ H'
structure AftD (K:Frg) (G:Gp) (H:Hp) (d:Ends3) (D:Ends):Prop where
 nx:qc7 K G H d.nx D.nx
 rt:Aft K G H d.rt D.rt
 bk:qc7 K G H d.bk D.bk
 ct:qc7 K G H d.ct D.ct
def qc7.back {K:Frg} {G G1:Gp} {H H1:Hp} {q:St3->Gp->Prop} {Q:L2.St->Hp->Prop} (a:qc7 K G H q Q) (k:Kp G H G1 H1):qc7 K G1 H1 q Q:=λx G' h v H' r k'=>a x G' h v H' r (k.trans k')
def AftD.back {K:Frg} {G G1:Gp} {H H1:Hp} {d:Ends3} {D:Ends} (a:AftD K G H d D) (k:Kp G H G1 H1):AftD K G1 H1 d D:=⟨a.nx.back k,a.rt.back k,a.bk.back k,a.ct.back k⟩
def lS (K:Frg) (t:TS3):TS:=λD σ H=>∃ τ G d,Rel K τ G σ H/\t d τ G/\AftD K G H d D
abbrev S3 (X:Cx) (st:Stmt) (t:TS3):Prop:=PS X st (lS X.K t)
abbrev B3 (X:Cx) (st:List Stmt) (t:TS3):Prop:=PSs X st (lS X.K t)
def qbR {X:Cx} {st:Stmt} {t t':TS} (h:PS X st t) (w:∀ D σ H,t' D σ H->t D σ H):PS X st t':=λpins s σ H D I q=>h pins s σ H D I (w D σ H q)
def qkI {X:Cx} {st:List Stmt} {t t':TS} (h:PSs X st t) (w:∀ D σ H,t' D σ H->t D σ H):PSs X st t':=λpins s σ H D I q=>h pins s σ H D I (w D σ H q)
variable {st:Stmt} {J0:List Stmt} {t1 t2:TS3} {tA:TT3}
def qy:TS3:=λd τ G=>d.nx τ G
def qH (t u:TS3):TS3:=λd τ G=>t { d with nx:=u d } τ G
def qmv:B3 X [] qy:=qkI qgt λ_ σ H ⟨τ,G,d,rl,h,af⟩=>af.nx τ G h σ H rl Kp.refl
def qkg (h1:S3 X st t1) (h2:B3 X J0 t2):B3 X (st::J0) (qH t1 t2):=qkI (qcf h1 h2) λD σ H ⟨τ,G,d,rl,h,af⟩=>
 ⟨τ,G,{ d with nx:=t2 d },rl,h,⟨λτ' G' h' σ' H' rl' k'=>⟨τ',G',d,rl',h',af.back k'⟩,af.rt,af.bk,af.ct⟩⟩
def qna (h1:S3 X st t1):B3 X [st] t1:=qfM h1
def CD (te:TE3):TS3:=λd τ G=>te τ G λ_ G1=>d.nx τ G1
def qic (he:E3 X e te) (hs:swapsWith e none pos.line X.env=pure false:=by rfl):S3 X (.Expr e pos) (CD te):=qbR (qgz he hs) λ_ σ H ⟨τ,G,d,rl,h,af⟩=>
 jG rl h λx G1 h1 v H1 rx hr1 k1 rl1=>af.nx τ G1 h1 σ H1 rl1 k1
def qV (te:TE3):TS3:=λd τ G=>te τ G d.rt
def qnS (he:E3 X e te):S3 X (.Return (some e) pos) (qV te):=qbR (qkr he) λ_ σ H ⟨τ,G,d,rl,h,af⟩=>⟨τ,G,d.rt,rl,h,af.rt⟩
def qaT:TS3:=λd _ G=>d.rt .non G
def zJ (c:TT3) (t u:TS3):TS3:=λd τ G=>c τ G λk G1=>if k=true then t d τ G1 else u d τ G1
def qpK {c:Expr} {ba bb:List Stmt} (hc:C3 X c tA) (ha:B3 X ba t1) (hb:B3 X bb t2):S3 X (.If c ba bb pos) (zJ tA t1 t2):=qbR (qnk hc ha hb) λ_ σ H ⟨τ,G,d,rl,h,af⟩=>
 CQ rl h λk G1 h1 H1 hr1 k1 rl1=>by
  cases k with
  |true=>rw [if_pos rfl] at h1 ⊢;exact ⟨τ,G1,d,rl1,h1,af.back k1⟩
  |false=>rw [if_neg Bool.false_ne_true] at h1 ⊢;exact ⟨τ,G1,d,rl1,h1,af.back k1⟩
def qjP:TS3:=λ_ _ _=>False
abbrev TG3:=T->St3->Gp->(St3->Gp->Prop)->Prop
abbrev TY:=List T->St3->Gp->(St3->Gp->Prop)->Prop
def lG (K:Frg) (t:TG3):TG:=λv σ H Q=>∃ x τ G q,Rp K H x v/\Rel K τ G σ H/\t x τ G q/\qc7 K G H q Q
def lGs (K:Frg) (t:TY):TGs:=λv σ H Q=>∃ x τ G q,Rps K H x v/\Rel K τ G σ H/\t x τ G q/\qc7 K G H q Q
abbrev G3 (X:Cx) (e:Expr) (t:TG3):Prop:=PG X e (lG X.K t)
abbrev Gs3 (X:Cx) (es:List Expr) (t:TY):Prop:=PGs X es (lGs X.K t)
def qm4 {X:Cx} {e:Expr} {t t':TG} (h:PG X e t) (w:∀ v σ H Q,t' v σ H Q->t v σ H Q):PG X e t':=λpins s σ H v u Q I r q=>h pins s σ H v u Q I r (w v σ H Q q)
def qg6 {X:Cx} {e:List Expr} {t t':TGs} (h:PGs X e t) (w:∀ v σ H Q,t' v σ H Q->t v σ H Q):PGs X e t':=λpins s σ H v u Q I r q=>h pins s σ H v u Q I r (w v σ H Q q)
def gn3 (i:Nat):TG3:=λx τ G q=>q (τ.set i (some x)) G
def qj7 {i:Nat} {x:Str} (hN:X.N.Nodup) (hi:X.N[i]?=some x:=by rfl) (hx:Loc X.env.scope x:=by first|exact Or.inl rfl|exact Or.inr rfl) (hf:X.fn x=true\/X.env.scope.names.lookup x=some .local:=by first|exact .inl rfl|exact .inr rfl):G3 X (.Name x pos) (gn3 i):=
 qm4 (qfY hN hi hx hf) λv σ H Q ⟨x,τ,G,q,rx,rl,h,af⟩=>af _ G h _ H (rl.set i rx) Kp.refl
def QI:TY:=λxs τ G q=>match xs with|[]=>q τ G|_=>False
def qC (t:TG3) (u:TY):TY:=λxs τ G q=>match xs with|x::r=>t x τ G λτ' G'=>u r τ' G' q|[]=>False
def qmC:Gs3 X [] QI:=qg6 qfi λv σ H Q ⟨x,τ,G,q,rx,rl,h,af⟩=>by
 cases rx with
 |nil=>exact ⟨rfl,af _ G h _ H rl Kp.refl⟩
 |cons _ _=>exact h.elim
def qiC {tg:TG3} {tgs:TY} (h1:G3 X e tg) (h2:Gs3 X es tgs) (hs:(assignEach (e::es) X.env).map (·.2)=assign e X.env::(assignEach es X.env).map (·.2):=by rfl):Gs3 X (e::es) (qC tg tgs):=qg6 (qcx h1 h2 hs) λv σ H Q ⟨x,τ,G,q,rx,rl,h,af⟩=>by
 cases rx with
 |nil=>exact h.elim
 |cons r rs=>exact ⟨_,_,rfl,_,τ,G,_,r,rl,h,λτ' G' h' σ' H' rl' k'=>⟨_,τ',G',q,rs.keep rl.hp k',rl',h',af.back k'⟩⟩
def QK (n:Nat) (t:TY):TG3:=λx τ G q=>match x with|.tup xs=>xs.length=n/\t xs τ G q|_=>False
def qms {k:Nat} {tgs:TY} {n:Nat} (hc:X.calm=true) (h:Gs3 X es tgs) (hn:(assignEach es X.env).length=n:=by rfl) (hst:(assignEach es X.env).findIdx? (·.1)=none:=by rfl):G3 X (.Tuple es k pos) (QK n tgs):=
 qm4 (qi8 hc h hn hst) λv σ H Q ⟨x,τ,G,q,rx,rl,h,af⟩=>by
  cases x<;>try exact h.elim
  case tup xs=>
   cases rx with
   |tup hs rs=>exact ⟨_,_,rfl,hs,by rw [← rs.length];exact h.1,_,τ,G,q,rs,rl,h.2,af⟩
def NX:T->T->T->Gp->(Gp->Prop)->Prop:=λo i v G q=>match o,i with
 |.ref p,.int k=>(match G p with|some (.lst xs)=>(match ixN xs.length k with|some j=>q (gu G p (.lst (xs.set j v)))|none=>False)|_=>False)
 |_,_=>False
def U5 (to ti:TE3):TG3:=λx τ G q=>to τ G λo G1=>ti τ G1 λi G2=>NX o i x G2 λG3=>q τ G3
def qm2 {o i : Expr} {to ti : TE3} (ho : E3 X o to) (hi : E3 X i ti) (ha : ∀ v,assign (.Subscript o i pos) X.env v = (do
      let ov←holding [v] (eval o X.env)
      let iv←holding [v,ov] (eval i X.env)
      standAt pos
      holding [v,ov,iv] (setItem ov iv v)
      release [v,ov,iv] []):=by intro _;rfl):G3 X (.Subscript o i pos) (U5 to ti):=
  qm4 (qjW ho hi qb9 ha) λv σ H Q ⟨x,τ,G,q,rx,rl,h,af⟩=>jG rl h λy G1 h1 u H1 ry hr1 k1 rl1=>jG rl1 h1 λz G2 h2 w H2 rz hr2 k2 rl2=>by
    have rx2:=(rx.keep rl.hp k1).keep hr1 k2;have ry2:=ry.keep hr1 k2;unfold NX at h2;split at h2
    · rename_i p k;split at h2
      · rename_i xs e;split at h2
        · rename_i j ej;cases ry2;cases rz;obtain ⟨vs,g1,r1⟩:=hr2.lst e;have kk:Kp G2 H2 (gu G2 p (.lst (xs.set j x))) (upd H2 p (.lst (vs.set j v))):=Kp.wr e;exact ⟨p,vs,k,j,rfl,rfl,g1,by rw [← r1.length];exact ej,af τ _ h2 σ _ (rl2.next (hr2.wr e (r1.set rx2 j)) kk) ((k1.trans k2).trans kk)⟩
        · exact h2.elim
      · exact h2.elim
    · exact h2.elim
def zw (te:TE3) (g:TG3):TS3:=λd τ G=>te τ G λx G1=>g x τ G1 d.nx
def qmc {tg e:Expr} {g:TG3} (he:E3 X e te) (hg:G3 X tg g) (hs:swapsWithSole [tg] e pos.line X.env=pure false:=by rfl) (hw:swappedStores [tg] e X.env=pure none:=by rfl)
  (h1:(assignEach [tg] X.env).map (·.2)=[assign tg X.env]:=by rfl):S3 X (.Assign [tg] e pos) (zw te g):=qbR (qjw he hg hs hw h1) λ_ σ H ⟨τ,G,d,rl,h,af⟩=>
 jG rl h λx G1 h1 v H1 rx hr1 k1 rl1=>⟨x,τ,G1,d.nx,rx,rl1,h1,af.nx.back k1⟩
def qlZ (i:Nat) {x:Str} {e:Expr} {pos':Pos} (hN:X.N.Nodup) (he:E3 X e te) (hi:X.N[i]?=some x:=by rfl) (hx:Loc X.env.scope x:=by first|exact Or.inl rfl|exact Or.inr rfl) (hs:swapsWith e (some (.Name x pos')) pos.line X.env=pure false:=by rfl) (hf:X.fn x=true\/X.env.scope.names.lookup x=some .local:=by first|exact .inl rfl|exact .inr rfl) :
  S3 X (.Assign [.Name x pos'] e pos) (zw te (gn3 i)):=qbR (qi9 hN hi hx he hs hf) λ_ σ H ⟨τ,G,d,rl,h,af⟩=>
 jG rl h λx G1 h1 v H1 rx hr1 k1 rl1=>af.nx _ G1 h1 _ H1 (rl1.set i rx) k1
def WD (i j:Nat) (ta:TA3):TS3:=λd τ G=>ta τ G λxs G1=>match xs with|[x,y]=>d.nx ((τ.set i (some x)).set j (some y)) G1|_=>False
def qmN {i j:Nat} {x y:Str} {a b:Expr} {tt:TA3} {px py pt:Pos} {kt k2 pt2} (hc:X.calm=true) (hN:X.N.Nodup) (hi:X.N[i]?=some x) (hj:X.N[j]?=some y) (hij:i≠j)
  (hx:X.env.scope.names.lookup x=some .local) (hy:X.env.scope.names.lookup y=some .local) (ha:A3 X [a,b] tt)
  (hw:swappedStores [.Tuple [.Name x px,.Name y py] kt pt] (.Tuple [a,b] k2 pt2) X.env=pure (some [x,y]):=by rfl)
  (hs:swapsWithSole [.Tuple [.Name x px,.Name y py] kt pt] (.Tuple [a,b] k2 pt2) pos.line X.env=pure false:=by rfl) :
  S3 X (.Assign [.Tuple [.Name x px,.Name y py] kt pt] (.Tuple [a,b] k2 pt2) pos) (WD i j tt):=qbR (qiQ hc hN hi hj hij hx hy ha hw hs) λ_ σ H ⟨τ,G,d,rl,h,af⟩=>
 UF rl h λxs G1 h1 vs H1 rs hr1 k1 rl1=>by
  split at h1
  ·obtain ⟨v,u,rfl,r,r'⟩:=qlH rs;exact ⟨v,u,rfl,af.nx _ G1 h1 _ H1 ((rl1.set i r).set j r') k1⟩
  ·exact h1.elim
end
abbrev TI3:=St3->Gp->(List T->(Gp->Prop)->Gp->Prop)->Prop
def qjL (K:Frg) (J:It) (items:List T) (stay:Gp->Prop) (G0:Gp) (H0:Hp):Prop:=∀ G H,HR K G H->Kp G0 H0 G H->stay G ->
 (∀ i x,items[i]?=some x->J.go i H)/\(∀ i x v H',items[i]?=some x->J.yld i H v H'->Rp K H' x v/\HR K G H'/\Kp G H G H')/\J.stop items.length H
def lI (K:Frg) (wi:TI3):TI:=λσ H R=>∃ τ G r,Rel K τ G σ H/\wi τ G r/\∀ items stay G',r items stay G'->∀ J H',HR K G' H'->Kp G H G' H'->qjL K J items stay G' H'->R J H'
abbrev I3 (X:Cx) (tg iter:Expr) (wi:TI3):Prop:=PI X tg iter (lI X.K wi)
def qnN {X:Cx} {tg e:Expr} {t t':TI} (h:PI X tg e t) (w:∀ σ H R,t' σ H R->t σ H R):PI X tg e t':=λpins s σ H R I q=>h pins s σ H R I (w σ H R q)
section
variable {X:Cx} {a b c e l tg:Expr} {es:List Expr} {ta tb tc te:TE3} {t:TA3} {pos:Pos}
def qk0 {tl:TE} (hl:PE X l tl):PI X tg l (λσ H R=>tl σ H λx H1=>∃ a,x=.ref a/\(((∃ xs,SqL X.K H1 a xs)/\R (Itl X.K a) H1)\/((∃ xs,SqT X.K H1 a xs)/\R (Itt X.K a) H1))):=by
 intro pins s σ H R I h;refine thn (hl pins s σ H _ I h) λv s1 ⟨x,H1,I1,r1,q1⟩=>?_;obtain ⟨a,e,⟨⟨xs,hq⟩,q⟩|⟨⟨xs,hq⟩,q⟩⟩:=q1
 ·subst e;cases r1;obtain ⟨its,rv,p,hz⟩:=I1.list hq;refine wpAny_pyIter_list p.isList ?_;refine ⟨s1.heap.objs.size,[s1.heap.objs.size],_,_,H1,rfl,I1.kept (t':=s1.toks) λb o e=>Heap.get?_push_of_some _ e,qa6 a _,⟨_,Heap.get?_push_size _ rfl,rfl,rfl⟩,λb hb=>?_,q⟩;have e:b=s1.heap.objs.size:=by simpa using hb
  subst e;exact I1.fpOk (Nat.le_refl _) (I1.hok.fresh (Nat.le_refl _))
 ·subst e;cases r1;obtain ⟨its,rv,p,hz⟩:=I1.tuple hq;refine wpAny_pyIter_tuple (show s1.heap.IsTuple a its.toArray from p) ?_;refine ⟨s1.heap.objs.size,[s1.heap.objs.size],_,_,H1,rfl,I1.kept (t':=s1.toks) λb o e=>Heap.get?_push_of_some _ e,NM a _,⟨_,Heap.get?_push_size _ rfl,rfl,rfl⟩,λb hb=>?_,q⟩;have e:b=s1.heap.objs.size:=by simpa using hb
  subst e;exact I1.fpOk (Nat.le_refl _) (I1.hok.fresh (Nat.le_refl _))
def UB (tl:TE3):TI3:=λτ G r=>tl τ G λx G1=>match x with
 |.tup xs=>r xs (λ_=>True) G1
 |.ref p=>(match getL G1 p with|some xs=>r xs (λG=>getL G p=some xs) G1|none=>False)
 |_=>False
def qkV {K:Frg} {p:Addr} {xs:List T} {G0:Gp} {H0:Hp}:qjL K (Itl K p) xs (λG=>getL G p=some xs) G0 H0:=by
 intro G H hr _ hs;obtain ⟨vs,sq,rs⟩:=jT hr hs;refine ⟨λi x hi=>?_,λi x v H' hi y=>?_,⟨vs,sq,by rw [rs.length];exact Nat.le_refl _⟩⟩
 ·obtain ⟨v,hv,_⟩:=rs.get hi;exact ⟨vs,v,sq,hv⟩
 ·obtain ⟨e,y⟩:=y;subst e;obtain ⟨w,hw,rw'⟩:=rs.get hi;have e2:=(y vs sq).symm.trans hw;cases e2;exact ⟨rw',hr,Kp.refl⟩
def qjh {K:Frg} {p:Addr} {xs:List T} {vs:List V} {G0:Gp} {H0:Hp} (hr0:HR K G0 H0) (sq0:SqT K H0 p vs) (rs0:Rps K H0 xs vs):qjL K (Itt K p) xs (λ_=>True) G0 H0:=by
 intro G H hr k _;have sq:=RA hr0 k sq0;have rs:=rs0.keep hr0 k;refine ⟨λi x hi=>?_,λi x v H' hi y=>?_,⟨vs,sq,by rw [rs.length];exact Nat.le_refl _⟩⟩
 ·obtain ⟨v,hv,_⟩:=rs.get hi;exact ⟨vs,v,sq,hv⟩
 ·obtain ⟨e,y⟩:=y;subst e;obtain ⟨w,hw,rw'⟩:=rs.get hi;have e2:=(y vs sq).symm.trans hw;cases e2;exact ⟨rw',hr,Kp.refl⟩
def qm3 (hl:E3 X l te):I3 X tg l (UB te):=qnN (qk0 hl) λσ H R ⟨τ,G,r,rl,h,af⟩=>jG rl h λx G1 h1 v H1 rx hr1 k1 rl1=>by
 cases x<;>try exact h1.elim
 case tup xs=>
  cases rx with
  |tup hs rs=>exact ⟨_,rfl,.inr ⟨⟨_,hs⟩,af _ _ G1 h1 _ H1 hr1 k1 (qjh hr1 hs rs)⟩⟩
 case ref p=>
  simp only at h1;split at h1
  ·rename_i xs e0;cases rx;obtain ⟨vs,hs,rs⟩:=jT hr1 e0;exact ⟨_,rfl,.inl ⟨⟨_,hs⟩,af _ _ G1 h1 _ H1 hr1 k1 qkV⟩⟩
  ·exact h1.elim
def MG (lo:Int) (n:Nat):List T:=(List.range n).map λ(i:Nat)=>T.int (lo+(i:Int))
def qi1 {K:Frg} {lo:Int} {n:Nat} {G0:Gp} {H0:Hp}:qjL K (Itr lo n) (MG lo n) (λ_=>True) G0 H0:=by
 intro G H hr k _;have hl:(MG lo n).length=n:=by simp [MG]
 refine ⟨λi x hi=>?_,λi x v H' hi y=>?_,(show n<=(MG lo n).length by rw [hl];exact Nat.le_refl n)⟩
 ·have:=(List.getElem?_eq_some_iff.mp hi).1;rw [hl] at this;exact this
 ·obtain ⟨e,y⟩:=y;subst e;subst y;have h1:=(List.getElem?_eq_some_iff.mp hi).1;rw [hl] at h1;unfold MG at hi;rw [getElem?_map,List.getElem?_range h1] at hi;have e:T.int (lo+(i:Int))=x:=by simpa using hi
  subst e;exact ⟨.int _,hr,Kp.refl⟩
def ZI (ta:TA3):TI3:=λτ G r=>ta τ G λxs G1=>match xs with
 |[.int j]=>(-(2 ^ 62)<=j/\j<2 ^ 62)/\r (MG 0 j.toNat) (λ_=>True) G1
 |[.int i,.int j]=>(-(2 ^ 62)<=i/\i<2 ^ 62/\-(2 ^ 62)<=j/\j<2 ^ 62)/\r (MG i (j-i).toNat) (λ_=>True) G1
 |_=>False
def qcs {p:Pos} (hg:Gl X "range") (hm:X.mg "range" = none) (ha:A3 X [a] t) (hs:starEach [a] X.env=[(false,eval a X.env)]:=by rfl) (h1:∀ τ G q,t τ G q->t τ G λxs G=>q xs G/\xs.length=1):I3 X tg (.Call (.Name "range" p) [a] [] pos) (ZI t):=
 qnN (qbD hg hm ha hs) λσ H R ⟨τ,G,r,rl,h,af⟩=>UF rl (h1 _ _ _ h) λxs G1 h1 vs H1 rs hr1 k1 rl1=>by
  obtain ⟨h1,hl⟩:=h1;simp only at h1;split at h1
  ·obtain ⟨v,rfl,r1⟩:=T7 rs;cases r1;exact ⟨_,rfl,h1.1.1,h1.1.2,af _ _ G1 h1.2 _ H1 hr1 k1 qi1⟩
  ·simp at hl
  ·exact h1.elim
def RX (stay:Gp->Prop) (g:TG3) (tb:TS3) (d:Ends3):List T->St3->Gp->Prop
 |[],τ,G=>stay G/\d.nx τ G
 |x::r,τ,G=>stay G/\g x τ G λτ2 G2=>tb { d with nx:=RX stay g tb d r,ct:=RX stay g tb d r,bk:=d.nx } τ2 G2
def LK (wi:TI3) (g:TG3) (tb:TS3):TS3:=λd τ G=>wi τ G λitems stay G1=>RX stay g tb d items τ G1
def qnb {iter:Expr} {body:List Stmt} {wi:TI3} {g:TG3} {tb:TS3} (hp:PassesOwn (model X.prog X.w) X.A X.env X.xe) (hc:X.calm=true) (hi:I3 X tg iter wi) (hg:G3 X tg g) (hb:B3 X body tb)
  (hs:∀ x,foldedSetIterable iter X.env x=pure x:=by intro _;rfl):S3 X (.For tg iter body [] pos) (LK wi g tb):=
 qbR (qiK hp hc hi hg hb hs) λD σ H ⟨τ,G,d,rl,h,af⟩=>by
  refine ⟨τ,G,_,rl,h,λitems stay G1 h1 J H1 hr1 k1 ok=>?_⟩;refine ⟨λi m σ' H'=>m=items.length-i/\i<=items.length/\∃ τ' G',Rel X.K τ' G' σ' H'/\Kp G1 H1 G' H'/\RX stay g tb d (items.drop i) τ' G',⟨_,rfl,Nat.zero_le _,τ,G1,rl.next hr1 k1,Kp.refl,by simpa using h1⟩,?_⟩;rintro i m σ' H' ⟨rfl,hi,τ',G',rl',k',h'⟩;by_cases hlt:i<items.length
  ·rw [List.drop_eq_getElem_cons hlt] at h';obtain ⟨hst,h'⟩:=h';obtain ⟨go,yld,_⟩:=ok G' H' rl'.hp k' hst;have hx:items[i]?=some items[i]:=getElem?_eq_getElem hlt;refine .inr ⟨go i _ hx,λσ2 H2=>∃ τ2 G2,Rel X.K τ2 G2 σ2 H2/\Kp G1 H1 G2 H2/\RX stay g tb d (items.drop (i+1)) τ2 G2,λσ2 H2 h2=>⟨_,by omega,rfl,hlt,h2⟩,λv H2 y=>?_⟩;obtain ⟨rv,hr2,k2⟩:=yld i _ v H2 hx y;have k3:Kp G1 H1 G' H2:=k'.trans k2;refine ⟨_,τ',G',_,rv,rl'.next hr2 k2,h',λτ3 G3 h3 σ3 H3 rl3 k4=>?_⟩;have k5:Kp G H G3 H3:=(k1.trans k3).trans k4;refine ⟨τ3,G3,_,rl3,h3,⟨λτ4 G4 h4 σ4 H4 rl4 k6=>⟨τ4,G4,rl4,(k3.trans k4).trans k6,h4⟩,af.rt.back k5,af.nx.back k5,λτ4 G4 h4 σ4 H4 rl4 k6=>⟨τ4,G4,rl4,(k3.trans k4).trans k6,h4⟩⟩⟩
  ·have e:i=items.length:=by omega
   subst e;rw [List.drop_length] at h';obtain ⟨_,_,stop⟩:=ok G' H' rl'.hp k' h'.1;exact .inl ⟨stop,af.nx τ' G' h'.2 σ' H' rl' (k1.trans k')⟩
def W9 {stay:Gp->Prop} {g:TG3} {tb:TS3} {d:Ends3} (items:List T) (Pv:Nat->St3->Gp->Prop) {τ:St3} {G:Gp} (h0:Pv 0 τ G) (hst:∀ i τ G,i<=items.length->Pv i τ G->stay G)
  (hs:∀ i x τ G (nx:St3->Gp->Prop),items[i]?=some x->Pv i τ G->(∀ τ G,Pv (i+1) τ G->nx τ G)->g x τ G λτ2 G2=>tb { d with nx:=nx,ct:=nx,bk:=d.nx } τ2 G2)
  (hd:∀ τ G,Pv items.length τ G->d.nx τ G):RX stay g tb d items τ G:=by
 have key:∀ (r:List T) (i:Nat) τ G,items.drop i=r->i<=items.length->Pv i τ G->RX stay g tb d r τ G:=by
  intro r;induction r with
  |nil=>
   intro i τ G e hi p;have:i=items.length:=by have:=congrArg List.length e;simp at this;omega
   subst this;exact ⟨hst _ τ G hi p,hd τ G p⟩
  |cons x r ih=>
   intro i τ G e hi p;have hl:i<items.length:=by
    apply Classical.byContradiction;intro z;rw [List.drop_eq_nil_of_le (by omega)] at e;cases e
   have e':=List.drop_eq_getElem_cons hl;rw [e] at e';injection e' with e1 e2;refine ⟨hst i τ G hi p,hs i x τ G _ (by rw [getElem?_eq_getElem hl,e1]) p λτ2 G2 p2=>ih (i+1) τ2 G2 e2.symm hl p2⟩
 exact key items 0 τ G (by simp) (Nat.zero_le _) h0
def C6 (c:TT3) (tb:TS3):TS3:=λd τ G=>∃ W:Nat->St3->Gp->Prop,(∃ m,W m τ G)/\∀ m τ G,W m τ G ->
 c τ G λb G1=>if b=true then ∃ N:St3->Gp->Prop,(∀ τ' G',N τ' G'->∃ m',m'<m/\W m' τ' G')/\tb { d with nx:=N,ct:=N,bk:=d.nx } τ G1 else d.nx τ G1
def qgW {c:Expr} {body:List Stmt} {tc:TT3} {tb:TS3} (hp:PassesOwn (model X.prog X.w) X.A X.env X.xe) (hc:C3 X c tc) (hb:B3 X body tb):S3 X (.While c body [] pos) (C6 tc tb):=
 qbR (qbW hp hc hb) λD σ H ⟨τ,G,d,rl,⟨W,⟨m0,w0⟩,turn⟩,af⟩=>by
  refine ⟨λm σ' H'=>∃ τ' G',Rel X.K τ' G' σ' H'/\Kp G H G' H'/\W m τ' G',⟨m0,τ,G,rl,Kp.refl,w0⟩,?_⟩;rintro m σ' H' ⟨τ',G',rl',k',w'⟩;refine CQ rl' (turn m τ' G' w') λb G1 h1 H1 hr1 k1 rl1=>?_;cases b with
  |true=>
   rw [if_pos rfl] at h1 ⊢;obtain ⟨N,hN,h1⟩:=h1;refine ⟨λσ2 H2=>∃ τ2 G2,Rel X.K τ2 G2 σ2 H2/\Kp G H G2 H2/\N τ2 G2,λσ2 H2 ⟨τ2,G2,r2,k2,n2⟩=>?_,τ',G1,_,rl1,h1,⟨λτ2 G2 h2 σ2 H2 r2 k2=>⟨τ2,G2,r2,(k'.trans k1).trans k2,h2⟩,af.rt.back (k'.trans k1),af.nx.back (k'.trans k1),λτ2 G2 h2 σ2 H2 r2 k2=>⟨τ2,G2,r2,(k'.trans k1).trans k2,h2⟩⟩⟩;obtain ⟨m',hm,w2⟩:=hN τ2 G2 n2;exact ⟨m',hm,τ2,G2,r2,k2,w2⟩
  |false=>
   rw [if_neg Bool.false_ne_true] at h1 ⊢;exact af.nx τ' G1 h1 σ' H1 rl1 (k'.trans k1)
abbrev Sp3:=List T->Gp->Q3->Prop
def lSp (K:Frg) (sp:Sp3):Sp:=λvs H Q _=>∃ ts G q,HR K G H/\Rps K H ts vs/\sp ts G q/\Aft K G H q Q
def Fn3 (P:Program) (w:World) (K:Frg) (mg:Str->Option Value) (base:Heap) (k:Nat) (x:Str) (sp:Sp3):Prop:=
 ∃ f fd ps,FnOk P w K mg base CX0 k f fd ps (lSp K sp)/\zX K fd ps []/\PySem.W.keepIn K (.ref f)=true/\mg x=some (.ref f)
def Fn3.mono {P:Program} {w:World} {K:Frg} {mg:Str->Option Value} {base:Heap} {j k:Nat} {x:Str} {sp:Sp3} (F:Fn3 P w K mg base j x sp) (h:j<=k):Fn3 P w K mg base k x sp:=
 let ⟨f,fd,ps,a,b,c,d⟩:=F;⟨f,fd,ps,a.mono h,b,c,d⟩
def Fn3.imp {P:Program} {w:World} {K:Frg} {mg:Str->Option Value} {base:Heap} {k:Nat} {x:Str} {sp sp':Sp3} (F:Fn3 P w K mg base k x sp) (h:∀ ts G q,sp' ts G q->sp ts G q):Fn3 P w K mg base k x sp':=
 let ⟨f,fd,ps,a,b,c,d⟩:=F;⟨f,fd,ps,a.imp λvs H Q E ⟨ts,G,q,h1,h2,h3,h4⟩=>⟨ts,G,q,h1,h2,h _ _ _ h3,h4⟩,b,c,d⟩
def qlm {k:Nat} {x:Str} {p:Pos} {sp:Sp3} (F:Fn3 X.prog X.w X.K X.mg X.base k x sp) (hr:Room k X.A) (hg:Gl X x) (ha:A3 X (e::es) t) (hdb:(x==("__debug__" : Str))=false:=by decide)
  (he:starEach (e::es) X.env=(false,eval e X.env)::starEach es X.env:=by rfl) (hpl:(backTo pos (starEach es X.env)).any (·.1)=false:=by rfl):E3 X (.Call (.Name x p) (e::es) [] pos) (cb3 sp t):=by
 obtain ⟨f,fd,ps,F,b,kp,m⟩:=F;refine WF (qgO F hr hg m kp b .nil qno ha hdb he hpl) λσ H Q ⟨τ,G,q,rl,h,af⟩=>UF rl h λxs G1 h1 vs H1 rs hr1 k1 rl1=>?_;rw [List.append_nil];exact ⟨xs,G1,q,hr1,rs,h1,af.back k1⟩
def qt (N:List Str) (ts:List T):St3:=ts.map some++List.replicate (N.length-ts.length) none
def S0 {K:Frg} {N:List Str} {G:Gp} {H:Hp} {ts:List T} {vs:List V} (hr:HR K G H) (rs:Rps K H ts vs):Rel K (qt N ts) G (L2.XS N vs) H:=by
 refine ⟨hr,by simp [qt,L2.XS,rs.length],λi t e=>?_⟩;unfold qt at e;by_cases hi:i<ts.length
 ·rw [List.getElem?_append_left (by simpa using hi),getElem?_map] at e;cases q:ts[i]? with
  |none=>rw [q] at e;cases e
  |some z=>
   rw [q] at e;have e':z=t:=by simpa using e
   subst e';obtain ⟨v,hv,r⟩:=rs.get q;refine ⟨v,?_,r⟩;unfold L2.XS;rw [List.getElem?_append_left (by rw [length_map,← rs.length];exact hi),getElem?_map,hv];rfl
 ·rw [List.getElem?_append_right (by simpa using hi),List.getElem?_replicate] at e;split at e<;>cases e
def qjR {P:Program} {w:World} {K:Frg} {mg:Str->Option Value} {base:Heap} {x qual:Str} {st:Stmt} {f:Addr} {fd:FuncData} {N ps:List Str} {k:Nat} {sp:Sp3} {t3:TS3} (F:Fun K x qual st f fd) (S:FnScope N ps (qk st)) (bd:zX K fd ps []) (hm:mg x=some (.ref f))
  (body:∀ (cdv:Value) (A:Around) (outer:List Env) (s:Shared) (H:Hp) (E:XK),Room k (A.deeper (envOfC qual (qk st) s.heap.objs.size f cdv)) ->
   B3 (qbU CX0 P w K mg base N qual (qk st) f cdv A outer s H E).nox (QF st) t3)
  (read:∀ ts G q,sp ts G q->ts.length=ps.length/\t3 { nx:=λ_ G'=>q .non G',rt:=q } (qt N ts) G):Fn3 P w K mg base (k+1) x sp:=by
 refine ⟨f,fd,ps,F.ok S (λvs H Q E ⟨ts,G,q,h1,h2,h3,h4⟩=>by rw [← h2.length];exact (read ts G q h3).1) λcdv A outer s H vs Q E hr ⟨ts,G,q,h1,h2,h3,h4⟩=>?_,bd,F.kp,hm⟩;refine ⟨_,body cdv A outer s H E hr,qt N ts,G,_,S0 h1 h2,(read ts G q h3).2,⟨λτ' G' h' σ' H' rl' k'=>h4 _ G' h' _ H' .non rl'.hp k',h4,λ_ _ z=>z.elim,λ_ _ z=>z.elim⟩⟩
def qdv (xs:List T):Option Bool:=match xs with
 |[]=>some true
 |.bl k::r=>(match qdv r with|some j=>some (k&&j)|none=>none)
 |_=>none
def qlS (xs:List T):Option Bool:=match xs with
 |[]=>some false
 |.bl k::r=>(match qlS r with|some j=>some (k||j)|none=>none)
 |_=>none
def qcU {P:Program} {w:World} {A:Around} {its:List Value} {ks:List Bool} (h:its=ks.map Value.bool):TruthOf P w A (λi v=>its.toArray[i]?=some v) (λi=>ks.getD i true):=by
 intro i v s Q E hp hq;subst h;have hp':ks[i]?.map Value.bool=some v:=by simpa using hp
 cases e:ks[i]? with
 |none=>rw [e] at hp';cases hp'
 |some k=>
  rw [e] at hp';cases hp';have:ks.getD i true=k:=by rw [getD_eq_getElem?_getD,e];rfl
  have hq:Q (ks.getD i true) s:=hq;rw [this] at hq;exact wpAny_truthy_bool hq
def CM:∀ {ks:List Bool} {us:List Value},jx (ks.map V.bl) us->us=ks.map Value.bool
 |[],_,r=>by cases r;rfl
 |k::ks,_,r=>by
  cases r with
  |cons a b=>rw [show _=Value.bool k from a,CM b];rfl
def qab (ks:List Bool):((List.range ks.length).all λi=>ks.getD i true)=ks.all id:=by
 induction ks with
 |nil=>rfl
 |cons k ks ih=>
  rw [length_cons,List.range_succ_eq_map,List.all_cons,List.all_map,List.all_cons];congr 1
def qX (hc:X.calm=true):JU X (.builtin "all") (λxs H Q=>∃ (p:Addr) (ks:List Bool),xs=[.ref p]/\SqL X.K H p (ks.map V.bl)/\Q (.bl (ks.all id)) H):=by
 intro pins s σ H xs us Q I r h;obtain ⟨p,ks,rfl,hq,q⟩:=h;obtain ⟨u,rfl,rp⟩:=WA r;cases (show u=Value.ref p from rp);obtain ⟨its,rv,pl,hz⟩:=I.list hq;have hb:=CM rv;have hlen:its.length=ks.length:=by rw [hb];simp
 have hp:p<s.heap.objs.size:=by obtain ⟨o,n,e,_⟩:=pl;exact Heap.lt_size e
 refine call_all_walk (wpAny_pyIter_list pl.isList ⟨s.heap.objs.size,_,_,_,_,_,λi=>ks.getD i true,rfl,Walks.list (A:=X.A.in1) (show X.A.in1.handled=none from I.ok.hd hc) s.heap.objs.size p (Nat.ne_of_lt hp) its.toArray,⟨⟨_,Heap.get?_push_size _ rfl,rfl,rfl⟩,?_⟩,qcU hb,λh' tk hk=>?_⟩)
 ·obtain ⟨o,n,e,c,_,d⟩:=pl;exact ⟨o,Heap.get?_push_of_some _ e,c,n,d⟩
 ·refine ⟨.bl _,H,?_,rfl,by rw [size_toArray,hlen,qab];exact q⟩;exact I.kept (h':=h') (t':=tk) λb o e=>hk b o (by simp;exact Nat.ne_of_lt (Heap.lt_size e)) (Heap.get?_push_of_some _ e)
end
def CJ (env:Env):List (Str×NameKind)->List (Str×Addr)->List (Str×Addr)
 |[],cs=>cs
 | (n,k)::r,cs=>if k=.free then CJ env r ((n,(env.cells.lookup n).getD 0)::cs) else CJ env r cs
def EO {scope:Scope} {env:Env} (h:∀ y∈scope.names,y.2=.free->∃ c,env.cells.lookup y.1=some c):closureFor scope env=pure (CJ env scope.names []):=by
 have key:∀ (l:List (Str×NameKind)) (cs:List (Str×Addr)),(∀ y∈l,y.2=.free->∃ c,env.cells.lookup y.1=some c) ->
   (forIn l cs λ(x:Str×NameKind) (r:List (Str×Addr))=>if (x.2==NameKind.free)=true then (do let a←cellOf env x.1;pure (ForInStep.yield ((x.1,a)::r))) else pure (ForInStep.yield r))=(pure (CJ env l cs):Sem _):=by
  intro l;induction l with
  |nil=>intro cs _;rfl
  |cons y r ih=>
   intro cs hl;obtain ⟨n,k⟩:=y;rw [List.forIn_cons];by_cases hk:k=.free
   ·subst hk;obtain ⟨c,hc⟩:=hl (n,.free) List.mem_cons_self rfl;have e:cellOf env n=pure c:=by unfold cellOf;rw [show List.lookup n env.cells=some c from hc]
    simp only [beq_self_eq_true,if_true];rw [e,pure_bind,pure_bind];show forIn r ((n,c)::cs) _=_;rw [ih _ λz hz=>hl z (List.mem_cons_of_mem _ hz)];show _=(pure (if NameKind.free=NameKind.free then CJ env r ((n,(env.cells.lookup n).getD 0)::cs) else CJ env r cs):Sem _);rw [if_pos rfl,show List.lookup n env.cells=some c from hc];rfl
   ·have hb:(k==NameKind.free)=false:=by cases k<;>first|rfl|exact absurd rfl hk
    simp only [hb,Bool.false_eq_true,if_false];rw [pure_bind];show forIn r cs _=_;rw [ih _ λz hz=>hl z (List.mem_cons_of_mem _ hz)];show _=(pure (if k=NameKind.free then CJ env r ((n,(env.cells.lookup n).getD 0)::cs) else CJ env r cs):Sem _);rw [if_neg hk]
 have:=key scope.names [] h;unfold closureFor;refine Eq.trans ?_ this;exact bind_pure (m:=Sem) _
def US {env:Env}:∀ (l:List (Str×NameKind)) (cs:List (Str×Addr)) (x:Str) (c:Addr),(∀ y∈l,y.2=.free->∃ c,env.cells.lookup y.1=some c) ->
  (∀ x c,cs.lookup x=some c->env.cells.lookup x=some c)->(CJ env l cs).lookup x=some c->env.cells.lookup x=some c
 |[],_,_,_,_,h,e=>h _ _ e
 | (n,k)::r,cs,x,c,hl,h,e=>by
  unfold CJ at e;split at e
  ·rename_i hk;refine US r _ x c (λy hy=>hl y (List.mem_cons_of_mem _ hy)) (λx c e=>?_) e;rw [List.lookup_cons] at e;split at e
   ·rename_i hx;have hx':x=n:=by simpa using hx
    subst hx';obtain ⟨d,hd⟩:=hl (x,k) List.mem_cons_self hk;have hd:List.lookup x env.cells=some d:=hd;rw [hd] at e ⊢;exact e
   ·exact h _ _ e
  ·exact US r cs x c (λy hy=>hl y (List.mem_cons_of_mem _ hy)) h e
def WI {env:Env}:∀ (l:List (Str×NameKind)) (cs:List (Str×Addr)) (x:Str),((x,NameKind.free)∈l\/∃ c,cs.lookup x=some c)->∃ c,(CJ env l cs).lookup x=some c
 |[],_,_,h=>by
  rcases h with h|h
  ·simp at h
  ·exact h
 | (n,k)::r,cs,x,h=>by
  unfold CJ;have put:∀ d:Addr,(x=n\/∃ c,cs.lookup x=some c)->∃ c,((n,d)::cs).lookup x=some c:=λd z=>by
   rw [List.lookup_cons];cases hx:x==n with
   |true=>exact ⟨d,rfl⟩
   |false=>
    rcases z with z|z
    ·rw [z] at hx;simp at hx
    ·exact z
  split
  ·rename_i hk;refine WI r _ x ?_;rcases h with h|h
   ·rcases mem_cons.mp h with e|e
    ·cases e;exact .inr (put _ (.inl rfl))
    ·exact .inl e
   ·exact .inr (put _ (.inr h))
  ·rename_i hk;refine WI r _ x ?_;rcases h with h|h
   ·rcases mem_cons.mp h with e|e
    ·cases e;exact absurd rfl hk
    ·exact .inl e
   ·exact .inr h
def RP {env:Env}:∀ (l:List (Str×NameKind)) (cs:List (Str×Addr)) (x:Str) (c:Addr),(CJ env l cs).lookup x=some c->(x,NameKind.free)∈l\/cs.lookup x=some c
 |[],_,_,_,e=>.inr e
 | (n,k)::r,cs,x,c,e=>by
  unfold CJ at e;split at e
  ·rename_i hk;rcases RP r _ x c e with z|z
   ·exact .inl (List.mem_cons_of_mem _ z)
   ·rw [List.lookup_cons] at z;split at z
    ·rename_i hx;have hx':x=n:=by simpa using hx
     subst hx';subst hk;exact .inl List.mem_cons_self
    ·exact .inr z
  ·rcases RP r cs x c e with z|z
   ·exact .inl (List.mem_cons_of_mem _ z)
   ·exact .inr z
def E9 {α:Type}:∀ (xs ys:List (Str×α)) (x:Str),(xs++ys).lookup x=(match xs.lookup x with|some c=>some c|none=>ys.lookup x)
 |[],ys,x=>rfl
 | (n,c)::xs,ys,x=>by
  rw [cons_append,List.lookup_cons,List.lookup_cons];cases x==n with
  |true=>rfl
  |false=>exact E9 xs ys x
def QG:∀ (l:List (Str×NameKind)) {n:Nat} {acc:List (Str×Addr)},cellsFrom n l acc=cellsFrom n l []++acc
 |[],_,_=>rfl
 | (x,k)::r,n,acc=>by
  unfold cellsFrom;split
  ·rw [QG r (acc:=(x,n)::acc),QG r (acc:=[(x,n)]),List.append_assoc];rfl
  ·exact QG r
def YY:∀ (l:List (Str×NameKind)) (n:Nat) (acc:List (Str×Addr)) (x:Str) (c:Addr),(x,c)∈cellsFrom n l acc->(x,NameKind.cell)∈l\/(x,c)∈acc
 |[],_,_,_,_,h=>.inr h
 | (y,k)::r,n,acc,x,c,h=>by
  unfold cellsFrom at h;split at h
  ·rename_i hk;have hk:k=.cell:=by simpa using hk
   rcases YY r _ _ x c h with z|z
   ·exact .inl (List.mem_cons_of_mem _ z)
   ·rcases mem_cons.mp z with e|e
    ·cases e;subst hk;exact .inl List.mem_cons_self
    ·exact .inr e
  ·rcases YY r _ _ x c h with z|z
   ·exact .inl (List.mem_cons_of_mem _ z)
   ·exact .inr z
def ZO:∀ (l:List (Str×NameKind)) (n:Nat) (acc:List (Str×Addr)) (x:Str),((x,NameKind.cell)∈l\/∃ c,acc.lookup x=some c)->∃ c,(cellsFrom n l acc).lookup x=some c
 |[],_,_,_,h=>by
  rcases h with h|h
  ·simp at h
  ·exact h
 | (y,k)::r,n,acc,x,h=>by
  unfold cellsFrom;have put:(x=y\/∃ c,acc.lookup x=some c)->∃ c,((y,n)::acc).lookup x=some c:=λz=>by
   rw [List.lookup_cons];cases hx:x==y with
   |true=>exact ⟨n,rfl⟩
   |false=>
    rcases z with z|z
    ·rw [z] at hx;simp at hx
    ·exact z
  split
  ·refine ZO r _ _ x ?_;rcases h with h|h
   ·rcases mem_cons.mp h with e|e
    ·cases e;exact .inr (put (.inl rfl))
    ·exact .inl e
   ·exact .inr (put (.inr h))
  ·rename_i hk;refine ZO r _ _ x ?_;rcases h with h|h
   ·rcases mem_cons.mp h with e|e
    ·cases e;exact absurd rfl hk
    ·exact .inl e
   ·exact .inr h
def Y9 {M:Model} {A:Around} {E:Value->Shared->Prop} {s:Shared} {scope:Scope} {globals:Addr} {cl:List (Str×Addr)} {qual:Str} {env:Env} {Q:Env->Shared->Prop}
  (hQ:∀ h₁:Heap,h₁.Ns s.heap.objs.size (λ_=>none)->(∀ b o,s.heap.get? b=some o->h₁.get? b=some o)->CellsOk h₁ (s.heap.objs.size+1) (cellsFrom (s.heap.objs.size+1) scope.names [])->Q (newEnv scope s.heap.objs.size globals (cellsFrom (s.heap.objs.size+1) scope.names cl) qual none .none (some env) builtinsNs) { s with heap:=h₁ }) :
  wpAny M A (newFunctionEnv scope globals cl [] qual none .none (some env)) Q E s:=by
 simp only [newFunctionEnv,Option.isSome_some,if_true];refine wpAny_bind (wpAny_alloc ?_);refine wpAny_bind (wpAny_layCells _ (λname kind cells=>by cases hkc:kind==NameKind.cell<;>simp [hkc]) _ _ _ _ ?_);have ok:=cellsFrom_ok scope.names (s.heap.push { cls:=.type "dict",data:=.dict #[] }) (s.heap.objs.size+1) [] ⟨λ_ _ hm=>(nomatch hm),List.Pairwise.nil⟩ (by rw [Heap.size_push];exact Nat.le_refl _);rw [Heap.size_push] at ok;rw [show ({ s with heap:=s.heap.push { cls:=.type "dict",data:=.dict #[] } }:Shared).heap.objs.size=s.heap.objs.size+1 from Heap.size_push ..];rw [List.forIn_nil];refine wpAny_bind (wpAny_pure (wpAny_pure ?_));exact hQ _ ((Heap.Ns.new s.heap (.type "dict")).keeps (pushCells_keeps _ _)) (λb o e=>pushCells_keeps _ _ b o (Heap.get?_push_of_some _ e)) ok
def qF (X:Cx) (N':List Str) (scope:Scope) (s:Shared) (H:Hp) (fp:List Addr):Cx where
 prog:=X.prog
 w:=X.w
 K:=X.K
 mg:=X.mg
 base:=X.base
 A:=X.A
 N:=N'
 s₀:=s
 H₀:=H
 env:=compEnvC scope (cellsFrom (s.heap.objs.size+1) scope.names (CJ X.env scope.names [])) s.heap.objs.size X.env
 outer:=X.stack
 stack:=X.stack
 ex:=fp
 fn:=λx=>scope.names.lookup x==some .cell
 calm:=true
 pn:=[]
 xe:=λ_ _=>False
def qcO (outer inner:Scope):Bool:=(inner.kind==.function)&&inner.names.all λy=>
 (y.2 != .cell||inner.names.lookup y.1==some .cell)&&(y.2 != .local||inner.names.lookup y.1==some .local)&&(y.2 != .free||(inner.names.lookup y.1==some .free&&(outer.names.lookup y.1==some .cell||outer.names.lookup y.1==some .free)))
def cap {α:Type} (m:List (Option Nat)) (σ:List (Option α)):List (Option α):=m.map λo=>match o with|some j=>(σ[j]?).join|none=>none
def WE (N N':List Str) (scope:Scope) (m:List (Option Nat)):Bool:=(m.length==N'.length)&&(m.zip N').all λp=>match p.1 with
 |none=>true
 |some j=>N[j]?==some p.2&&scope.names.lookup p.2==some .free
def qaO {α:Type} {m:List (Option Nat)} {σ:List (Option α)} {i:Nat} {v:α} (h:(cap m σ)[i]?=some (some v)):∃ j,m[i]?=some (some j)/\σ[j]?=some (some v):=by
 unfold cap at h;rw [getElem?_map] at h;cases e:m[i]? with
 |none=>rw [e] at h;cases h
 |some o=>
  rw [e] at h;cases o with
  |none=>cases h
  |some j=>
   refine ⟨j,rfl,?_⟩;have h':(σ[j]?).join=some v:=by simpa using h
   cases q:σ[j]? with
   |none=>rw [q] at h';cases h'
   |some z=>rw [q] at h';exact congrArg some h'
def qaG {N N':List Str} {scope:Scope} {m:List (Option Nat)} (h:WE N N' scope m=true) {i j:Nat} {x:Str} (e:m[i]?=some (some j)) (hx:N'[i]?=some x):N[j]?=some x/\scope.names.lookup x=some .free:=by
 unfold WE at h;rw [Bool.and_eq_true] at h;have hm:(some j,x)∈m.zip N':=mem_of_getElem? (i:=i) (List.getElem?_zip_eq_some.mpr ⟨e,hx⟩);have:=List.all_eq_true.mp h.2 _ hm;simp only [Bool.and_eq_true,beq_iff_eq] at this;exact this
def qfl {N N':List Str} {scope:Scope} {m:List (Option Nat)} {α:Type} (σ:List (Option α)) (h:WE N N' scope m=true):(cap m σ).length=N'.length:=by
 unfold WE at h;rw [Bool.and_eq_true] at h;unfold cap;rw [length_map];simpa using h.1
structure ScFacts (outer inner:Scope):Prop where
 kind:inner.kind=.function
 own:∀ y∈inner.names,y.2=.cell->inner.names.lookup y.1=some .cell
 loc:∀ y∈inner.names,y.2=.local->inner.names.lookup y.1=some .local
 free:∀ y∈inner.names,y.2=.free->inner.names.lookup y.1=some .free/\(outer.names.lookup y.1=some .cell\/outer.names.lookup y.1=some .free)
def CN {outer inner:Scope} (h:qcO outer inner=true):ScFacts outer inner:=by
 unfold qcO at h;rw [Bool.and_eq_true] at h;have ha:=List.all_eq_true.mp h.2;refine ⟨by simpa using h.1,λy hy e=>?_,λy hy e=>?_,λy hy e=>?_⟩
 ·have:=ha y hy;rw [e] at this;simpa using this
 ·have:=ha y hy;rw [e] at this;simpa using this
 ·have:=ha y hy;rw [e] at this;simpa using this
def JY {scope:Scope} {env:Env} {x:Str} {k:NameKind} (h:(relabel scope env).names.lookup x=some k):scope.names.lookup x=some k\/(k=.cell/\scope.names.lookup x=some .free):=by
 have key:∀ (l:List (Str×NameKind)),(l.map λ(n,k)=>if (k==NameKind.free&&env.scope.kind==.function&&env.kindOf n==some .cell) then (n,NameKind.cell) else (n,k)).lookup x=some k->l.lookup x=some k\/(k=.cell/\l.lookup x=some .free):=by
  intro l;induction l with
  |nil=>intro h;simp at h
  |cons y r ih=>
   intro h;obtain ⟨n,j⟩:=y;rw [map_cons] at h;dsimp only at h;by_cases hc:(j==NameKind.free&&env.scope.kind==.function&&env.kindOf n==some .cell)=true
   ·rw [if_pos hc,List.lookup_cons] at h;rw [List.lookup_cons];cases hx:x==n with
    |true=>
     rw [hx] at h;have hk:NameKind.cell=k:=by simpa using h
     have hj:j=.free:=by simp only [Bool.and_eq_true,beq_iff_eq] at hc;exact hc.1.1
     exact .inr ⟨hk.symm,by rw [hj]⟩
    |false=>rw [hx] at h;exact ih h
   ·rw [if_neg hc,List.lookup_cons] at h;rw [List.lookup_cons];cases hx:x==n with
    |true=>rw [hx] at h;exact .inl h
    |false=>rw [hx] at h;exact ih h
 exact key scope.names h
def PF (X:Cx) (ifs:List Expr) (t:TT):Prop:=
 ∀ (pins:List (Addr×Obj)) (s:Shared) (σ:L2.St) (H:Hp) (Q:Bool->Hp->Prop),Inv X pins σ H s->t σ H Q ->
  wpAny (model X.prog X.w) X.A (forIn ifs true λc r=>if r=true then do let ok←isTrue c X.env (eval c X.env);pure (ForInStep.yield ok) else pure (ForInStep.yield r)) (TP X pins σ Q) X.xe s
def qhA {X:Cx}:PF X [] (λ_ H Q=>Q true H):=λ_ _ _ H _ I h=>wpAny_tests_nil ⟨H,I,h⟩
section
variable {X:Cx} {pins:List (Addr×Obj)} {σ:L2.St} {H:Hp} {s:Shared}
def LU {N':List Str} {scope:Scope} {fp:List Addr} {m:List (Option Nat)} {h1:Heap} {mm:Str->Option Value} (hc:X.calm=true) (I:Inv X pins σ H s) (sc:ScFacts X.env.scope scope) (hcap:WE X.N N' scope m=true)
  (hfp:∀ b∈fp,LA X pins H b) (hob:∀ b∈fp,∃ o,s.heap.get? b=some o) (hns:h1.Ns s.heap.objs.size mm) (hk:∀ b o,s.heap.get? b=some o->h1.get? b=some o) (hown:CellsOk h1 (s.heap.objs.size+1) (cellsFrom (s.heap.objs.size+1) scope.names [])) :
  Inv (qF X N' scope s H fp) [] (cap m σ) H { s with heap:=h1 }:=by
 have hcl:∀ y∈scope.names,y.2=.free->∃ c,X.env.cells.lookup y.1=some c:=λy hy e=>by
  rcases (sc.free y hy e).2 with z|z
  ·exact I.ok.has y.1 (.inl z)
  ·exact I.ok.has y.1 (.inr z)
 have cl:∀ x c,(CJ X.env scope.names []).lookup x=some c->X.env.cells.lookup x=some c:=λx c e=>US scope.names [] x c hcl (λ_ _ z=>by simp at z) e;have clt:∀ x c,(CJ X.env scope.names []).lookup x=some c->c<s.heap.objs.size:=λx c e=>by
  obtain ⟨v,q⟩:=I.cell x c (cl x c e);exact q.lt
 -- a cell of the block: its own,or one from around
 have cs:∀ x c,(cellsFrom (s.heap.objs.size+1) scope.names (CJ X.env scope.names [])).lookup x=some c->((x,c)∈cellsFrom (s.heap.objs.size+1) scope.names []/\s.heap.objs.size+1<=c/\h1.IsCell c none)\/(CJ X.env scope.names []).lookup x=some c:=λx c e=>by
  rw [QG,E9] at e;cases q:(cellsFrom (s.heap.objs.size+1) scope.names []).lookup x with
  |none=>rw [q] at e;exact .inr e
  |some d=>
   rw [q] at e;cases e;have mem:=PySem.mem_of_lookup q;exact .inl ⟨mem,(hown.empty x _ mem).2,(hown.empty x _ mem).1⟩
 have fpne:∀ b∈fp,b≠s.heap.objs.size:=λb hb=>let ⟨o,e⟩:=hob b hb;Nat.ne_of_lt (Heap.lt_size e)
 refine ⟨⟨I.ok.mod,sc.kind,I.ok.glob,I.ok.blt,Nat.le_refl _,λx y c e1 e2=>?_,λx hx=>?_,λx c hf e=>?_,λ_=>I.ok.hd hc,I.ok.frames,.inl rfl,λb hb=>⟨fpne b hb,λx c e=>?_⟩,I.bs,Nat.le_trans I.ok.bsz I.sz,λb o e hb=>?_,λb hb z=>?_,I.stack,I.stkFree⟩,
  rfl,I.bare,Un.kept hk,⟨mm,hns,λi x v e1 e2 e3=>?_⟩,λx c e=>?_,I.fresh,λx c e=>?_,λp hp=>absurd (show p∈([]:List (Addr×Obj)) from hp) (by simp),I.hok.kept hk,qfl σ hcap⟩
 ·rcases cs x c e1 with ⟨m1,l1,_⟩|z1<;>rcases cs y c e2 with ⟨m2,l2,_⟩|z2
  ·exact PySem.name_of_addr hown.apart m1 m2
  ·exact absurd (clt y c z2) (Nat.not_lt.mpr (Nat.le_trans (Nat.le_succ _) l1))
  ·exact absurd (clt x c z1) (Nat.not_lt.mpr (Nat.le_trans (Nat.le_succ _) l2))
  ·exact I.ok.inj x y c (cl x c z1) (cl y c z2)
 ·have hx:(relabel scope X.env).names.lookup x=some .cell\/(relabel scope X.env).names.lookup x=some .free:=hx;have hf:scope.names.lookup x=some .cell\/scope.names.lookup x=some .free:=by
   rcases hx with z|z
   ·rcases JY z with q|⟨_,q⟩
    ·exact .inl q
    ·exact .inr q
   ·rcases JY z with q|⟨q,_⟩
    ·exact .inr q
    ·cases q
  show ∃ c,(cellsFrom (s.heap.objs.size+1) scope.names (CJ X.env scope.names [])).lookup x=some c;rcases hf with hf|hf
  ·exact ZO scope.names _ _ x (.inl (PySem.mem_of_lookup hf))
  ·exact ZO scope.names _ _ x (.inr (WI scope.names [] x (.inl (PySem.mem_of_lookup hf))))
 ·have hf:scope.names.lookup x=some .cell:=by simpa [qF] using hf
  rcases cs x c e with ⟨_,l1,_⟩|z1
  ·exact Nat.le_trans (Nat.le_succ _) l1
  ·rcases RP scope.names [] x c z1 with q|q
   ·rw [(sc.free _ q rfl).1] at hf;cases hf
   ·simp at q
 ·rcases cs x c e with ⟨_,l1,_⟩|z1
  ·obtain ⟨o,eo⟩:=hob b hb;exact Nat.ne_of_gt (Nat.lt_of_lt_of_le (Heap.lt_size eo) (Nat.le_trans (Nat.le_succ _) l1))
  ·exact (hfp b hb).2.2.2.2.1 x c (cl x c z1)
 ·rcases (hfp b hb).2.2.2.1 with z|z
  ·exact I.ok.noex b o e z
  ·exact absurd (Nat.lt_of_lt_of_le (Heap.lt_size e) (Nat.le_trans I.ok.bsz z)) (Nat.lt_irrefl _)
 ·rcases mem_cons.mp (I.stkSub b z) with q|q
  ·exact (hfp b hb).2.1 q
  ·exact (hfp b hb).2.2.1 q
 ·obtain ⟨j,ej,es⟩:=qaO e2;obtain ⟨hN,hfr⟩:=qaG hcap ej e1;have mem:=PySem.mem_of_lookup hfr;have ho:=(sc.free _ mem rfl).2;obtain ⟨m0,hn0,hl0⟩:=I.loc;obtain ⟨u,ru,lk⟩:=hl0 j x v hN es (ho.elim (λz=>.inr (.inl z)) λz=>.inr (.inr z));refine ⟨u,ru,.inr ⟨?_,?_⟩⟩
  ·rcases e3 with z|z|z
   ·rcases JY z with q|⟨q,_⟩
    ·rw [hfr] at q;cases q
    ·cases q
   ·exact .inl z
   ·exact .inr z
  ·rcases lk with ⟨z,_⟩|⟨_,c,hc',hcell⟩
   ·have z:X.env.scope.names.lookup x=some .local:=z;rcases ho with q|q<;>(rw [z] at q;cases q)
   ·obtain ⟨c',hc2⟩:=WI (env:=X.env) scope.names [] x (.inl mem);have e:=cl x c' hc2;rw [hc'] at e;cases e;obtain ⟨o,eo,d⟩:=hcell;refine ⟨c,?_,o,hk c o eo,d⟩;show (cellsFrom (s.heap.objs.size+1) scope.names (CJ X.env scope.names [])).lookup x=some c;rw [QG,E9];cases q:(cellsFrom (s.heap.objs.size+1) scope.names []).lookup x with
    |none=>exact hc2
    |some d=>
     rcases YY scope.names _ [] x d (PySem.mem_of_lookup q) with z|z
     ·rw [sc.own _ z rfl] at hfr;cases hfr
     ·simp at z
 ·rcases cs x c e with ⟨_,_,z⟩|z1
  ·exact ⟨none,z⟩
  ·obtain ⟨v,o,eo,d⟩:=I.cell x c (cl x c z1);exact ⟨v,o,hk c o eo,d⟩
 ·rcases cs x c e with ⟨_,l1,_⟩|z1
  ·exact I.hok.fresh (Nat.le_trans (Nat.le_succ _) l1)
  ·exact I.freeC x c (cl x c z1)
def C7 {N':List Str} {scope:Scope} {fp:List Addr} {pins':List (Addr×Obj)} {σ':L2.St} {H':Hp} {s':Shared} {h2:Heap} (I:Inv X pins σ H s) (hfp:∀ b∈fp,LA X pins H b) (J:Inv (qF X N' scope s H fp) pins' σ' H' s')
  (sb:Heap.SameBut s.heap.objs.size s'.heap h2):Inv X pins σ H' { s' with heap:=h2 }:=by
 have ne:∀ b o,s.heap.get? b=some o->b≠s.heap.objs.size:=λb o e=>Nat.ne_of_lt (Heap.lt_size e);have g:∀ b,b≠s.heap.objs.size->h2.get? b=s'.heap.get? b:=λb hb=>sb.2 b hb;have hn:H' s.heap.objs.size=none:=J.free;have u:Un (frs X.stack) fp H H' s.heap s'.heap:=J.base;refine I.call' (s':={ s' with heap:=h2 }) J.os ⟨λb o e n hb hx=>?_,λb o e n hb hx=>?_,u.free,λb o e hx=>?_,u.tups,u.frzs,u.tbls⟩ (λa o e=>?_) J.bare λb hb=>⟨(hfp b hb).2.2.2.1,(hfp b hb).2.1,(hfp b hb).2.2.2.2.1,(hfp b hb).2.2.2.2.2⟩
 ·show h2.get? b=_;rw [g b (ne b o e)];exact u.keep b o e n hb hx
 ·show ∃ sl,h2.get? b=_;rw [g b (ne b o e)];exact u.slot b o e n hb hx
 ·show ∃ o',h2.get? b=_;rw [g b (ne b o e)];exact u.there b o e hx
 ·refine (J.hok a o e).stay (λb v hb q=>?_) (λ_ q=>q) λ_ _ q=>q;have hb':b≠s.heap.objs.size:=by
   intro z;subst z;rcases hb with z|z
   ·rw [← z] at e;rw [hn] at e;cases e
   ·rw [hn] at z;cases z
  rw [g b hb'];exact q
end
def tLC (wi:TI) (g:TG) (tif:TT) (te:TE) (m:List (Option Nat)):TE:=λσ H Q=>wi σ H λJ H1=>∀ D,H1 D=none ->
 ∃ W:Nat->Nat->L2.St->Hp->Prop,(∃ n,W 0 n (cap m σ) (upd H1 D (.lst [])))/\∀ i n σ H,W i n σ H ->
  (J.stop i H/\Q (.ref D) H)\/(J.go i H/\∀ x H',J.yld i H x H'->g x σ H' λσ2 H2=>tif σ2 H2 λk H3=>
   if k=true then te σ2 H3 λy H4=>∃ zs,H4 D=some (.lst zs)/\zs.length<sizeLine/\∃ n',n'<n/\W (i+1) n' σ2 (upd H4 D (.lst (zs++[y])))
   else ∃ n',n'<n/\W (i+1) n' σ2 H3)
section
variable {X:Cx}
def qnC {elt tg iter:Expr} {ifs:List Expr} {scope:Scope} {pos:Pos} {N':List Str} {m:List (Option Nat)} {wi:TI} {g:TG} {tif:TT} {te:TE} (hc:X.calm=true) (hi:PI X tg iter wi)
  (hg:∀ s H fp,PG (qF X N' scope s H fp) tg g) (hf:∀ s H fp,PF (qF X N' scope s H fp) ifs tif) (he:∀ s H fp,PE (qF X N' scope s H fp) elt te)
  (hsc:qcO X.env.scope scope=true) (hcap:WE X.N N' scope m=true) (hs:∀ x,foldedSetIterable iter X.env x=pure x:=by intro _;rfl) :
  PE X (.ListComp elt [⟨tg,iter,ifs,0⟩] scope pos) (tLC wi g tif te m):=by
 intro pins s σ H Q I h;have sc:=CN hsc;have hcl:∀ y∈scope.names,y.2=.free->∃ c,X.env.cells.lookup y.1=some c:=λy hy e=>by
  rcases (sc.free y hy e).2 with z|z
  ·exact I.ok.has y.1 (.inl z)
  ·exact I.ok.has y.1 (.inr z)
 rw [eval_ListComp];refine wpAny_comprehension_free (use:=none) (g:=⟨tg,iter,ifs,0⟩) (gs:=[]) rfl hs (EO hcl) sc.kind sc.loc ?_;show wpAny _ _ (eval iter X.env) _ _ s;refine thn (hi pins s σ H _ I h) λv s1 h1=>thn h1 λitv s2 h2=>?_;obtain ⟨it,fp,tn,J,H2,rfl,I2,T,st2,f2,hW⟩:=h2;refine wpAny_newObj_type ?_;have hD:H2 s2.heap.objs.size=none:=I2.fresh;obtain ⟨W,⟨n0,w0⟩,turn⟩:=hW _ hD;generalize hDe:s2.heap.objs.size=D at *;have I3:Inv X pins σ (upd H2 D (.lst [])) { s2 with heap:=s2.heap.push { cls:=.type "list",dict:=none,data:=.seq ([]:List Value).toArray } }:=by
  subst hDe;exact I2.laid (t':=s2.toks) (λb u e=>Heap.get?_push_of_some _ e) (Nat.le_refl _) ⟨Nat.zero_le _,[],0,.nil,Heap.get?_push_size _ rfl⟩
 have ob2:=T.obj 0 _ st2;have ob3:∀ b∈fp,∃ o,(s2.heap.push { cls:=.type "list",dict:=none,data:=.seq ([]:List Value).toArray }).get? b=some o:=λb hb=>let ⟨o,e,_⟩:=ob2 b hb;⟨o,Heap.get?_push_of_some _ e⟩
 have f3:∀ b∈fp,LA X pins (upd H2 D (.lst [])) b:=λb hb=>by
  obtain ⟨o,e,_⟩:=ob2 b hb;have:b≠D:=by rw [← hDe];exact Nat.ne_of_lt (Heap.lt_size e)
  exact ⟨by rw [zp this];exact (f2 b hb).1,(f2 b hb).2⟩
 have k23:∀ b o,s2.heap.get? b=some o->(s2.heap.push { cls:=.type "list",dict:=none,data:=.seq ([]:List Value).toArray }).get? b=some o:=λb o e=>Heap.get?_push_of_some _ e;generalize hH3:upd H2 D (.lst [])=H3 at *;generalize hs3:({ s2 with heap:=s2.heap.push { cls:=.type "list",dict:=none,data:=.seq ([]:List Value).toArray } }:Shared)=s3 at *;have ob3:∀ b∈fp,∃ o,s3.heap.get? b=some o:=by rw [← hs3];exact ob3
 have k23:∀ b o,s2.heap.get? b=some o->s3.heap.get? b=some o:=by rw [← hs3];exact k23
 refine Y9 λh₁ hns hk hown=>?_;have I4:Inv (qF X N' scope s3 H3 fp) [] (cap m σ) H3 { s3 with heap:=h₁ }:=LU hc I3 sc hcap f3 ob3 hns hk hown;have tn4:tn 0 h₁:=T.keep _ _ _ st2 λb hb o e=>hk b o (k23 b o e);have fr4:∀ b∈fp,H3 b=none:=λb hb=>(f3 b hb).1;have stat:∀ {H':Hp},(∀ b∈fp,H' b=none)->∀ b∈fp,LA (qF X N' scope s3 H3 fp) [] H' b:=λhn b hb=>by
  refine ⟨hn b hb,I4.ok.exf b hb |>.1,I4.ok.exfs b hb,.inl hb,λx c e=>(I4.ok.exf b hb).2 x c e,λp hp=>absurd (show p∈([]:List (Addr×Obj)) from hp) (by simp)⟩
 show codeAny (model X.prog X.w) X.A (.compStart (.ListComp elt [⟨tg,iter,ifs,0⟩] scope pos) 0 (.ref it) (.ref D) (qF X N' scope s3 H3 fp).env) (compPost (model X.prog X.w) X.A X.xe none (EP X pins σ Q) (.ref D) s3.heap.objs.size) { s3 with heap:=h₁ };have loop:codeAny (model X.prog X.w) X.A (.compLoop (.ListComp elt [⟨tg,iter,ifs,0⟩] scope pos) 0 (.ref it) (.ref D) (qF X N' scope s3 H3 fp).env) (compPost (model X.prog X.w) X.A X.xe none (EP X pins σ Q) (.ref D) s3.heap.objs.size) { s3 with heap:=h₁ }:=by
  refine codeAny_loop rfl (λn s'=>∃ i σ' H',Inv (qF X N' scope s3 H3 fp) [] σ' H' s'/\tn i s'.heap/\(∀ b∈fp,H' b=none)/\W i n σ' H') (λn s' hI=>?_) n0 ⟨0,cap m σ,H3,I4,tn4,fr4,w0⟩;show wpAny _ X.A ((compTurn (.ListComp elt [⟨tg,iter,ifs,0⟩] scope pos) 0 (.ref it) (.ref D) (qF X N' scope s3 H3 fp).env).onRaise (λx=>do noteFrame x (qF X N' scope s3 H3 fp).env;theTreesLotGoes x)) _ _ s';refine wpAny_noted ?_;rw [compTurn_list];refine wpAny_bind (wpAny_standAt (wpAny_bind ?_));obtain ⟨i,σ5,H5,I5,st5,fr5,w5⟩:=hI;rcases turn i n σ5 H5 w5 with ⟨stop,q⟩|⟨go,step⟩
  ·refine thn (T.done (qF X N' scope s3 H3 fp) rfl rfl rfl rfl i [] s' σ5 H5 _ I5 (stat fr5) st5 stop) λr s6 ⟨hr,I6⟩=>?_;subst hr;refine wpAny_pure ?_;obtain ⟨mm,hn6,_⟩:=I6.loc;exact ⟨mm,hn6,λh' sb=>⟨.ref D,H5,C7 I3 f3 I6 sb,rfl,q⟩⟩
  ·refine thn (T.item (qF X N' scope s3 H3 fp) rfl rfl rfl rfl i [] s' σ5 H5 _ I5 (stat fr5) st5 go) λr s6 ⟨u,hr,h6⟩=>?_;subst hr;refine wpAny_bind (thn h6 λ_ s7 ⟨x,H7,I7,r7,y7,st7,fr7⟩=>?_);have I7':=I7.pinned (stat fr7) (T.obj _ _ st7);have again:∀ {σ8:L2.St} {H8:Hp} {s8:Shared},Inv (qF X N' scope s3 H3 fp) ([]++C0 fp s7.heap) σ8 H8 s8->(∃ n',n'<n/\W (i+1) n' σ8 H8) ->
     ∃ m',m'<n/\∃ i σ' H',Inv (qF X N' scope s3 H3 fp) [] σ' H' s8/\tn i s8.heap/\(∀ b∈fp,H' b=none)/\W i m' σ' H':=λ{σ8 H8 s8} I8 ⟨n',hn,w8⟩=>by
    refine ⟨n',hn,i+1,σ8,H8,I8.unpinned,T.keep _ _ _ st7 λb hb o e=>(I8.pin (b,o) (mem_append_right _ (mem_append_right _ (ZY hb e)))).1,λb hb=>?_,w8⟩;obtain ⟨o,e,d⟩:=T.obj _ _ st7 b hb;exact (I8.pin (b,o) (mem_append_right _ (mem_append_right _ (ZY hb e)))).2.1
   refine wpAny_bind (wpAny_mono (hg s3 H3 fp _ s7 σ5 H7 x u _ I7' r7 (step x H7 y7)) (λ_ s8 ⟨σ8,H8,I8,q8⟩=>?_) λ_ _ z=>z.elim);refine wpAny_bind (wpAny_mono (hf s3 H3 fp _ s8 σ8 H8 _ I8 q8) (λk s9 ⟨H9,I9,q9⟩=>?_) λ_ _ z=>z.elim);cases k with
   |false=>
    rw [if_neg Bool.false_ne_true] at q9;exact wpAny_pure ⟨rfl,again I9 q9⟩
   |true=>
    rw [if_pos rfl] at q9;refine wpAny_bind (wpAny_bind (wpAny_mono (he s3 H3 fp _ s9 σ8 H9 _ I9 q9) (λw s10 ⟨y,H10,I10,r10,q10⟩=>?_) λ_ _ z=>z.elim));obtain ⟨zs,hz,hl,q10⟩:=q10;refine wpAny_bind (wpAny_mono (XX (X:=qF X N' scope s3 H3 fp) _ s10 σ8 H10 (.ref D) [y] (.ref D) [w] (λ_ H11=>H11=upd H10 D (.lst (zs++[y]))) I10 rfl (.cons r10 .nil) ⟨D,zs,y,rfl,rfl,hz,hl,rfl⟩) (λ_ s11 ⟨_,H11,I11,_,e11⟩=>?_) λ_ _ z=>z.elim);subst e11;exact wpAny_pure (wpAny_pure ⟨rfl,again I11 q10⟩)
 exact codeAny_compStart_list loop (T.self X.A 0 _ _ _ tn4 loop)
end
section
variable {K:Frg} {G G':Gp} {H H':Hp}
def qgQ {D:Addr} {o:HO} {ws:List V} (hD:H D=some (.lst ws)) {a:Addr} {vs:List V} (h:SqT K H a vs):SqT K (upd H D o) a vs:=by
 rcases h with h|h
 ·refine .inl ?_;rcases h with h|⟨ob,h⟩
  ·have:a≠D:=by intro e;subst e;rw [hD] at h;cases h
   exact .inl (by rw [zp this];exact h)
  ·have:a≠D:=by intro e;subst e;rw [hD] at h;cases h
   exact .inr ⟨ob,by rw [zp this];exact h⟩
 ·exact .inr h
mutual
def Rp.wrD {D:Addr} {o:HO} {ws:List V} (hD:H D=some (.lst ws)):∀ {x:T} {v:V},Rp K H x v->Rp K (upd H D o) x v
 |_,_,.non=>.non
 |_,_,.bl b=>.bl b
 |_,_,.int i=>.int i
 |_,_,.str x=>.str x
 |_,_,.ref a=>.ref a
 |_,_,.tup h hs=>.tup (qgQ hD h) (Rps.wrD hD hs)
def Rps.wrD {D:Addr} {o:HO} {ws:List V} (hD:H D=some (.lst ws)):∀ {x:List T} {v:List V},Rps K H x v->Rps K (upd H D o) x v
 |_,_,.nil=>.nil
 |_,_,.cons a b=>.cons (Rp.wrD hD a) (Rps.wrD hD b)
end
def HR.wrD {D:Addr} {o:HO} {ws:List V} (hr:HR K G H) (hD:H D=some (.lst ws)) (g:G D=none):HR K G (upd H D o):=λa ob e=>by
 have ha:a≠D:=by intro z;subst z;rw [g] at e;cases e
 have q:=hr a ob e;cases ob with
 |lst xs=>obtain ⟨vs,h1,h2⟩:=q;exact ⟨vs,by rw [zp ha];exact h1,h2.wrD hD⟩
 |frz xs=>obtain ⟨vs,⟨o1,h1⟩,h2⟩:=q;exact ⟨vs,⟨o1,by rw [zp ha];exact h1⟩,h2.wrD hD⟩
def Rel.wrD {D:Addr} {o:HO} {ws:List V} {τ:St3} {σ:L2.St} (r:Rel K τ G σ H) (hD:H D=some (.lst ws)) (g:G D=none):Rel K τ G σ (upd H D o):=
 ⟨r.hp.wrD hD g,r.len,λi t e=>let ⟨v,h1,h2⟩:=r.st i t e;⟨v,h1,h2.wrD hD⟩⟩
def Kp.wrD {D:Addr} {o:HO} (k:Kp G H G' H') (hD:H D=none):Kp G H G' (upd H' D o):=λa ob h g=>by
 obtain ⟨h1,h2⟩:=k a ob h g;exact ⟨by rw [zp (qU h hD)];exact h1,h2⟩
def qb4 {α:Type} {m:List (Option Nat)} {σ:List (Option α)} {i j:Nat} (h:m[i]?=some (some j)):(cap m σ)[i]?=some ((σ[j]?).join):=by
 unfold cap;rw [getElem?_map,h];rfl
def Rel.cap {τ:St3} {σ:L2.St} (r:Rel K τ G σ H) (m:List (Option Nat)):Rel K (cap m τ) G (L3.cap m σ) H:=by
 refine ⟨r.hp,by simp [L3.cap],λi t e=>?_⟩;obtain ⟨j,e1,e2⟩:=qaO e;obtain ⟨v,h1,h2⟩:=r.st j t e2;exact ⟨v,by rw [qb4 e1,h1];rfl,h2⟩
end
def CS (stay:Gp->Prop) (g:TG3) (tif:TT3) (te:TE3) (q:Q3):List T->List T->St3->Gp->Prop
 |[],ys,_,G=>stay G/\∀ p,G p=none->q (.ref p) (gu G p (.lst ys))
 |x::r,ys,τ,G=>stay G/\g x τ G λτ2 G2=>tif τ2 G2 λk G3=>if k=true then te τ2 G3 λy G4=>ys.length<sizeLine/\CS stay g tif te q r (ys++[y]) τ2 G4 else CS stay g tif te q r ys τ2 G3
def lc3 (wi:TI3) (g:TG3) (tif:TT3) (te:TE3) (m:List (Option Nat)):TE3:=λτ G q=>wi τ G λitems stay G1=>CS stay g tif te q items [] (cap m τ) G1
abbrev F3 (X:Cx) (ifs:List Expr) (t:TT3):Prop:=PF X ifs (lT X.K t)
def tt3:TT3:=λ_ G q=>q true G
def qnT {X:Cx}:F3 X [] tt3:=λpins s σ H Q I ⟨τ,G,q,rl,h,af⟩=>qhA pins s σ H Q I (af true G h H rl.hp Kp.refl)
section
variable {X:Cx}
def qpv {elt tg iter:Expr} {ifs:List Expr} {scope:Scope} {pos:Pos} (N':List Str) (m:List (Option Nat)) {wi:TI3} {g:TG3} {tif:TT3} {te:TE3} (hc:X.calm=true) (hi:I3 X tg iter wi)
  (hg:∀ s H fp,G3 (qF X N' scope s H fp) tg g) (hf:∀ s H fp,F3 (qF X N' scope s H fp) ifs tif) (he:∀ s H fp,E3 (qF X N' scope s H fp) elt te)
  (hsc:qcO X.env.scope scope=true) (hcap:WE X.N N' scope m=true) (hs:∀ x,foldedSetIterable iter X.env x=pure x:=by intro _;rfl) :
  E3 X (.ListComp elt [⟨tg,iter,ifs,0⟩] scope pos) (lc3 wi g tif te m):=
 WF (qnC (g:=lG X.K g) (tif:=lT X.K tif) (te:=lE X.K te) hc hi hg hf he hsc hcap hs) λσ H Q ⟨τ,G,q,rl,h,af⟩=>by
  refine ⟨τ,G,_,rl,h,λitems stay G1 h1 J H1 hr1 k1 ok D hD=>?_⟩;have gD:G1 D=none:=hr1.free hD;refine ⟨λi n σ' H'=>n=items.length-i/\i<=items.length/\∃ τ' G' ys vs,Rel X.K τ' G' σ' H'/\Kp G1 H1 G' H'/\H' D=some (.lst vs)/\Rps X.K H' ys vs/\G' D=none/\CS stay g tif te q (items.drop i) ys τ' G',
   ⟨_,rfl,Nat.zero_le _,cap m τ,G1,[],[],((rl.next hr1 k1).cap m).next (hr1.laid hD) (Kp.laid hD),Kp.laid hD,zK,.nil,gD,by simpa using h1⟩,?_⟩
  rintro i n σ' H' ⟨rfl,hi,τ',G',ys,vs,rl',k',hDl,rys,gD',h'⟩;by_cases hlt:i<items.length
  ·rw [List.drop_eq_getElem_cons hlt] at h';obtain ⟨hst,h'⟩:=h';obtain ⟨go,yld,_⟩:=ok G' H' rl'.hp k' hst;have hx:items[i]?=some items[i]:=getElem?_eq_getElem hlt;refine .inr ⟨go i _ hx,λv H2 y=>?_⟩;obtain ⟨rv,hr2,k2⟩:=yld i _ v H2 hx y;have nxt:∀ {τ4:St3} {G4:Gp} {σ4:L2.St} {H4:Hp} {ys4:List T} {vs4:List V},Rel X.K τ4 G4 σ4 H4->Kp G1 H1 G4 H4->H4 D=some (.lst vs4)->Rps X.K H4 ys4 vs4->G4 D=none->CS stay g tif te q (items.drop (i+1)) ys4 τ4 G4 ->
     ∃ n',n'<items.length-i/\(n'=items.length-(i+1)/\i+1<=items.length/\∃ τ' G' ys vs,Rel X.K τ' G' σ4 H4/\Kp G1 H1 G' H4/\H4 D=some (.lst vs)/\Rps X.K H4 ys vs/\G' D=none/\CS stay g tif te q (items.drop (i+1)) ys τ' G'):=
    λ{τ4 G4 σ4 H4 ys4 vs4} a b c d e f=>⟨_,by omega,rfl,hlt,τ4,G4,ys4,vs4,a,b,c,d,e,f⟩
   refine ⟨_,τ',G',_,rv,rl'.next hr2 k2,h',λτ3 G3 h3 σ3 H3 rl3 k3=>⟨τ3,G3,_,rl3,h3,λk G4 h4 H4 hr4 k4=>?_⟩⟩;have kk:=(k2.trans k3).trans k4;obtain ⟨hD4,gD4⟩:=kk D _ hDl gD';have rys4:=rys.keep rl'.hp kk;cases k with
   |false=>
    rw [if_neg Bool.false_ne_true] at h4;refine qom ?_;exact nxt (rl3.next hr4 k4) (k'.trans kk) hD4 rys4 gD4 h4
   |true=>
    rw [if_pos rfl] at h4;refine qoC ?_;refine ⟨τ3,G4,_,rl3.next hr4 k4,h4,λz G5 h5 w H5 rw5 hr5 k5=>?_⟩;obtain ⟨hD5,gD5⟩:=k5 D _ hD4 gD4;have rys5:=rys4.keep hr4 k5;exact ⟨vs,hD5,by rw [← rys.length];exact h5.1,nxt (((rl3.next hr4 k4).next hr5 k5).wrD hD5 gD5) (((k'.trans kk).trans k5).wrD hD) zK ((rys5.append (.cons rw5 .nil)).wrD hD5) gD5 h5.2⟩
  ·have e:i=items.length:=by omega
   subst e;rw [List.drop_length] at h';obtain ⟨_,_,stop⟩:=ok G' H' rl'.hp k' h'.1;refine .inl ⟨stop,af _ _ (h'.2 D gD') _ H' (.ref D) (λa o e=>?_) λa o e ga=>?_⟩
   ·by_cases ha:a=D
    ·subst ha;rw [qL] at e;cases e;exact ⟨vs,hDl,rys⟩
    ·rw [ZW ha] at e;exact rl'.hp a o e
   ·obtain ⟨e1,g1⟩:=k1 a o e ga;obtain ⟨e2,g2⟩:=k' a o e1 g1;exact ⟨e2,by rw [ZW (qU e1 hD)];exact g2⟩
end
structure Src (P:Program) (w:World) (it c:Addr) (St:Nat->Heap->Prop) (Has:Array Value->Heap->Prop):Prop where
 obj:∀ {k h},St k h->∃ o,h.get? it=some o/\∀ v,o.data≠.cell v
 keep:∀ {k h h'},St k h->(∀ o,h.get? it=some o->h'.get? it=some o)->St k h'
 hkeep:∀ {xs h h'},Has xs h->(∀ o,h.get? c=some o->h'.get? c=some o)->Has xs h'
 item:∀ {A:Around} {s:Shared} {k:Nat} {xs:Array Value} {x:Value} {Q:Value->Shared->Prop} {E:Value->Shared->Prop},St k s.heap->Has xs s.heap->xs[k]?=some x ->
  (∀ h',St (k+1) h'->Heap.SameBut it s.heap h'->Q x { s with heap:=h' })->wpAny (model P w) A (Builtin.SmallTypes.nextOf (.ref it)) Q E s
 done:∀ {A:Around} {s:Shared} {k:Nat} {xs:Array Value} {Q:Value->Shared->Prop} {E:Value->Shared->Prop},A.handled=none->St k s.heap->Has xs s.heap->xs[k]?=none ->
  (∀ h' e,Heap.ExtBut it s.heap h'->(∃ o,h'.get? e=some o/\o.cls=.type "StopIteration")->E (.ref e) { s with heap:=h' })->wpAny (model P w) A (Builtin.SmallTypes.nextOf (.ref it)) Q E s
def qce {P:Program} {w:World} (it l:Addr):Src P w it l (λk h=>h.IsListIter it l k) (λxs h=>h.IsList l xs) where
 obj:=λst=>let ⟨o,e,_,d⟩:=st;⟨o,e,λv z=>by rw [d] at z;cases z⟩
 keep:=λst k=>st.at λo e=>k o e
 hkeep:=λst k=>st.at λo e=>k o e
 item:=λst hl hx hQ=>wpAny_nextOf_list_item st hl hx hQ
 done:=λhh st hl hx hE=>wpAny_nextOf_list_end hh st hl hx hE
def NR {P:Program} {w:World} {A:Around} {s:Shared} {it t:Addr} {i:Nat} {its:Array Value} {x:Value} {Q:Value->Shared->Prop} {E:Value->Shared->Prop} (hit:s.heap.IsTupleIter it t i) (ht:s.heap.IsTuple t its) (hx:its[i]?=some x)
  (hQ:∀ h',h'.IsTupleIter it t (i+1)->Heap.SameBut it s.heap h'->Q x { s with heap:=h' }):wpAny (model P w) A (Builtin.SmallTypes.nextOf (.ref it)) Q E s:=by
 obtain ⟨o1,e1,c1,d1⟩:=id hit;obtain ⟨o2,e2,_,n2,d2⟩:=ht;unfold Builtin.SmallTypes.nextOf;refine wpAny_bind (wpAny_callSpecial?_slot (name:=Str.ofString "__next__") hit.typeIs F.slot_tuple_iterator_next (wpAny_call_entry F.slot_tuple_iterator_next hit.typeIs F.entry_tuple_iterator_next ?_ (F.args_tuple_iterator_next_1 _)));refine wpAny_bind (m:=field (.ref it) 0) (wpAny_field e1 d1 (x:=.ref t) rfl ?_);rw [if_neg (show ¬ ((Value.ref t==Value.none)=true) by exact Bool.false_ne_true)];refine wpAny_bind (m:=field (.ref it) 1) (wpAny_field e1 d1 (x:=.int i 0) rfl ?_);refine wpAny_bind (m:=seqItems? (.ref t)) (wpAny_seqItems e2 d2 ?_);simp only [Int.toNat_natCast,hx];refine wpAny_bind (wpAny_setField e1 d1 (by simp) (wpAny_pure ⟨x,rfl,wpAny_pure (hQ _ ⟨_,Heap.get?_update_self _ e1 (Obj.isFreed_of_fields (Obj.data_mapFields d1 _)),(Obj.cls_mapFields ..).trans c1,?_⟩ (Heap.SameBut.update ..))⟩));rw [Obj.data_mapFields d1];simp [rawInt]
def CB {P:Program} {w:World} {A:Around} {s:Shared} {it t:Addr} {i:Nat} {its:Array Value} {Q:Value->Shared->Prop} {E:Value->Shared->Prop} (hh:A.handled=none) (hit:s.heap.IsTupleIter it t i) (ht:s.heap.IsTuple t its) (hx:its[i]?=none)
  (hE:∀ h' e,Heap.ExtBut it s.heap h'->(∃ o,h'.get? e=some o/\o.cls=.type "StopIteration")->E (.ref e) { s with heap:=h' }):wpAny (model P w) A (Builtin.SmallTypes.nextOf (.ref it)) Q E s:=by
 obtain ⟨o1,e1,c1,d1⟩:=id hit;obtain ⟨o2,e2,_,n2,d2⟩:=ht;unfold Builtin.SmallTypes.nextOf;refine wpAny_bind (wpAny_callSpecial?_slot (name:=Str.ofString "__next__") hit.typeIs F.slot_tuple_iterator_next (wpAny_call_entry F.slot_tuple_iterator_next hit.typeIs F.entry_tuple_iterator_next ?_ (F.args_tuple_iterator_next_1 _)));refine wpAny_bind (m:=field (.ref it) 0) (wpAny_field e1 d1 (x:=.ref t) rfl ?_);rw [if_neg (show ¬ ((Value.ref t==Value.none)=true) by exact Bool.false_ne_true)];refine wpAny_bind (m:=field (.ref it) 1) (wpAny_field e1 d1 (x:=.int i 0) rfl ?_);refine wpAny_bind (m:=seqItems? (.ref t)) (wpAny_seqItems e2 d2 ?_);simp only [Int.toNat_natCast,hx];refine wpAny_bind (wpAny_rule (wpAny_bind (wpAny_setField e1 d1 (by simp) ?_)));refine wpAny_bind (m:=newExc (.type "StopIteration") []) ?_;simp only [newExc,newTuple];refine wpAny_bind (wpAny_newObj_type ?_ (by size_fits));refine wpAny_bind (m:=firstArgMember _ _) (wpAny_of_eq (a:=Value.none) (by first|rfl|(simp only [firstArgMember]<;>rfl)) (wpAny_newObj_type ?_ (by size_fits)));simp only [raiseNew];refine wpAny_bind (wpAny_handled ?_)
 first|rw [show A.in1.handled=Option.none from hh]|rw [show A.handled=Option.none from hh]
 exact wpAny_bind (wpAny_pure (wpAny_throw (hE _ _ (((Heap.SameBut.update ..).extBut.push _).push _) ⟨_,Heap.get?_push_size _ rfl,rfl⟩)))
def qfX {P:Program} {w:World} (it t:Addr):Src P w it t (λk h=>h.IsTupleIter it t k) (λxs h=>h.IsTuple t xs) where
 obj:=λst=>let ⟨o,e,_,d⟩:=st;⟨o,e,λv z=>by rw [d] at z;cases z⟩
 keep:=λst k=>st.at λo e=>k o e
 hkeep:=λst k=>st.at λo e=>k o e
 item:=λst hl hx hQ=>NR st hl hx hQ
 done:=λhh st hl hx hE=>CB hh st hl hx hE
structure ZA (z ti to i1 i2 c1 c2:Addr):Prop where
 ne:([z,ti,to,i1,i2]:List Addr).Nodup
 a1:c1∉[z,to,i1,i2]
 a2:c2∉[z,to,i1,i2]
section
variable {P:Program} {w:World} {A:Around} {s:Shared} {z ti to i1 i2 c1 c2:Addr} {S1 S2:Nat->Heap->Prop} {H1 H2:Array Value->Heap->Prop} {k1 k2:Nat} {xs ys:Array Value} {x y a b:Value} {E:Value->Shared->Prop}
def qcg {Q:Value->Shared->Prop} (R1:Src P w i1 c1 S1 H1) (R2:Src P w i2 c2 S2 H2) (D:ZA z ti to i1 i2 c1 c2) (hz:IsZip s.heap z ti to .none) (hi:IsPair s.heap ti (.ref i1) (.ref i2)) (ho:IsPair s.heap to a b)
  (p1:S1 k1 s.heap) (p2:S2 k2 s.heap) (l1:H1 xs s.heap) (l2:H2 ys s.heap) (hx:xs[k1]?=some x) (hy:ys[k2]?=some y)
  (hQ:∀ h',IsZip h' z ti to (rawInt s.heap.objs.size)->IsPair h' to x y->S1 (k1+1) h'->S2 (k2+1) h'->IsPair h' s.heap.objs.size x y->(∀ c o,c∉[z,to,i1,i2]->s.heap.get? c=some o->h'.get? c=some o)->Q (.ref s.heap.objs.size) { s with heap:=h' }) :
  wpAny (model P w) A (Builtin.«zip.__next__» ⟨[.ref z],[]⟩) (λfin s'=>∃ v,fin=.done (.ret v)/\Q v s') E s:=by
 have ne:=D.ne;simp only [List.nodup_cons,mem_cons,not_mem_nil,not_or,or_false] at ne;obtain ⟨⟨n1,n2,n3,n4⟩,⟨n5,n6,n7⟩,⟨n8,n9⟩,n10,_⟩:=ne;have a1:=D.a1;have a2:=D.a2;simp only [mem_cons,not_mem_nil,not_or,or_false] at a1 a2;obtain ⟨q1,q2,q3,q4⟩:=a1;obtain ⟨r1,r2,r3,r4⟩:=a2;refine wpAny_bind (m:=field (.ref z) 2) (wpAny_field hz rfl (x:=.bool false) rfl ?_);refine wpAny_bind (m:=field (.ref z) 3) (wpAny_field hz rfl (x:=.ref ti) rfl ?_);refine wpAny_bind (wpAny_seqItems hi rfl ?_);refine wpAny_bind (m:=Builtin.SmallTypes.ownedTupleIsFree (.ref z)) ?_;unfold Builtin.SmallTypes.ownedTupleIsFree;refine wpAny_bind (wpAny_field hz rfl (x:=Value.none) rfl (wpAny_pure ?_));simp only [if_true];refine wpAny_bind (wpAny_rule (wpAny_bind (wpAny_field hz rfl (x:=.ref to) rfl (wpAny_bind (wpAny_setField_rec hz (by simp) λg1 z1 s1=>?_)))))
 replace z1:IsZip g1 z ti to Value.ellipsis:=z1
 refine wpAny_bind ?_;simp only [List.zipIdx_cons,List.zipIdx_nil,List.forIn_cons,List.forIn_nil];refine wpAny_bind (wpAny_bind (wpAny_onRaise (wpAny_bind (m:=Builtin.SmallTypes.nextOf (.ref i1)) ?_)));refine R1.item (R1.keep p1 λo e=>s1.extBut _ _ (Ne.symm n3) e) (R1.hkeep l1 λo e=>s1.extBut _ _ q1 e) hx λg2 p12 s2=>wpAny_pure ?_;have t2:IsPair g2 to a b:=s2.extBut _ _ n8 (s1.extBut _ _ (Ne.symm n2) ho);refine wpAny_bind (wpAny_seqItems t2 rfl (wpAny_bind (wpAny_updateSeq_pair t2 λg3 t3 s3=>?_)))
 replace t3:IsPair g3 to x b:=t3
 refine wpAny_bind (wpAny_letGo (wpAny_pure (wpAny_bind (wpAny_bind (wpAny_onRaise (wpAny_bind (m:=Builtin.SmallTypes.nextOf (.ref i2)) ?_))))));refine R2.item (R2.keep p2 λo e=>s3.extBut _ _ (Ne.symm n9) (s2.extBut _ _ (Ne.symm n10) (s1.extBut _ _ (Ne.symm n4) e))) (R2.hkeep l2 λo e=>s3.extBut _ _ r2 (s2.extBut _ _ r3 (s1.extBut _ _ r1 e))) hy λg4 p24 s4=>wpAny_pure ?_;have t4:IsPair g4 to x b:=s4.extBut _ _ n9 t3;refine wpAny_bind (wpAny_seqItems t4 rfl (wpAny_bind (wpAny_updateSeq_pair t4 λg5 t5 s5=>?_)))
 replace t5:IsPair g5 to x y:=t5
 refine wpAny_bind (wpAny_letGo (wpAny_pure (wpAny_pure (wpAny_bind (wpAny_seqItems t5 rfl (wpAny_bind (wpAny_newTuple ?_)))))));have sz:g5.objs.size=s.heap.objs.size:=by rw [s5.1,s4.1,s3.1,s2.1,s1.1]
 have z5:IsZip g5 z ti to Value.ellipsis:=s5.extBut _ _ n2 (s4.extBut _ _ n4 (s3.extBut _ _ n2 (s2.extBut _ _ n3 z1)));have kk:∀ c o,c∉[z,to,i1,i2]->s.heap.get? c=some o->g5.get? c=some o:=λc o hc e=>by
  simp only [mem_cons,not_mem_nil,not_or,or_false] at hc;exact s5.extBut _ _ hc.2.1 (s4.extBut _ _ hc.2.2.2 (s3.extBut _ _ hc.2.1 (s2.extBut _ _ hc.2.2.1 (s1.extBut _ _ hc.1 e))))
 have p15:S1 (k1+1) g5:=R1.keep p12 λo e=>s5.extBut _ _ (Ne.symm n8) (s4.extBut _ _ n10 (s3.extBut _ _ (Ne.symm n8) e));have p25:S2 (k2+1) g5:=R2.keep p24 λo e=>s5.extBut _ _ (Ne.symm n9) e;have zlt:z<g5.objs.size:=Heap.lt_size z5;refine wpAny_bind (m:=Builtin.SmallTypes.ownedTupleHandOut (.ref z) (.ref g5.objs.size)) ?_;unfold Builtin.SmallTypes.ownedTupleHandOut;have z6:IsZip (g5.push { cls:=.type "tuple",data:=.seq #[x,y] }) z ti to Value.ellipsis:=Heap.get?_push_of_some _ z5;refine wpAny_bind (wpAny_setField_rec z6 (by simp) λg7 z7 s7=>?_)
 replace z7:IsZip g7 z ti to (rawInt g5.objs.size):=z7
 refine wpAny_setField_rec z7 (by simp) λg8 z8 s8=>?_
 replace z8:IsZip g8 z ti to (rawInt g5.objs.size):=z8
 have up:∀ c o,c≠z->g5.get? c=some o->g8.get? c=some o:=λc o hc e=>s8.extBut _ _ hc (s7.extBut _ _ hc (Heap.get?_push_of_some _ e));have t8:IsPair g8 g5.objs.size x y:=s8.extBut _ _ (Nat.ne_of_gt zlt) (s7.extBut _ _ (Nat.ne_of_gt zlt) (Heap.get?_push_size _ rfl));rw [sz] at z8 t8;refine wpAny_pure ⟨_,rfl,?_⟩;show Q (Value.ref g5.objs.size) _;rw [sz];exact hQ g8 z8 (up _ _ (Ne.symm n2) t5) (R1.keep p15 λo e=>up _ o (Ne.symm n3) e) (R2.keep p25 λo e=>up _ o (Ne.symm n4) e) t8 λc o hc e=>up c o (λq=>hc (by simp [q])) (kk c o hc e)
def qfm {Q:Fin->Shared->Prop} (hh:A.handled=none) (R1:Src P w i1 c1 S1 H1) (R2:Src P w i2 c2 S2 H2) (D:ZA z ti to i1 i2 c1 c2) (hz:IsZip s.heap z ti to .none) (hi:IsPair s.heap ti (.ref i1) (.ref i2)) (ho:IsPair s.heap to a b)
  (p1:S1 k1 s.heap) (p2:S2 k2 s.heap) (l1:H1 xs s.heap) (l2:H2 ys s.heap) (hend:xs[k1]?=none\/ys[k2]?=none)
  (hE:∀ h' e,(∀ c o,c∉[z,to,i1,i2]->s.heap.get? c=some o->h'.get? c=some o)->(∃ o,h'.get? e=some o/\o.cls=.type "StopIteration")->E (.ref e) { s with heap:=h' }) :
  wpAny (model P w) A (Builtin.«zip.__next__» ⟨[.ref z],[]⟩) Q E s:=by
 have ne:=D.ne;simp only [List.nodup_cons,mem_cons,not_mem_nil,not_or,or_false] at ne;obtain ⟨⟨n1,n2,n3,n4⟩,⟨n5,n6,n7⟩,⟨n8,n9⟩,n10,_⟩:=ne;have a1:=D.a1;have a2:=D.a2;simp only [mem_cons,not_mem_nil,not_or,or_false] at a1 a2;obtain ⟨q1,q2,q3,q4⟩:=a1;obtain ⟨r1,r2,r3,r4⟩:=a2;refine wpAny_bind (m:=field (.ref z) 2) (wpAny_field hz rfl (x:=.bool false) rfl ?_);refine wpAny_bind (m:=field (.ref z) 3) (wpAny_field hz rfl (x:=.ref ti) rfl ?_);refine wpAny_bind (wpAny_seqItems hi rfl ?_);refine wpAny_bind (m:=Builtin.SmallTypes.ownedTupleIsFree (.ref z)) ?_;unfold Builtin.SmallTypes.ownedTupleIsFree;refine wpAny_bind (wpAny_field hz rfl (x:=Value.none) rfl (wpAny_pure ?_));simp only [if_true];refine wpAny_bind (wpAny_rule (wpAny_bind (wpAny_field hz rfl (x:=.ref to) rfl (wpAny_bind (wpAny_setField_rec hz (by simp) λg1 z1 s1=>?_)))))
 replace z1:IsZip g1 z ti to Value.ellipsis:=z1
 refine wpAny_bind ?_;simp only [List.zipIdx_cons,List.zipIdx_nil,List.forIn_cons,List.forIn_nil];refine wpAny_bind (wpAny_bind (wpAny_onRaise (wpAny_bind (m:=Builtin.SmallTypes.nextOf (.ref i1)) ?_)));cases hx:xs[k1]? with
 |none=>
  refine R1.done hh (R1.keep p1 λo e=>s1.extBut _ _ (Ne.symm n3) e) (R1.hkeep l1 λo e=>s1.extBut _ _ q1 e) hx λg2 e s2 ⟨oe,he,ce⟩=>?_;have z2:IsZip g2 z ti to Value.ellipsis:=s2 _ _ n3 z1;have ez:e≠z:=λq=>by subst q;rw [z2] at he;cases he;simp at ce
  refine wpAny_setField_rec z2 (by simp) λg3 _ s3=>hE g3 e (λc o hc q=>?_) ⟨oe,s3.extBut _ _ ez he,ce⟩;simp only [mem_cons,not_mem_nil,not_or,or_false] at hc;exact s3.extBut _ _ hc.1 (s2 _ _ hc.2.2.1 (s1.extBut _ _ hc.1 q))
 |some x=>
  have hy:ys[k2]?=none:=by rcases hend with q|q;rw [hx] at q;cases q;exact q
  refine R1.item (R1.keep p1 λo e=>s1.extBut _ _ (Ne.symm n3) e) (R1.hkeep l1 λo e=>s1.extBut _ _ q1 e) hx λg2 p12 s2=>wpAny_pure ?_;have t2:IsPair g2 to a b:=s2.extBut _ _ n8 (s1.extBut _ _ (Ne.symm n2) ho);refine wpAny_bind (wpAny_seqItems t2 rfl (wpAny_bind (wpAny_updateSeq_pair t2 λg3 t3 s3=>?_)));refine wpAny_bind (wpAny_letGo (wpAny_pure (wpAny_bind (wpAny_bind (wpAny_onRaise (wpAny_bind (m:=Builtin.SmallTypes.nextOf (.ref i2)) ?_))))));refine R2.done hh (R2.keep p2 λo e=>s3.extBut _ _ (Ne.symm n9) (s2.extBut _ _ (Ne.symm n10) (s1.extBut _ _ (Ne.symm n4) e))) (R2.hkeep l2 λo e=>s3.extBut _ _ r2 (s2.extBut _ _ r3 (s1.extBut _ _ r1 e))) hy λg4 e s4 ⟨oe,he,ce⟩=>?_;have z4:IsZip g4 z ti to Value.ellipsis:=s4 _ _ n4 (s3.extBut _ _ n2 (s2.extBut _ _ n3 z1));have ez:e≠z:=λq=>by subst q;rw [z4] at he;cases he;simp at ce
  refine wpAny_setField_rec z4 (by simp) λg5 _ s5=>hE g5 e (λc o hc q=>?_) ⟨oe,s5.extBut _ _ ez he,ce⟩;simp only [mem_cons,not_mem_nil,not_or,or_false] at hc;exact s5.extBut _ _ hc.1 (s4 _ _ hc.2.2.2 (s3.extBut _ _ hc.2.1 (s2.extBut _ _ hc.2.2.1 (s1.extBut _ _ hc.1 q))))
end
abbrev qnQ (b:Bool):String:=if b then "list_iterator" else "tuple_iterator"
abbrev j4 (b:Bool) (c:Addr):Obj:={ cls:=.type (qnQ b),data:=.fields #[.ref c,.int 0 0] }
def qiv (b:Bool) (it c:Addr) (k:Nat) (h:Heap):Prop:=match b with|true=>h.IsListIter it c k|false=>h.IsTupleIter it c k
def NV (b:Bool) (c:Addr) (xs:Array Value) (h:Heap):Prop:=match b with|true=>h.IsList c xs|false=>h.IsTuple c xs
def VB {P:Program} {w:World} (b:Bool) (it c:Addr):Src P w it c (qiv b it c) (NV b c):=by
 cases b
 ·exact qfX it c
 ·exact qce it c
def qbh {P:Program} {w:World} {A:Around} {s:Shared} {b:Bool} {c:Addr} {xs:Array Value} {Q:Value->Shared->Prop} {E:Value->Shared->Prop} (h:NV b c xs s.heap) (q:Q (.ref s.heap.objs.size) { s with heap:=s.heap.push (j4 b c) }) :
  wpAny (model P w) A (pyIter (.ref c)) Q E s:=by
 cases b
 ·exact wpAny_pyIter_tuple (show s.heap.IsTuple c xs from h) q
 ·exact wpAny_pyIter_list (show s.heap.IsList c xs from h) q
def qaa {b:Bool} {c:Addr} {xs:Array Value} {h:Heap} {o:Obj} (q:NV b c xs h):NV b c xs (h.push o):=by
 cases b
 ·exact (show h.IsTuple c xs from q).at λ_ e=>Heap.get?_push_of_some _ e
 ·exact (show h.IsList c xs from q).at λ_ e=>Heap.get?_push_of_some _ e
abbrev zh1 (h:Heap) (o1:Obj):Heap:=h.push o1
abbrev zh2 (h:Heap) (o1 o2:Obj):Heap:=(zh1 h o1).push o2
abbrev zh3 (h:Heap) (o1 o2:Obj):Heap:=(zh2 h o1 o2).push { cls:=.type "tuple",data:=.seq #[.ref h.objs.size,.ref (zh1 h o1).objs.size] }
abbrev zh4 (h:Heap) (o1 o2:Obj):Heap:=(zh3 h o1 o2).push { cls:=.type "tuple",data:=.seq #[.none,.none] }
abbrev zh5 (h:Heap) (o1 o2:Obj):Heap:=(zh4 h o1 o2).push { cls:=.type "zip",data:=.fields #[.none,.bool false,.bool false,.ref (zh2 h o1 o2).objs.size,.ref (zh3 h o1 o2).objs.size] }
def qbo (c1 c2:Addr) (o1 o2:Obj) :
  Meets (Builtin.«zip.__new__» ⟨[.type "zip",.ref c1,.ref c2],[]⟩) (λ_ R s=>
   (∀ (P:Program) (w:World) (A:Around) (Q:Value->Shared->Prop) (E:Value->Shared->Prop),Q (.ref s.heap.objs.size) { s with heap:=zh1 s.heap o1 }->wpAny (model P w) A (pyIter (.ref c1)) Q E s) /\
   (∀ (P:Program) (w:World) (A:Around) (Q:Value->Shared->Prop) (E:Value->Shared->Prop),Q (.ref (zh1 s.heap o1).objs.size) { s with heap:=zh2 s.heap o1 o2 }->wpAny (model P w) A (pyIter (.ref c2)) Q E { s with heap:=zh1 s.heap o1 }) /\
   R (.ok (.ret (.ref (zh4 s.heap o1 o2).objs.size))) { s with heap:=zh5 s.heap o1 o2 }):=
 .of_wp λprog w A R s h=>by
  obtain ⟨hp,g,d,tk,os⟩:=s;obtain ⟨h1,h2,h⟩:=h;have hsub:=sub_zip;have k1:=λA Q E=>h1 prog w A Q E;have k2:=λA Q E=>h2 prog w A Q E
  wp_walk using k1 _ _ _,k2 _ _ _
  exact ⟨_,rfl,h⟩
def qb1 (b1 b2:Bool) (z ti to i1 i2 c1 c2:Addr) (k:Nat) (h:Heap):Prop:=
 IsZip h z ti to .none/\IsPair h ti (.ref i1) (.ref i2)/\(∃ a b,IsPair h to a b)/\qiv b1 i1 c1 k h/\qiv b2 i2 c2 k h
section
variable {P:Program} {w:World} {A:Around} {s:Shared} {E:Value->Shared->Prop}
def qcy {b1 b2:Bool} {c1 c2:Addr} {xs ys:Array Value} {Q:Value->Shared->Prop} (h1:NV b1 c1 xs s.heap) (h2:NV b2 c2 ys s.heap)
  (q:∀ h',qb1 b1 b2 (s.heap.objs.size+4) (s.heap.objs.size+2) (s.heap.objs.size+3) s.heap.objs.size (s.heap.objs.size+1) c1 c2 0 h'->(∀ c o,s.heap.get? c=some o->h'.get? c=some o)->Q (.ref (s.heap.objs.size+4)) { s with heap:=h' }) :
  wpAny (model P w) A (call (.type "zip") [.ref c1,.ref c2]) Q E s:=by
 refine callType_new F.called_zip (by decide) (F.typeCall_zip_2 _ _) (F.newCall_zip_2 _ _) (λobj=>F.args_object_init_3 obj _ _) F.entry_zip_new
  (qbo c1 c2 (j4 b1 c1) (j4 b2 c2)) ⟨λP w A Q E q=>qbh h1 q,λP w A Q E q=>qbh (s:={ s with heap:=zh1 s.heap (j4 b1 c1) }) (qaa h2) q,?_⟩
 have e1:(zh1 s.heap (j4 b1 c1)).objs.size=s.heap.objs.size+1:=Heap.size_push ..;have e2:(zh2 s.heap (j4 b1 c1) (j4 b2 c2)).objs.size=s.heap.objs.size+2:=by rw [Heap.size_push,e1]
 have e3:(zh3 s.heap (j4 b1 c1) (j4 b2 c2)).objs.size=s.heap.objs.size+3:=by rw [Heap.size_push,e2]
 have e4:(zh4 s.heap (j4 b1 c1) (j4 b2 c2)).objs.size=s.heap.objs.size+4:=by rw [Heap.size_push,e3]
 have g5:(zh5 s.heap (j4 b1 c1) (j4 b2 c2)).get? (zh4 s.heap (j4 b1 c1) (j4 b2 c2)).objs.size=some _:=Heap.get?_push_size _ rfl;have g4:(zh5 s.heap (j4 b1 c1) (j4 b2 c2)).get? (zh3 s.heap (j4 b1 c1) (j4 b2 c2)).objs.size=some _:=Heap.get?_push_of_some _ (Heap.get?_push_size _ rfl);have g3:(zh5 s.heap (j4 b1 c1) (j4 b2 c2)).get? (zh2 s.heap (j4 b1 c1) (j4 b2 c2)).objs.size=some _:=Heap.get?_push_of_some _ (Heap.get?_push_of_some _ (Heap.get?_push_size _ rfl));have g2:(zh5 s.heap (j4 b1 c1) (j4 b2 c2)).get? (zh1 s.heap (j4 b1 c1)).objs.size=some (j4 b2 c2):=Heap.get?_push_of_some _ (Heap.get?_push_of_some _ (Heap.get?_push_of_some _ (Heap.get?_push_size _ rfl)));have g1:(zh5 s.heap (j4 b1 c1) (j4 b2 c2)).get? s.heap.objs.size=some (j4 b1 c1):=Heap.get?_push_of_some _ (Heap.get?_push_of_some _ (Heap.get?_push_of_some _ (Heap.get?_push_of_some _ (Heap.get?_push_size _ rfl))));show _/\_;rw [e2,e3,e4] at g5;rw [e1,e2] at g3;rw [e3] at g4;rw [e1] at g2;rw [e4];refine ⟨⟨_,g5,rfl⟩,q _ ⟨g5,g3,⟨_,_,g4⟩,?_,?_⟩ λc o e=>Heap.get?_push_of_some _ (Heap.get?_push_of_some _ (Heap.get?_push_of_some _ (Heap.get?_push_of_some _ (Heap.get?_push_of_some _ e))))⟩
 ·cases b1<;>exact ⟨_,g1,rfl,rfl⟩
 ·cases b2<;>exact ⟨_,g2,rfl,rfl⟩
def qbY {b1 b2:Bool} {z ti to i1 i2 c1 c2:Addr} {k:Nat} {xs ys:Array Value} {x y:Value} {Q:Option Value->Shared->Prop} (D:ZA z ti to i1 i2 c1 c2) (st:qb1 b1 b2 z ti to i1 i2 c1 c2 k s.heap) (l1:NV b1 c1 xs s.heap) (l2:NV b2 c2 ys s.heap) (hx:xs[k]?=some x) (hy:ys[k]?=some y)
  (hQ:∀ h',IsZip h' z ti to (rawInt s.heap.objs.size)->IsPair h' ti (.ref i1) (.ref i2)->(∃ a b,IsPair h' to a b)->qiv b1 i1 c1 (k+1) h'->qiv b2 i2 c2 (k+1) h'->IsPair h' s.heap.objs.size x y->(∀ c o,c∉[z,to,i1,i2]->s.heap.get? c=some o->h'.get? c=some o)->Q (some (.ref s.heap.objs.size)) { s with heap:=h' }) :
  wpAny (model P w) A (pyNext (.ref z)) Q E s:=by
 obtain ⟨hz,hi,⟨a,b,ho⟩,p1,p2⟩:=st;have ty:s.TypeIs (.ref z) "zip" := ⟨_,hz,rfl⟩
 have nti:ti∉[z,to,i1,i2]:=by
  have ne:=D.ne;simp only [List.nodup_cons,mem_cons,not_mem_nil,not_or,or_false] at ne ⊢;exact ⟨Ne.symm ne.1.1,ne.2.1.1,ne.2.1.2.1,ne.2.1.2.2⟩
 unfold pyNext;exact wpAny_bind (wpAny_attempt (wpAny_callSpecial?_slot (name:=Str.ofString "__next__") ty F.slot_zip_next (wpAny_call_entry F.slot_zip_next ty F.entry_zip_next
  (qcg (VB b1 i1 c1) (VB b2 i2 c2) D hz hi ho p1 p2 l1 l2 hx hy λh' u1 u2 u3 u4 u5 u6=>wpAny_pure (hQ h' u1 (u6 _ _ nti hi) ⟨_,_,u2⟩ u3 u4 u5 u6)) (F.args_zip_next_1 _))))
def S9 {b1 b2:Bool} {z ti to i1 i2 c1 c2:Addr} {k:Nat} {xs ys:Array Value} {Q:Option Value->Shared->Prop} (hh:A.handled=none) (D:ZA z ti to i1 i2 c1 c2) (st:qb1 b1 b2 z ti to i1 i2 c1 c2 k s.heap) (l1:NV b1 c1 xs s.heap) (l2:NV b2 c2 ys s.heap) (hend:xs[k]?=none\/ys[k]?=none)
  (hQ:∀ h',(∀ c o,c∉[z,to,i1,i2]->s.heap.get? c=some o->h'.get? c=some o)->Q none { s with heap:=h' }):wpAny (model P w) A (pyNext (.ref z)) Q E s:=by
 obtain ⟨hz,hi,⟨a,b,ho⟩,p1,p2⟩:=st;have ty:s.TypeIs (.ref z) "zip" := ⟨_,hz,rfl⟩
 unfold pyNext;refine wpAny_bind (wpAny_attempt (wpAny_callSpecial?_slot (name:=Str.ofString "__next__") ty F.slot_zip_next (wpAny_call_entry F.slot_zip_next ty F.entry_zip_next
  (qfm hh (VB b1 i1 c1) (VB b2 i2 c2) D hz hi ho p1 p2 l1 l2 hend λh' e hk ⟨o,q1,q2⟩=>?_) (F.args_zip_next_1 _))))
 exact wpAny_bind (wpAny_isInstance (T:="StopIteration") (b:=true) ⟨o,q1,q2⟩ isSubtype_stop (wpAny_pure (hQ _ hk)))
end
def SqB (K:Frg) (b:Bool) (H:Hp) (a:Addr) (xs:List V):Prop:=match b with|true=>SqL K H a xs|false=>SqT K H a xs
def SqB.get {X:Cx} {pins:List (Addr×Obj)} {σ:L2.St} {H:Hp} {s:Shared} {b:Bool} {a:Addr} {xs:List V} (I:Inv X pins σ H s) (h:SqB X.K b H a xs):∃ its:List Value,jx xs its/\NV b a its.toArray s.heap/\xs.length<=sizeLine:=by
 cases b
 ·obtain ⟨its,r,p,hz⟩:=I.tuple (show SqT X.K H a xs from h);exact ⟨its,r,(show s.heap.IsTuple a its.toArray from p),hz⟩
 ·obtain ⟨its,r,p,hz⟩:=I.list (show SqL X.K H a xs from h);exact ⟨its,r,p.isList,hz⟩
def SqB.inj {X:Cx} {pins:List (Addr×Obj)} {σ:L2.St} {H:Hp} {s:Shared} {b:Bool} {a:Addr} {xs ys:List V} (I:Inv X pins σ H s) (h:SqB X.K b H a xs) (h':SqB X.K b H a ys):xs=ys:=by
 cases b
 ·exact I.tuple_inj h h'
 ·exact I.list_inj h h'
def Itz (K:Frg) (b1 b2:Bool) (c1 c2:Addr):It:=
  ⟨λi H=>∃ xs ys x y,SqB K b1 H c1 xs/\SqB K b2 H c2 ys/\xs[i]?=some x/\ys[i]?=some y,
   λi H v H'=>∃ p x y,H p=none/\v=.ref p/\H'=upd H p (.tup [x,y])/\(∀ xs,SqB K b1 H c1 xs->xs[i]?=some x)/\(∀ ys,SqB K b2 H c2 ys->ys[i]?=some y),
   λi H=>∃ xs ys,SqB K b1 H c1 xs/\SqB K b2 H c2 ys/\(xs.length<=i\/ys.length<=i)⟩
def qiZ {b:Bool} {c:Addr} {xs:Array Value} {h:Heap} (q:NV b c xs h):c<h.objs.size:=by
 cases b
 ·obtain ⟨o,e,_⟩:=(show h.IsTuple c xs from q);exact Heap.lt_size e
 ·obtain ⟨o,e,_⟩:=(show h.IsList c xs from q);exact Heap.lt_size e
def qcp {P:Program} {w:World} {K:Frg} {es:List Expr} {k1:Nat} {pt:Pos} {b1 b2:Bool} {z ti to i1 i2 c1 c2:Addr} (D:ZA z ti to i1 i2 c1 c2):Turn P w K (.Tuple es k1 pt) (Itz K b1 b2 c1 c2) [z,ti,to,i1,i2] z (qb1 b1 b2 z ti to i1 i2 c1 c2) where
 mem:=by simp
 obj:=λi h ⟨hz,hi,⟨a,b,ho⟩,p1,p2⟩ c hc=>by
  simp only [mem_cons,not_mem_nil,or_false] at hc;rcases hc with rfl|rfl|rfl|rfl|rfl
  ·exact ⟨_,hz,λv q=>by cases q⟩
  ·exact ⟨_,hi,λv q=>by cases q⟩
  ·exact ⟨_,ho,λv q=>by cases q⟩
  ·exact (VB (P:=P) (w:=w) b1 c c1).obj p1
  ·exact (VB (P:=P) (w:=w) b2 c c2).obj p2
 keep:=λi h h' ⟨hz,hi,⟨a,b,ho⟩,p1,p2⟩ k=>
  ⟨k z (by simp) _ hz,k ti (by simp) _ hi,⟨a,b,k to (by simp) _ ho⟩,(VB (P:=P) (w:=w) b1 i1 c1).keep p1 λo e=>k i1 (by simp) o e,(VB (P:=P) (w:=w) b2 i2 c2).keep p2 λo e=>k i2 (by simp) o e⟩
 item:=by
  intro X hP hw hK hc i pins s σ H E I hf st hg;subst hP hw hK;obtain ⟨xs,ys,x,y,sq1,sq2,hx,hy⟩:=hg;obtain ⟨its1,rv1,l1,z1⟩:=sq1.get I;obtain ⟨its2,rv2,l2,z2⟩:=sq2.get I;obtain ⟨u1,hu1,ru1⟩:=rv1.get hx;obtain ⟨u2,hu2,ru2⟩:=rv2.get hy;refine qbY D st l1 l2 (x:=u1) (y:=u2) (by simpa using hu1) (by simpa using hu2) λh' hz hi ho p1 p2 hp hk=>?_;have hfr:H s.heap.objs.size=none:=I.fresh;have free:∀ b∈[z,ti,to,i1,i2],H b=none:=λb hb=>(hf b hb).1;refine ⟨_,rfl,wpAny_letOwnedTupleGo_zip hz λh2 hz2 s2=>?_⟩;have zlt:z<s.heap.objs.size:=Heap.lt_size st.1;have hp2:IsPair h2 s.heap.objs.size u1 u2:=(s2.2 _ (Nat.ne_of_gt zlt)).trans hp;have ne:=D.ne;simp only [List.nodup_cons,mem_cons,not_mem_nil,not_or,or_false] at ne;have up:∀ c o,c≠z->h'.get? c=some o->h2.get? c=some o:=λc o hc e=>(s2.2 c hc).trans e;have kk:∀ c o,c∉[z,to,i1,i2]->s.heap.get? c=some o->h2.get? c=some o:=λc o hc e=>up c o (λq=>hc (by simp [q])) (hk c o hc e);have I3:Inv X pins σ (upd H s.heap.objs.size (.tup [x,y])) { s with heap:=h2 }:=by
   refine I.step (g':=s.gens) (d':=s.drawn) (t':=s.toks) (ch:=[z,to,i1,i2]) (λb hb=>?_) (λb o _ _ hcb e _=>kk b o hcb e) (λb o _ _ hcb e _=>⟨o.slots,kk b o hcb e⟩) (λb o _ e n=>by rw [zp (Nat.ne_of_lt (Heap.lt_size e))];exact n) (λb o hcb e=>⟨o,kk b o hcb e⟩)
    (λb _ e=>by rw [zp (qU e hfr)];exact e) (λb _ _ e=>by rw [zp (qU e hfr)];exact e) (λb ps e=>⟨#[],by rw [zp (qU e hfr),e];simp⟩) (λm hm=>?_) (λb u e=>?_) I.bare
   ·obtain ⟨f0,f1,f2,f3,f4,f5⟩:=hf b (by simp only [mem_cons,not_mem_nil,or_false] at hb ⊢;rcases hb with q|q|q|q<;>simp [q]);exact ⟨f3,f1,f4,f5⟩
   ·obtain ⟨o,es',ep,ho',r⟩:=hm;refine ⟨o,es',ep,kk _ o (λq=>?_) ho',r⟩;obtain ⟨f0,f1,_⟩:=hf X.env.locals (by simp only [mem_cons,not_mem_nil,or_false] at q ⊢;rcases q with q|q|q|q<;>simp [q]);exact f1 rfl
   ·by_cases hb:b=s.heap.objs.size
    ·subst hb;rw [zK] at e;cases e;exact ⟨by show 2<=sizeLine;decide,[u1,u2],.cons ru1 (.cons ru2 .nil),⟨_,hp2,rfl,_,rfl⟩⟩
    ·rw [zp hb] at e;refine (I.hok b u e).stay (λc v hcb q=>kk c v (λm=>?_) q) (λ_ q=>by rw [zp (qU q hfr)];exact q) λ_ _ q=>by rw [zp (qU q hfr)];exact q
     have hn:=free c (by simp only [mem_cons,not_mem_nil,or_false] at m ⊢;rcases m with q|q|q|q<;>simp [q]);rcases hcb with q|q
     ·rw [q] at hn;rw [hn] at e;cases e
     ·rw [hn] at q;cases q
  refine ⟨.ref s.heap.objs.size,_,I3,rfl,⟨_,x,y,hfr,rfl,rfl,λzs q=>by rw [q.inj I sq1];exact hx,λzs q=>by rw [q.inj I sq2];exact hy⟩,⟨hz2,up _ _ (Ne.symm ne.1.1) hi,let ⟨a,b,q⟩:=ho;⟨a,b,up _ _ (Ne.symm ne.1.2.1) q⟩,(VB (P:=X.prog) (w:=X.w) b1 i1 c1).keep p1 λo e=>up _ o (Ne.symm ne.1.2.2.1) e,(VB (P:=X.prog) (w:=X.w) b2 i2 c2).keep p2 λo e=>up _ o (Ne.symm ne.1.2.2.2) e⟩,λb hb=>?_⟩;rw [zp (λq=>?_)]
  ·exact free b hb
  ·subst q;obtain ⟨hz0,hi0,⟨a0,b0,ho0⟩,q1,q2⟩:=st;simp only [mem_cons,not_mem_nil,or_false] at hb;rcases hb with q|q|q|q|q
   ·exact absurd q (Nat.ne_of_gt zlt)
   ·exact absurd q (Nat.ne_of_gt (Heap.lt_size hi0))
   ·exact absurd q (Nat.ne_of_gt (Heap.lt_size ho0))
   ·obtain ⟨o,e,_⟩:=(VB (P:=X.prog) (w:=X.w) b1 i1 c1).obj q1;exact absurd q (Nat.ne_of_gt (Heap.lt_size e))
   ·obtain ⟨o,e,_⟩:=(VB (P:=X.prog) (w:=X.w) b2 i2 c2).obj q2;exact absurd q (Nat.ne_of_gt (Heap.lt_size e))
 done:=by
  intro X hP hw hK hc i pins s σ H E I hf st hg;subst hP hw hK;obtain ⟨xs,ys,sq1,sq2,hend⟩:=hg;obtain ⟨its1,rv1,l1,z1⟩:=sq1.get I;obtain ⟨its2,rv2,l2,z2⟩:=sq2.get I;have e1:=rv1.length;have e2:=rv2.length;refine S9 (I.ok.hd hc) D st l1 l2 (by rcases hend with q|q;exact .inl (by simp;omega);exact .inr (by simp;omega)) λh' hk=>⟨rfl,?_⟩
  have free:∀ b∈[z,ti,to,i1,i2],H b=none:=λb hb=>(hf b hb).1;refine I.step (g':=s.gens) (d':=s.drawn) (t':=s.toks) (ch:=[z,to,i1,i2]) (λb hb=>?_) (λb o _ _ hcb e _=>hk b o hcb e) (λb o _ _ hcb e _=>⟨o.slots,hk b o hcb e⟩) (λ_ _ _ _ n=>n) (λb o hcb e=>⟨o,hk b o hcb e⟩) (λ_ _ e=>e) (λ_ _ _ e=>e) (λb ps e=>⟨#[],by rw [e];simp⟩) (λm hm=>?_) (λb u e=>?_) I.bare
  ·obtain ⟨f0,f1,f2,f3,f4,f5⟩:=hf b (by simp only [mem_cons,not_mem_nil,or_false] at hb ⊢;rcases hb with q|q|q|q<;>simp [q]);exact ⟨f3,f1,f4,f5⟩
  ·obtain ⟨o,es',ep,ho',r⟩:=hm;refine ⟨o,es',ep,hk _ o (λq=>?_) ho',r⟩;obtain ⟨f0,f1,_⟩:=hf X.env.locals (by simp only [mem_cons,not_mem_nil,or_false] at q ⊢;rcases q with q|q|q|q<;>simp [q]);exact f1 rfl
  ·refine (I.hok b u e).stay (λc v hcb q=>hk c v (λm=>?_) q) (λ_ q=>q) λ_ _ q=>q;have hn:=free c (by simp only [mem_cons,not_mem_nil,or_false] at m ⊢;rcases m with q|q|q|q<;>simp [q]);rcases hcb with q|q
   ·rw [q] at hn;rw [hn] at e;cases e
   ·rw [hn] at q;cases q
 self:=λA i s Q E st h=>wpAny_pyIter_zip st.1 h
def qjv {n c1 c2:Addr} (h1:c1<n) (h2:c2<n):ZA (n+4) (n+2) (n+3) n (n+1) c1 c2:=by
 have k:∀ n c:Nat,c<n->c≠n+4/\c≠n+3/\c≠n/\c≠n+1:=λn c h=>by omega
 have d:∀ n:Nat,(([n+4,n+2,n+3,n,n+1]:List Nat)).Nodup:=λn=>by
  simp only [List.nodup_cons,mem_cons,not_mem_nil,not_or,or_false,List.nodup_nil,and_true,not_false_eq_true];omega
 refine ⟨d n,?_,?_⟩
 ·simp only [mem_cons,not_mem_nil,not_or,or_false];exact k n c1 h1
 ·simp only [mem_cons,not_mem_nil,not_or,or_false];exact k n c2 h2
section
variable {X:Cx} {a b e l:Expr} {es:List Expr} {pos:Pos}
def qjq {p pt:Pos} {k1:Nat} {ta:TA} (hg:Gl X "zip") (hm:X.mg "zip" = none) (ha:PA X [a,b] ta) (hs:starEach [a,b] X.env=[(false,eval a X.env),(false,eval b X.env)]:=by rfl) (hs2:starEach [b] X.env=[(false,eval b X.env)]:=by rfl) :
  PI X (.Tuple es k1 pt) (.Call (.Name "zip" p) [a,b] [] pos) (λσ H R=>ta σ H λvs H1=>∃ b1 b2 c1 c2 xs ys,vs=[.ref c1,.ref c2]/\SqB X.K b1 H1 c1 xs/\SqB X.K b2 H1 c2 ys/\R (Itz X.K b1 b2 c1 c2) H1):=by
 intro pins s σ H R I h;refine Call_ (SI I hg hm PyProof.Rows.boot_zip (PyProof.Rows.callWith_type1 (thn (ha pos pins s σ H _ I h) λus s1 ⟨vs,H1,I1,r1,q1⟩=>?_) (by rw [hs,hs2]) (by rw [hs2];rfl)));obtain ⟨b1,b2,c1,c2,xs,ys,rfl,sq1,sq2,q⟩:=q1;obtain ⟨u1,u2,rfl,e1,e2⟩:=M4 r1;cases (show u1=Value.ref c1 from e1);cases (show u2=Value.ref c2 from e2);obtain ⟨its1,rv1,l1,z1⟩:=sq1.get I1;obtain ⟨its2,rv2,l2,z2⟩:=sq2.get I1;refine qcy l1 l2 λh' st hk=>wpAny_pyIter_zip st.1 ?_;refine ⟨s1.heap.objs.size+4,[s1.heap.objs.size+4,s1.heap.objs.size+2,s1.heap.objs.size+3,s1.heap.objs.size,s1.heap.objs.size+1],_,_,H1,rfl,I1.kept (t':=s1.toks) hk,qcp (qjv (qiZ l1) (qiZ l2)),st,λc hc=>?_,q⟩;have hle:s1.heap.objs.size<=c:=by
  simp only [mem_cons,not_mem_nil,or_false] at hc;rcases hc with rfl|rfl|rfl|rfl|rfl<;>first|exact Nat.le_refl _|exact Nat.le_add_right _ _
 exact I1.fpOk hle (I1.hok.fresh hle)
end
def JS (G:Gp):T->Option (List T)
 |.tup xs=>some xs
 |.ref p=>getL G p
 |_=>none
def qde {K:Frg} {G0:Gp} {H0:Hp} {x:T} {v:V} {us:List T} (hr0:HR K G0 H0) (rx:Rp K H0 x v) (h:JS G0 x=some us) :
  ∃ b c,v=.ref c/\∀ G H,HR K G H->Kp G0 H0 G H->JS G x=some us->∃ vs,SqB K b H c vs/\Rps K H us vs:=by
 cases rx with
 |tup hs rs=>
  cases h;exact ⟨false,_,rfl,λG H hr k _=>⟨_,(RA hr0 k hs:SqT K H _ _),rs.keep hr0 k⟩⟩
 |ref a=>exact ⟨true,a,rfl,λG H hr k hq=>let ⟨vs,h1,h2⟩:=jT hr (show getL G a=some us from hq);⟨vs,h1,h2⟩⟩
 |_=>cases h
def qbQ (us vs:List T):List T:=(us.zip vs).map λp=>.tup [p.1,p.2]
def RE {us vs:List T} {i:Nat} {x:T} (h:(qbQ us vs)[i]?=some x):∃ a b,us[i]?=some a/\vs[i]?=some b/\x=.tup [a,b]:=by
 unfold qbQ at h;rw [getElem?_map] at h;cases e:(us.zip vs)[i]? with
 |none=>rw [e] at h;cases h
 |some p=>
  rw [e] at h;have:=List.getElem?_zip_eq_some.mp e;exact ⟨p.1,p.2,this.1,this.2,by simpa using h.symm⟩
def qku {K:Frg} {b1 b2:Bool} {c1 c2:Addr} {x y:T} {us vs:List T} {G0:Gp} {H0:Hp}
  (f1:∀ G H,HR K G H->Kp G0 H0 G H->JS G x=some us->∃ vs,SqB K b1 H c1 vs/\Rps K H us vs) (f2:∀ G H,HR K G H->Kp G0 H0 G H->JS G y=some vs->∃ ws,SqB K b2 H c2 ws/\Rps K H vs ws) :
  qjL K (Itz K b1 b2 c1 c2) (qbQ us vs) (λG=>JS G x=some us/\JS G y=some vs) G0 H0:=by
 intro G H hr k ⟨h1,h2⟩;obtain ⟨p,sp,rp⟩:=f1 G H hr k h1;obtain ⟨q,sq,rq⟩:=f2 G H hr k h2;refine ⟨λi z hz=>?_,λi z v H' hz hy=>?_,⟨p,q,sp,sq,?_⟩⟩
 ·obtain ⟨a,b,ha,hb,_⟩:=RE hz;obtain ⟨v,hv,_⟩:=rp.get ha;obtain ⟨w,hw,_⟩:=rq.get hb;exact ⟨p,q,v,w,sp,sq,hv,hw⟩
 ·obtain ⟨a,b,ha,hb,rfl⟩:=RE hz;obtain ⟨t,v1,v2,ht,rfl,rfl,g1,g2⟩:=hy;obtain ⟨v,hv,rv⟩:=rp.get ha;obtain ⟨w,hw,rw'⟩:=rq.get hb;have e1:=(g1 p sp).symm.trans hv;have e2:=(g2 q sq).symm.trans hw;obtain rfl:v1=v:=Option.some.inj e1;obtain rfl:v2=w:=Option.some.inj e2;have kk:Kp G H G (upd H t (.tup [v1,v2])):=Kp.laid ht;exact ⟨.tup (SqT.of zK) (.cons (rv.keep hr kk) (.cons (rw'.keep hr kk) .nil)),hr.laid ht,kk⟩
 ·rw [← rp.length,← rq.length,show (qbQ us vs).length=min us.length vs.length by simp [qbQ]];omega
def MT (ta:TA3):TI3:=λτ G r=>ta τ G λxs G1=>match xs with
 |[x,y]=>(match JS G1 x,JS G1 y with|some us,some vs=>r (qbQ us vs) (λG=>JS G x=some us/\JS G y=some vs) G1|_,_=>False)
 |_=>False
section
variable {X:Cx} {a b e l:Expr} {es:List Expr} {pos:Pos} {t:TA3}
def qm0 {p pt:Pos} {k1:Nat} (hg:Gl X "zip") (hm:X.mg "zip" = none) (ha:A3 X [a,b] t) (hs:starEach [a,b] X.env=[(false,eval a X.env),(false,eval b X.env)]:=by rfl) (hs2:starEach [b] X.env=[(false,eval b X.env)]:=by rfl) :
  I3 X (.Tuple es k1 pt) (.Call (.Name "zip" p) [a,b] [] pos) (MT t):=
 qnN (qjq hg hm ha hs hs2) λσ H R ⟨τ,G,r,rl,h,af⟩=>UF rl h λxs G1 h1 vs H1 rs hr1 k1 rl1=>by
  split at h1
  ·rename_i x y;split at h1
   ·rename_i us ws e1 e2;obtain ⟨v,u,rfl,r1,r2⟩:=qlH rs;obtain ⟨b1,c1,rfl,f1⟩:=qde hr1 r1 e1;obtain ⟨b2,c2,rfl,f2⟩:=qde hr1 r2 e2;obtain ⟨p,sp,_⟩:=f1 G1 H1 hr1 Kp.refl e1;obtain ⟨q,sq,_⟩:=f2 G1 H1 hr1 Kp.refl e2;exact ⟨b1,b2,c1,c2,p,q,rfl,sp,sq,af _ _ G1 h1 _ H1 hr1 k1 (qku f1 f2)⟩
   ·exact h1.elim
  ·exact h1.elim
def X2:List T->Gp->Q3->Prop:=λxs G q=>match xs with
 |[.ref p]=>(match getL G p with|some ys=>(match qdv ys with|some k=>q (.bl k) G|none=>False)|none=>False)
 |_=>False
def qbH {K:Frg} {H:Hp}:∀ {ys:List T} {vs:List V} {k:Bool},Rps K H ys vs->qdv ys=some k->∃ ks:List Bool,vs=ks.map V.bl/\ks.all id=k
 |_,_,_,.nil,h=>by cases h;exact ⟨[],rfl,rfl⟩
 |y::ys,_,k,.cons a b,h=>by
  unfold qdv at h;split at h
  ·rename_i e;cases e
  ·rename_i j r e;cases e;split at h
   ·rename_i i ei;obtain ⟨ks,rfl,hk⟩:=qbH b ei;cases a;cases h;exact ⟨j::ks,rfl,by rw [List.all_cons,hk];rfl⟩
   ·cases h
  ·cases h
def JZ {K:Frg}:KI K X2 (λxs H Q=>∃ (p:Addr) (ks:List Bool),xs=[.ref p]/\SqL K H p (ks.map V.bl)/\Q (.bl (ks.all id)) H):=λxs vs G H q Q hr rs h af=>by
 unfold X2 at h;split at h
 ·rename_i p;obtain ⟨v,rfl,r⟩:=T7 rs;cases r;split at h
  ·rename_i ys e0;split at h
   ·rename_i k e1;obtain ⟨us,hs,r2⟩:=jT hr e0;obtain ⟨ks,rfl,hk⟩:=qbH r2 e1;exact ⟨p,ks,rfl,hs,by rw [hk];exact af _ G h _ H (.bl _) hr Kp.refl⟩
   ·exact h.elim
  ·exact h.elim
 ·exact h.elim
end
def ql1:Value->Bool
 |.type t=>t == "list"
 |_=>false
def DU:List (Addr×Obj)->Bool
 |[]=>true
 |p::r=>if ql1 p.2.cls then false else DU r
def C5:∀ {K:List (Addr×Obj)} {a:Addr} {o:Obj},DU K=true->K.lookup a=some o->o.cls≠.type "list"
 |[],_,_,_,e=>by simp at e
 | (b,x)::r,a,o,h,e=>by
  unfold DU at h;split at h
  ·cases h
  ·rename_i hx;rw [List.lookup_cons] at e;split at e
   ·cases e;intro z;rw [z] at hx;exact hx rfl
   ·exact C5 h e
def MP {K:Frg} {H:Hp} {a:Addr} {ns:List Int} (hK:DU K=true) (hO:qlW H) (hS:SqL K H a (ns.map V.int)):∃ o,H a=some (.frz o (.lst (ns.map V.int))):=by
 rcases hS with (h|h)|⟨o,its,n,h1,h2,_⟩
 ·rcases hO a with z|⟨o,xs,z⟩<;>(rw [h] at z;cases z)
 ·exact h
 ·exact absurd h2 (C5 hK h1)
def only (a:Addr) (ns:List Int):Gp:=λb=>if b=a then some (.frz (ns.map T.int)) else none
def qf7 {K:Frg} {H:Hp} {a:Addr} {ns:List Int} (h:∃ o,H a=some (.frz o (.lst (ns.map V.int)))):HR K (only a ns) H:=λb o e=>by
 unfold only at e;split at e
 ·rename_i hb;subst hb;cases e;exact ⟨_,h,Rps.ints ns⟩
 ·cases e
def CU:Sp3:=λts G q=>∃ (a:Addr) (ns:List Int),ts=[.ref a]/\G a=some (.frz (ns.map T.int))/\ns.length<=63/\∀ G',q (.bl true) G'
def qm6 {l:PySem.W.OpenLaw} {k:Nat} {q:Program} {loose:List Str} {XP:(Str->Option Value)->Heap->Prop} {YP:World->Heap->Prop} {d:DefRec} {K:Params->PySem.W.Frag} {x:Str} (hn:l.most=some 63) (hdf:d.params.defaults=[]) (hr:Room k callerA)
  (hY:∀ (w:World) (h:Heap),YP w h->(K w.params).In h) (hK:∀ w:World,DU (K w.params)=true)
  (F:∀ (w:World) (mg:Str->Option Value) (fa:Addr) (h:Heap),(K w.params).In h->h.Ns mainGlobals mg->mg d.name=some (.ref fa) ->
   ∃ fd:FuncData,(∀ (s:Shared) (u:Value),BindsTo s fd ⟨[u],[]⟩ [(x,u)])/\∀ base:Heap,(K w.params).In base->base.Ns mainGlobals mg->FnOk l.prog w (K w.params) mg base CX0 k fa fd [x] (lSp (K w.params) CU)) :
  PySem.W.WalkO q loose XP YP l.row.toRowW d [] (λf vs=>PySem.call f vs):=
 L2.qf2 (n:=63) (k:=k) (x:=x) (CX:=λ_=>CX0) (sp:=λw=>lSp (K w.params) CU) hn (by decide) hdf hr hY F
  (λw H a ns hl hO hS=>⟨[.ref a],only a ns,λt _=>t=.bl true,qf7 (MP (hK w) hO hS),.cons (.ref a) .nil,⟨a,ns,rfl,by simp [only],hl,λ_=>rfl⟩,λt G' e v H' r _ _=>by subst e;cases r;rfl⟩) λ_ _ _ _ _ z=>z
def qgg {P:Program} {w:World} {K:Frg} {mg:Str->Option Value} {base:Heap} {x qual:Str} {st:Stmt} {f:Addr} {fd:FuncData} {N ps:List Str} {k:Nat} {sp:Sp3} {t3:TS3} (F:Fun K x qual st f fd) (S:FnScope N ps (qk st))
  (body:∀ (cdv:Value) (A:Around) (outer:List Env) (s:Shared) (H:Hp) (E:XK),Room k (A.deeper (envOfC qual (qk st) s.heap.objs.size f cdv)) ->
   B3 (qbU CX0 P w K mg base N qual (qk st) f cdv A outer s H E).nox (QF st) t3)
  (read:∀ ts G q,sp ts G q->ts.length=ps.length/\t3 { nx:=λ_ G'=>q .non G',rt:=q } (qt N ts) G):FnOk P w K mg base CX0 (k+1) f fd ps (lSp K sp):=by
 refine F.ok S (λvs H Q E ⟨ts,G,q,h1,h2,h3,h4⟩=>by rw [← h2.length];exact (read ts G q h3).1) λcdv A outer s H vs Q E hr ⟨ts,G,q,h1,h2,h3,h4⟩=>?_;refine ⟨_,body cdv A outer s H E hr,qt N ts,G,_,S0 h1 h2,(read ts G q h3).2,⟨λτ' G' h' σ' H' rl' k'=>h4 _ G' h' _ H' .non rl'.hp k',h4,λ_ _ z=>z.elim,λ_ _ z=>z.elim⟩⟩
section
variable {P:Program} {w:World} {A:Around} {s:Shared} {E:Value->Shared->Prop}
end
section
variable {X:Cx} {a b e l:Expr} {es:List Expr} {pos:Pos}
end
section
variable {X:Cx} {a b e l:Expr} {es:List Expr} {pos:Pos} {t:TA3}
end
section
variable {X:Cx} {a b c e:Expr} {es:List Expr} {ta tb tc te:TE3} {t:TA3} {pos:Pos}
def qkh (i:Nat) (r:R3) (te:TE3):TS3:=λd τ G=>match τ[i]? with
 |some (some x)=>te τ G λy G1=>r x y G1 λz G2=>d.nx (τ.set i (some z)) G2
 |_=>False
def T0:List T->Option (List Int)
 |[]=>some []
 |.int i::r=>(match T0 r with|some ns=>some (i::ns)|none=>none)
 |_=>none
def qaM (ns:List Int):T0 (ns.map T.int)=some ns:=by
 induction ns with
 |nil=>rfl
 |cons n r ih=>simp [T0,ih]
def LD:∀ {xs:List T} {ns:List Int},T0 xs=some ns->xs=ns.map T.int
 |[],_,h=>by simp [T0] at h;subst h;rfl
 |x::r,ns,h=>by
  unfold T0 at h;split at h
  ·rename_i e;cases e
  ·rename_i i r' e;cases e;split at h
   ·rename_i ms e2;cases h;rw [LD e2];rfl
   ·cases h
  ·cases h
def LW {K:Frg} {H:Hp}:∀ {ns:List Int} {vs:List V},Rps K H (ns.map T.int) vs->vs=ns.map V.int
 |[],_,r=>by cases r;rfl
 |n::ns,_,r=>by
  cases r with
  |cons a b=>cases a;rw [LW b];rfl
def qli:List T->Gp->Q3->Prop:=λxs G q=>match xs with
 |[.ref p]=>(match getL G p with|some ys=>(match qlS ys with|some k=>q (.bl k) G|none=>False)|none=>False)
 |_=>False
end
section
variable {X:Cx}
def qfb {elt tg iter:Expr} {ifs:List Expr} {scope:Scope} {pos cpos:Pos} {N':List Str} {m:List (Option Nat)} {wi:TI} {g:TG} {tif:TT} {te:TE} {use:Option (Value->Sem Unit)} {Qc:Value->Shared->Prop} {QD:Addr->Hp->Prop} (hc:X.calm=true) (hi:PI X tg iter wi)
  (hg:∀ s H fp,PG (qF X N' scope s H fp) tg g) (hf:∀ s H fp,PF (qF X N' scope s H fp) ifs tif) (he:∀ s H fp,PE (qF X N' scope s H fp) elt te)
  (hsc:qcO X.env.scope scope=true) (hcap:WE X.N N' scope m=true) (hs:∀ x,foldedSetIterable iter X.env x=pure x) {pins:List (Addr×Obj)} {s:Shared} {σ:L2.St} {H:Hp} (I:Inv X pins σ H s)
  (h:wi σ H λJ H1=>∀ D,H1 D=none ->
   ∃ W:Nat->Nat->L2.St->Hp->Prop,(∃ n,W 0 n (cap m σ) (upd H1 D (.lst [])))/\∀ i n σ H,W i n σ H ->
    (J.stop i H/\QD D H)\/(J.go i H/\∀ x H',J.yld i H x H'->g x σ H' λσ2 H2=>tif σ2 H2 λk H3=>
     if k=true then te σ2 H3 λy H4=>∃ zs,H4 D=some (.lst zs)/\zs.length<sizeLine/\∃ n',n'<n/\W (i+1) n' σ2 (upd H4 D (.lst (zs++[y])))
     else ∃ n',n'<n/\W (i+1) n' σ2 H3))
  (fin:∀ (D:Addr) (s3:Shared) (H3:Hp) (fp:List Addr) (s6:Shared) (H6:Hp) (σ6:L2.St) (r:Flow),Inv X pins σ H3 s3->(∀ b∈fp,LA X pins H3 b)->Inv (qF X N' scope s3 H3 fp) [] σ6 H6 s6->QD D H6->compPost (model X.prog X.w) X.A X.xe use Qc (.ref D) s3.heap.objs.size (.ok r) s6) :
  wpAny (model X.prog X.w) X.A (comprehension (.ListComp elt [⟨tg,iter,ifs,0⟩] scope pos) scope X.env cpos (newList []) false (eval iter X.env) use) Qc X.xe s:=by
 have sc:=CN hsc;have hcl:∀ y∈scope.names,y.2=.free->∃ c,X.env.cells.lookup y.1=some c:=λy hy e=>by
  rcases (sc.free y hy e).2 with z|z
  ·exact I.ok.has y.1 (.inl z)
  ·exact I.ok.has y.1 (.inr z)
 refine wpAny_comprehension_free (g:=⟨tg,iter,ifs,0⟩) (gs:=[]) rfl hs (EO hcl) sc.kind sc.loc ?_;show wpAny _ _ (eval iter X.env) _ _ s;refine thn (hi pins s σ H _ I h) λv s1 h1=>thn h1 λitv s2 h2=>?_;obtain ⟨it,fp,tn,J,H2,rfl,I2,T,st2,f2,hW⟩:=h2;refine wpAny_newObj_type ?_;have hD:H2 s2.heap.objs.size=none:=I2.fresh;obtain ⟨W,⟨n0,w0⟩,turn⟩:=hW _ hD;generalize hDe:s2.heap.objs.size=D at *;have I3:Inv X pins σ (upd H2 D (.lst [])) { s2 with heap:=s2.heap.push { cls:=.type "list",dict:=none,data:=.seq ([]:List Value).toArray } }:=by
  subst hDe;exact I2.laid (t':=s2.toks) (λb u e=>Heap.get?_push_of_some _ e) (Nat.le_refl _) ⟨Nat.zero_le _,[],0,.nil,Heap.get?_push_size _ rfl⟩
 have ob2:=T.obj 0 _ st2;have ob3:∀ b∈fp,∃ o,(s2.heap.push { cls:=.type "list",dict:=none,data:=.seq ([]:List Value).toArray }).get? b=some o:=λb hb=>let ⟨o,e,_⟩:=ob2 b hb;⟨o,Heap.get?_push_of_some _ e⟩
 have f3:∀ b∈fp,LA X pins (upd H2 D (.lst [])) b:=λb hb=>by
  obtain ⟨o,e,_⟩:=ob2 b hb;have:b≠D:=by rw [← hDe];exact Nat.ne_of_lt (Heap.lt_size e)
  exact ⟨by rw [zp this];exact (f2 b hb).1,(f2 b hb).2⟩
 have k23:∀ b o,s2.heap.get? b=some o->(s2.heap.push { cls:=.type "list",dict:=none,data:=.seq ([]:List Value).toArray }).get? b=some o:=λb o e=>Heap.get?_push_of_some _ e;generalize hH3:upd H2 D (.lst [])=H3 at *;generalize hs3:({ s2 with heap:=s2.heap.push { cls:=.type "list",dict:=none,data:=.seq ([]:List Value).toArray } }:Shared)=s3 at *;have ob3:∀ b∈fp,∃ o,s3.heap.get? b=some o:=by rw [← hs3];exact ob3
 have k23:∀ b o,s2.heap.get? b=some o->s3.heap.get? b=some o:=by rw [← hs3];exact k23
 refine Y9 λh₁ hns hk hown=>?_;have I4:Inv (qF X N' scope s3 H3 fp) [] (cap m σ) H3 { s3 with heap:=h₁ }:=LU hc I3 sc hcap f3 ob3 hns hk hown;have tn4:tn 0 h₁:=T.keep _ _ _ st2 λb hb o e=>hk b o (k23 b o e);have fr4:∀ b∈fp,H3 b=none:=λb hb=>(f3 b hb).1;have stat:∀ {H':Hp},(∀ b∈fp,H' b=none)->∀ b∈fp,LA (qF X N' scope s3 H3 fp) [] H' b:=λhn b hb=>by
  refine ⟨hn b hb,I4.ok.exf b hb |>.1,I4.ok.exfs b hb,.inl hb,λx c e=>(I4.ok.exf b hb).2 x c e,λp hp=>absurd (show p∈([]:List (Addr×Obj)) from hp) (by simp)⟩
 show codeAny (model X.prog X.w) X.A (.compStart (.ListComp elt [⟨tg,iter,ifs,0⟩] scope pos) 0 (.ref it) (.ref D) (qF X N' scope s3 H3 fp).env) (compPost (model X.prog X.w) X.A X.xe use Qc (.ref D) s3.heap.objs.size) { s3 with heap:=h₁ };have loop:codeAny (model X.prog X.w) X.A (.compLoop (.ListComp elt [⟨tg,iter,ifs,0⟩] scope pos) 0 (.ref it) (.ref D) (qF X N' scope s3 H3 fp).env) (compPost (model X.prog X.w) X.A X.xe use Qc (.ref D) s3.heap.objs.size) { s3 with heap:=h₁ }:=by
  refine codeAny_loop rfl (λn s'=>∃ i σ' H',Inv (qF X N' scope s3 H3 fp) [] σ' H' s'/\tn i s'.heap/\(∀ b∈fp,H' b=none)/\W i n σ' H') (λn s' hI=>?_) n0 ⟨0,cap m σ,H3,I4,tn4,fr4,w0⟩;show wpAny _ X.A ((compTurn (.ListComp elt [⟨tg,iter,ifs,0⟩] scope pos) 0 (.ref it) (.ref D) (qF X N' scope s3 H3 fp).env).onRaise (λx=>do noteFrame x (qF X N' scope s3 H3 fp).env;theTreesLotGoes x)) _ _ s';refine wpAny_noted ?_;rw [compTurn_list];refine wpAny_bind (wpAny_standAt (wpAny_bind ?_));obtain ⟨i,σ5,H5,I5,st5,fr5,w5⟩:=hI;rcases turn i n σ5 H5 w5 with ⟨stop,q⟩|⟨go,step⟩
  ·refine thn (T.done (qF X N' scope s3 H3 fp) rfl rfl rfl rfl i [] s' σ5 H5 _ I5 (stat fr5) st5 stop) λr s6 ⟨hr,I6⟩=>?_;subst hr;refine wpAny_pure ?_;exact fin D s3 H3 fp s6 H5 σ5 _ I3 f3 I6 q
  ·refine thn (T.item (qF X N' scope s3 H3 fp) rfl rfl rfl rfl i [] s' σ5 H5 _ I5 (stat fr5) st5 go) λr s6 ⟨u,hr,h6⟩=>?_;subst hr;refine wpAny_bind (thn h6 λ_ s7 ⟨x,H7,I7,r7,y7,st7,fr7⟩=>?_);have I7':=I7.pinned (stat fr7) (T.obj _ _ st7);have again:∀ {σ8:L2.St} {H8:Hp} {s8:Shared},Inv (qF X N' scope s3 H3 fp) ([]++C0 fp s7.heap) σ8 H8 s8->(∃ n',n'<n/\W (i+1) n' σ8 H8) ->
     ∃ m',m'<n/\∃ i σ' H',Inv (qF X N' scope s3 H3 fp) [] σ' H' s8/\tn i s8.heap/\(∀ b∈fp,H' b=none)/\W i m' σ' H':=λ{σ8 H8 s8} I8 ⟨n',hn,w8⟩=>by
    refine ⟨n',hn,i+1,σ8,H8,I8.unpinned,T.keep _ _ _ st7 λb hb o e=>(I8.pin (b,o) (mem_append_right _ (mem_append_right _ (ZY hb e)))).1,λb hb=>?_,w8⟩;obtain ⟨o,e,d⟩:=T.obj _ _ st7 b hb;exact (I8.pin (b,o) (mem_append_right _ (mem_append_right _ (ZY hb e)))).2.1
   refine wpAny_bind (wpAny_mono (hg s3 H3 fp _ s7 σ5 H7 x u _ I7' r7 (step x H7 y7)) (λ_ s8 ⟨σ8,H8,I8,q8⟩=>?_) λ_ _ z=>z.elim);refine wpAny_bind (wpAny_mono (hf s3 H3 fp _ s8 σ8 H8 _ I8 q8) (λk s9 ⟨H9,I9,q9⟩=>?_) λ_ _ z=>z.elim);cases k with
   |false=>
    rw [if_neg Bool.false_ne_true] at q9;exact wpAny_pure ⟨rfl,again I9 q9⟩
   |true=>
    rw [if_pos rfl] at q9;refine wpAny_bind (wpAny_bind (wpAny_mono (he s3 H3 fp _ s9 σ8 H9 _ I9 q9) (λw s10 ⟨y,H10,I10,r10,q10⟩=>?_) λ_ _ z=>z.elim));obtain ⟨zs,hz,hl,q10⟩:=q10;refine wpAny_bind (wpAny_mono (XX (X:=qF X N' scope s3 H3 fp) _ s10 σ8 H10 (.ref D) [y] (.ref D) [w] (λ_ H11=>H11=upd H10 D (.lst (zs++[y]))) I10 rfl (.cons r10 .nil) ⟨D,zs,y,rfl,rfl,hz,hl,rfl⟩) (λ_ s11 ⟨_,H11,I11,_,e11⟩=>?_) λ_ _ z=>z.elim);subst e11;exact wpAny_pure (wpAny_pure ⟨rfl,again I11 q10⟩)
 exact codeAny_compStart_list loop (T.self X.A 0 _ _ _ tn4 loop)
def qcN {i:Nat} {y:Str} {py spos:Pos} {elt tg iter:Expr} {ifs:List Expr} {scope:Scope} {pos:Pos} {N':List Str} {m:List (Option Nat)} {wi:TI} {g:TG} {tif:TT} {te:TE} (hc:X.calm=true) (hN:X.N.Nodup) (hi:PI X tg iter wi)
  (hg:∀ s H fp,PG (qF X N' scope s H fp) tg g) (hf:∀ s H fp,PF (qF X N' scope s H fp) ifs tif) (he:∀ s H fp,PE (qF X N' scope s H fp) elt te)
  (hsc:qcO X.env.scope scope=true) (hcap:WE X.N N' scope m=true) (hs:∀ x,foldedSetIterable iter X.env x=pure x) (hiy:X.N[i]?=some y) (hl:X.env.scope.names.lookup y=some .local)
  (hsw:swapsWith (.ListComp elt [⟨tg,iter,ifs,0⟩] scope pos) (some (.Name y py)) spos.line X.env=pure true) :
  PS X (.Assign [.Name y py] (.ListComp elt [⟨tg,iter,ifs,0⟩] scope pos) spos) (qmJ (tLC wi g tif te m) (qfD i)):=by
 intro pins s σ H D I h;rw [exec_Assign_Name_used _ _ _ _ hsw];refine wpAny_bind (wpAny_standAt (wpAny_bind ?_));show wpAny _ X.A (do let _←comprehension (.ListComp elt [⟨tg,iter,ifs,0⟩] scope pos) scope X.env _ (newList []) false (eval iter X.env) (some (assign (.Name y py) X.env))) _ _ s;refine wpAny_bind (wpAny_mono (qfb (use:=some (assign (.Name y py) X.env)) (QD:=λD' H'=>D.nx (σ.set i (some (.ref D'))) H') (Qc:=λ_ s'=>∃ σ' H',Inv X pins σ' H' s'/\D.nx σ' H') hc hi hg hf he hsc hcap hs I h λD' s3 H3 fp s6 H6 σ6 r I3 f3 I6 q=>?_) (λ_ s' hq=>wpAny_pure (wpAny_pure hq)) λ_ _ e=>e);have I7:Inv X pins σ H6 s6:=C7 (h2:=s6.heap) I3 f3 I6 ⟨rfl,λ_ _=>rfl⟩;obtain ⟨mm,hn6,_⟩:=I6.loc;have hfC:LA X pins H6 s3.heap.objs.size:=I3.fpOk (Nat.le_refl _) I6.free;obtain ⟨f0,f1,f2,f3',f4,f5⟩:=hfC;show wpAny _ X.A (assign (.Name y py) X.env (.ref D')) _ _ _;refine wpAny_assign_Name (SK I7 hN hiy (.inl hl) (v:=.ref D') rfl (λs8 I8 hch=>?_) (.inr hl));obtain ⟨a,sb,ha⟩:=hch;have hne:s3.heap.objs.size≠a:=by
  rcases ha with rfl|ha
  ·exact f1
  ·exact Ne.symm (f4 _ _ ha)
 refine ⟨mm,hn6.sameBut sb hne,λh' sb'=>⟨_,_,I8.turned (t':=s8.toks) (λb o hb e=>(sb'.2 b hb).trans e) f0 f1 f3' f4 f5,q⟩⟩
end
def qml {K:Frg} {m:List (Option Nat)} {wi:TI3} {g:TG3} {tif:TT3} {te:TE3} {σ:L2.St} {H:Hp} {Q:VK} (hh:lE K (lc3 wi g tif te m) σ H Q):tLC (lI K wi) (lG K g) (lT K tif) (lE K te) m σ H Q:=by
  obtain ⟨τ,G,q,rl,h,af⟩:=hh;refine ⟨τ,G,_,rl,h,λitems stay G1 h1 J H1 hr1 k1 ok D hD=>?_⟩;have gD:G1 D=none:=hr1.free hD;refine ⟨λi n σ' H'=>n=items.length-i/\i<=items.length/\∃ τ' G' ys vs,Rel K τ' G' σ' H'/\Kp G1 H1 G' H'/\H' D=some (.lst vs)/\Rps K H' ys vs/\G' D=none/\CS stay g tif te q (items.drop i) ys τ' G',
   ⟨_,rfl,Nat.zero_le _,cap m τ,G1,[],[],((rl.next hr1 k1).cap m).next (hr1.laid hD) (Kp.laid hD),Kp.laid hD,zK,.nil,gD,by simpa using h1⟩,?_⟩
  rintro i n σ' H' ⟨rfl,hi,τ',G',ys,vs,rl',k',hDl,rys,gD',h'⟩;by_cases hlt:i<items.length
  ·rw [List.drop_eq_getElem_cons hlt] at h';obtain ⟨hst,h'⟩:=h';obtain ⟨go,yld,_⟩:=ok G' H' rl'.hp k' hst;have hx:items[i]?=some items[i]:=getElem?_eq_getElem hlt;refine .inr ⟨go i _ hx,λv H2 y=>?_⟩;obtain ⟨rv,hr2,k2⟩:=yld i _ v H2 hx y;have nxt:∀ {τ4:St3} {G4:Gp} {σ4:L2.St} {H4:Hp} {ys4:List T} {vs4:List V},Rel K τ4 G4 σ4 H4->Kp G1 H1 G4 H4->H4 D=some (.lst vs4)->Rps K H4 ys4 vs4->G4 D=none->CS stay g tif te q (items.drop (i+1)) ys4 τ4 G4 ->
     ∃ n',n'<items.length-i/\(n'=items.length-(i+1)/\i+1<=items.length/\∃ τ' G' ys vs,Rel K τ' G' σ4 H4/\Kp G1 H1 G' H4/\H4 D=some (.lst vs)/\Rps K H4 ys vs/\G' D=none/\CS stay g tif te q (items.drop (i+1)) ys τ' G'):=
    λ{τ4 G4 σ4 H4 ys4 vs4} a b c d e f=>⟨_,by omega,rfl,hlt,τ4,G4,ys4,vs4,a,b,c,d,e,f⟩
   refine ⟨_,τ',G',_,rv,rl'.next hr2 k2,h',λτ3 G3 h3 σ3 H3 rl3 k3=>⟨τ3,G3,_,rl3,h3,λk G4 h4 H4 hr4 k4=>?_⟩⟩;have kk:=(k2.trans k3).trans k4;obtain ⟨hD4,gD4⟩:=kk D _ hDl gD';have rys4:=rys.keep rl'.hp kk;cases k with
   |false=>
    rw [if_neg Bool.false_ne_true] at h4;refine qom ?_;exact nxt (rl3.next hr4 k4) (k'.trans kk) hD4 rys4 gD4 h4
   |true=>
    rw [if_pos rfl] at h4;refine qoC ?_;refine ⟨τ3,G4,_,rl3.next hr4 k4,h4,λz G5 h5 w H5 rw5 hr5 k5=>?_⟩;obtain ⟨hD5,gD5⟩:=k5 D _ hD4 gD4;have rys5:=rys4.keep hr4 k5;exact ⟨vs,hD5,by rw [← rys.length];exact h5.1,nxt (((rl3.next hr4 k4).next hr5 k5).wrD hD5 gD5) (((k'.trans kk).trans k5).wrD hD) zK ((rys5.append (.cons rw5 .nil)).wrD hD5) gD5 h5.2⟩
  ·have e:i=items.length:=by omega
   subst e;rw [List.drop_length] at h';obtain ⟨_,_,stop⟩:=ok G' H' rl'.hp k' h'.1;refine .inl ⟨stop,af _ _ (h'.2 D gD') _ H' (.ref D) (λa o e=>?_) λa o e ga=>?_⟩
   ·by_cases ha:a=D
    ·subst ha;rw [qL] at e;cases e;exact ⟨vs,hDl,rys⟩
    ·rw [ZW ha] at e;exact rl'.hp a o e
   ·obtain ⟨e1,g1⟩:=k1 a o e ga;obtain ⟨e2,g2⟩:=k' a o e1 g1;exact ⟨e2,by rw [ZW (qU e1 hD)];exact g2⟩
def qfE {X:Cx} {py spos:Pos} {elt tg iter:Expr} {ifs:List Expr} {scope:Scope} {pos:Pos} {y:Str} (i:Nat) (N':List Str) (m:List (Option Nat)) {wi:TI3} {g:TG3} {tif:TT3} {te:TE3} (hc:X.calm=true) (hN:X.N.Nodup) (hi:I3 X tg iter wi)
  (hg:∀ s H fp,G3 (qF X N' scope s H fp) tg g) (hf:∀ s H fp,F3 (qF X N' scope s H fp) ifs tif) (he:∀ s H fp,E3 (qF X N' scope s H fp) elt te)
  (hsc:qcO X.env.scope scope=true) (hcap:WE X.N N' scope m=true) (hl:X.env.scope.names.lookup y=some .local) (hsw:swapsWith (.ListComp elt [⟨tg,iter,ifs,0⟩] scope pos) (some (.Name y py)) spos.line X.env=pure true) (hiy:X.N[i]?=some y:=by rfl) (hs:∀ x,foldedSetIterable iter X.env x=pure x:=by intro _;rfl) :
  S3 X (.Assign [.Name y py] (.ListComp elt [⟨tg,iter,ifs,0⟩] scope pos) spos) (zw (lc3 wi g tif te m) (gn3 i)):=
 qbR (qcN (g:=lG X.K g) (tif:=lT X.K tif) (te:=lE X.K te) hc hN hi hg hf he hsc hcap hs hiy hl hsw) λ_ σ H ⟨τ,G,d,rl,h,af⟩=>
  qml ⟨τ,G,_,rl,h,λx G1 h1 v H1 rx hr1 k1=>af.nx _ G1 h1 _ H1 ((rl.next hr1 k1).set i rx) k1⟩
end L3
set_option autoImplicit true
namespace L3
open PySem PySem.Spec PyProof.Rows L2
structure jE3 (X:Cx) (e:Expr) (t:TE3):Prop where h:E3 X e t
structure jC3 (X:Cx) (e:Expr) (t:TT3):Prop where h:C3 X e t
structure jW3 (X:Cx) (e:Expr) (t:TT3):Prop where h:W3 X e t
structure jA3 (X:Cx) (e:List Expr) (t:TA3):Prop where h:A3 X e t
structure jP3 (X:Cx) (e:Option Expr) (t:TO3):Prop where h:P3 X e t
structure jS3 (X:Cx) (e:Stmt) (t:TS3):Prop where h:S3 X e t
structure jB3 (X:Cx) (e:List Stmt) (t:TS3):Prop where h:B3 X e t
structure jG3 (X:Cx) (e:Expr) (t:TG3):Prop where h:G3 X e t
structure jGs3 (X:Cx) (e:List Expr) (t:TY):Prop where h:Gs3 X e t
structure jI3 (X:Cx) (tg e:Expr) (t:TI3):Prop where h:I3 X tg e t
structure jF3 (X:Cx) (e:List Expr) (t:TT3):Prop where h:F3 X e t
def qb {X:Cx} (i:Nat) {x:Str} {pos:Pos} (hN:X.N[i]?=some x:=by rfl) (hv:Vis X.env.scope x:=by first|exact Or.inl rfl|exact Or.inr (Or.inl rfl)|exact Or.inr (Or.inr rfl)) (hd:(x==("__debug__" : Str))=false:=by decide)
  (hcd:(x==("__classdict__" : Str))=false:=by decide):jE3 X (.Name x pos) (v3 i):=
 ⟨qma (i:=i) (hN:=hN) (hv:=hv) (hd:=hd) (hcd:=hcd)⟩
def qd {X:Cx} {i:Int} {j pos}:jE3 X (.Constant (.int i) j pos) (c3 (.int i)):=
 ⟨qnf ⟩
def J8 {X:Cx} {b:Bool} {j pos}:jE3 X (.Constant (.bool b) j pos) (c3 (.bl b)):=
 ⟨qpL ⟩
def S4 {X:Cx} {j pos}:jE3 X (.Constant .none j pos) (c3 .non):=
 ⟨qnJ ⟩
def qI {X:Cx} {x:Str} {j pos}:jE3 X (.Constant (.str x) j pos) (c3 (.str x)):=
 ⟨qmx ⟩
def zC {ta:TE3} {tb:TE3} {pos:Pos} {a:Expr} {b:Expr} {X:Cx} {op:CmpOp} {r3:R3} {r:R2} (ho:OpR X (compareOp op) r) (hr:XT X.K r3 r) (ha:jE3 X a ta) (hb:jE3 X b tb) (hm:behindInMarks op b=false):jE3 X (.Compare a [op] [b] pos) (o3 r3 ta tb):=
 ⟨qni (ho:=ho) (hr:=hr) (ha:=ha.h) (hb:=hb.h) (hm:=hm)⟩
def qx {ta:TE3} {tb:TE3} {pos:Pos} {a:Expr} {b:Expr} {X:Cx} {op:CmpOp} {r3:R3} {r:R2} (ho:OpR X (compareOp op) r) (hr:XT X.K r3 r) (ha:jE3 X a ta) (hb:jE3 X b tb) (hm:behindInMarks op b=false):jC3 X (.Compare a [op] [b] pos) (tb3 (o3 r3 ta tb)):=
 ⟨qmM (ho:=ho) (hr:=hr) (ha:=ha.h) (hb:=hb.h) (hm:=hm)⟩
def qkX {ta:TE3} {tb:TE3} {pos:Pos} {a:Expr} {b:Expr} {X:Cx} (ha:jE3 X a ta) (hb:jE3 X b tb):jE3 X (.BinOp a .Sub b pos) (o3 (iI (·-·)) ta tb):=
 ⟨qnL (ha:=ha.h) (hb:=hb.h)⟩
def ZJ {ta:TE3} {tb:TE3} {pos:Pos} {a:Expr} {b:Expr} {X:Cx} (ha:jE3 X a ta) (hb:jE3 X b tb):jE3 X (.BinOp a .Mult b pos) (o3 (iC V9 (·*·)) ta tb):=
 ⟨qnv (ha:=ha.h) (hb:=hb.h)⟩
def UG {ta:TE3} {tb:TE3} {pos:Pos} {a:Expr} {b:Expr} {X:Cx} (ha:jE3 X a ta) (hb:jE3 X b tb):jE3 X (.BinOp a .Mod b pos) (o3 (iC (λ_ j=>0<j) (·%·)) ta tb):=
 ⟨qmK (ha:=ha.h) (hb:=hb.h)⟩
def LV {ta:TE3} {tb:TE3} {pos:Pos} {a:Expr} {b:Expr} {X:Cx} (ha:jE3 X a ta) (hb:jE3 X b tb):jE3 X (.BinOp a .FloorDiv b pos) (o3 (iC qfW (·/·)) ta tb):=
 ⟨qmA (ha:=ha.h) (hb:=hb.h)⟩
def qj0 {ta:TE3} {tb:TE3} {pos:Pos} {a:Expr} {b:Expr} {X:Cx} (ha:jE3 X a ta) (hb:jE3 X b tb):jE3 X (.BinOp a .Pow b pos) (o3 (iC TW (λi j=>i ^ j.toNat)) ta tb):=
 ⟨qnm (ha:=ha.h) (hb:=hb.h)⟩
def qbi {ta:TE3} {tb:TE3} {pos:Pos} {a:Expr} {b:Expr} {X:Cx} (ha:jE3 X a ta) (hb:jE3 X b tb):jE3 X (.BinOp a .LShift b pos) (o3 (iC TW (λi j=>i*2 ^ j.toNat)) ta tb):=
 ⟨qmP (ha:=ha.h) (hb:=hb.h)⟩
def D8 {ta:TE3} {pos:Pos} {a:Expr} {X:Cx} (ha:jE3 X a ta):jE3 X (.UnaryOp .USub a pos) (u3 XZ ta):=
 ⟨qmm (ha:=ha.h)⟩
def XH {tA:TT3} {pos:Pos} {a:Expr} {X:Cx} (ha:jC3 X a tA):jW3 X (.BoolOp .And [a] pos) tA:=
 ⟨qir (ha:=ha.h)⟩
def ZL {tA:TT3} {pos:Pos} {a:Expr} {X:Cx} (ha:jC3 X a tA):jW3 X (.BoolOp .Or [a] pos) tA:=
 ⟨qnz (ha:=ha.h)⟩
def XB {J0:List Expr} {tA:TT3} {tB:TT3} {pos:Pos} {a:Expr} {X:Cx} (ha:jC3 X a tA) (hb:jW3 X (.BoolOp .And (b::J0) pos) tB):jW3 X (.BoolOp .And (a::b::J0) pos) (TB tA tB):=
 ⟨qm8 (ha:=ha.h) (hb:=hb.h)⟩
def JW {J0:List Expr} {tA:TT3} {tB:TT3} {pos:Pos} {a:Expr} {X:Cx} (ha:jC3 X a tA) (hb:jW3 X (.BoolOp .Or (b::J0) pos) tB):jW3 X (.BoolOp .Or (a::b::J0) pos) (or3 tA tB):=
 ⟨qo9 (ha:=ha.h) (hb:=hb.h)⟩
def jD {tA:TT3} {pos:Pos} {a:Expr} {X:Cx} (ha:jC3 X a tA):jC3 X (.UnaryOp .Not a pos) (UE tA):=
 ⟨qnx (ha:=ha.h)⟩
def zG {X:Cx} {e:Expr} {t:TE3} (h:jE3 X e t) (he:∀ whole,isTrue e X.env whole=(do let v←whole;standAt e.pos;holding [v] (truthy v)):=by intro _;rfl):jC3 X e (tb3 t):=
 ⟨qmq (h:=h.h) (he:=he)⟩
def ZF {ta:TE3} {pos:Pos} {a:Expr} {X:Cx} {op} (h:jE3 X a ta):jE3 X (.BoolOp op [a] pos) ta:=
 ⟨qnW (h:=h.h)⟩
def zV {J0:List Expr} {ta:TE3} {tb:TE3} {pos:Pos} {a:Expr} {X:Cx} (ha:jE3 X a ta) (hb:jE3 X (.BoolOp .And (b::J0) pos) tb):jE3 X (.BoolOp .And (a::b::J0) pos) (ji ta tb):=
 ⟨qmX (ha:=ha.h) (hb:=hb.h)⟩
def qaE {ta:TE3} {pos:Pos} {a:Expr} {X:Cx} (ha:jE3 X a ta):jE3 X (.UnaryOp .Not a pos) (XG ta):=
 ⟨qmF (ha:=ha.h)⟩
def qgs {tA:TT3} {ta:TE3} {tb:TE3} {pos:Pos} {a:Expr} {b:Expr} {X:Cx} {c:Expr} (hc:jC3 X c tA) (ha:jE3 X a ta) (hb:jE3 X b tb):jE3 X (.IfExp c a b pos) (if3 tA ta tb):=
 ⟨qo6 (hc:=hc.h) (ha:=ha.h) (hb:=hb.h)⟩
def qe {X:Cx} :jA3 X [] qi:=
 ⟨qmT ⟩
def qa {te:TE3} {t:TA3} {es:List Expr} {X:Cx} (ha:jE3 X e te) (hr:jA3 X es t) (hs:starEach (e::es) X.env=(false,eval e X.env)::starEach es X.env:=by rfl):jA3 X (e::es) (qc te t):=
 ⟨qiY (ha:=ha.h) (hr:=hr.h) (hs:=hs)⟩
def qK {t:TA3} {pos:Pos} {es:List Expr} {X:Cx} {x1} (h:jA3 X es t):jE3 X (.Tuple es x1 pos) (ju t):=
 ⟨qnU (h:=h.h)⟩
def JB {t:TA3} {pos:Pos} {es:List Expr} {X:Cx} (h:jA3 X es t):jE3 X (.List es pos) (VO t):=
 ⟨qmr (h:=h.h)⟩
def qq {t:TA3} {pos:Pos} {es:List Expr} {X:Cx} {x:Str} {p:Pos} {id:String} {r3:List T->Gp->Q3->Prop} {r:List V->Hp->VK->Prop} (hc:JU X (.builtin id) r) (hr:KI X.K r3 r) (hg:Gl X x) (hm:X.mg x=none) (hv:bootBuiltins x=some (.builtin id)) (ha:jA3 X (e::es) t) (hn:x≠"__name__" := by decide) (hdb:(x==("__debug__" : Str))=false:=by decide)
  (he:starEach (e::es) X.env=(false,eval e X.env)::starEach es X.env:=by rfl) (hpl:(backTo pos (starEach es X.env)).any (·.1)=false:=by rfl):jE3 X (.Call (.Name x p) (e::es) [] pos) (cb3 r3 t):=
 ⟨qfQ (hc:=hc) (hr:=hr) (hg:=hg) (hm:=hm) (hv:=hv) (ha:=ha.h) (hn:=hn) (hdb:=hdb) (he:=he) (hpl:=hpl)⟩
def jr {t:TA3} {pos:Pos} {es:List Expr} {X:Cx} {x:Str} {p:Pos} {ty:String} {r3:List T->Gp->Q3->Prop} {r:List V->Hp->VK->Prop} (hc:JU X (.type ty) r) (hr:KI X.K r3 r) (hg:Gl X x) (hm:X.mg x=none) (hv:bootBuiltins x=some (.type ty)) (ha:jA3 X (e::es) t) (hn:x≠"__name__" := by decide) (hdb:(x==("__debug__" : Str))=false:=by decide)
  (he:starEach (e::es) X.env=(false,eval e X.env)::starEach es X.env:=by rfl) (hpl:(backTo pos (starEach es X.env)).any (·.1)=false:=by rfl):jE3 X (.Call (.Name x p) (e::es) [] pos) (cb3 r3 t):=
 ⟨qb6 (hc:=hc) (hr:=hr) (hg:=hg) (hm:=hm) (hv:=hv) (ha:=ha.h) (hn:=hn) (hdb:=hdb) (he:=he) (hpl:=hpl)⟩
def qB {ta:TE3} {tb:TE3} {pos:Pos} {a:Expr} {b:Expr} {X:Cx} (ha:jE3 X a ta) (hb:jE3 X b tb) (hs:R7 b:=by intro _ _;rfl):jE3 X (.Subscript a b pos) (o3 ix3 ta tb):=
 ⟨qpk (ha:=ha.h) (hb:=hb.h) (hs:=hs)⟩
def zH {X:Cx} :jP3 X none np3:=
 ⟨qjN ⟩
def qN {te:TE3} {e:Expr} {X:Cx} (h:jE3 X e te):jP3 X (some e) (sp3 te):=
 ⟨qjo (h:=h.h)⟩
def jB {te:TE3} {pos:Pos} {e:Expr} {X:Cx} {lo hi:Option Expr} {tl th:TO3} {p2:Pos} (he:jE3 X e te) (hl:jP3 X lo tl) (hu:jP3 X hi th):jE3 X (.Subscript e (.Slice lo hi none p2) pos) (CA te tl th):=
 ⟨qgy (he:=he.h) (hl:=hl.h) (hu:=hu.h)⟩
def zf {ta:TE3} {tb:TE3} {pos:Pos} {a:Expr} {b:Expr} {X:Cx} (ha:jE3 X a ta) (hb:jE3 X b tb):jE3 X (.BinOp a .Add b pos) (o3 j5 ta tb):=
 ⟨qiz (ha:=ha.h) (hb:=hb.h)⟩
def TC {t:TA3} {e:Expr} {X:Cx} {o:Expr} {to:TE3} {apos cpos:Pos} (ho:jE3 X o to) (ha:jA3 X [e] t)
  (hbase:attributeBase o "append" X.env (eval o X.env)=eval o X.env:=by rfl)
  (hfew:((backTo cpos (starEach [e] X.env)).all (λx=>!x.1)&&(backToKw cpos (keywordEach [] X.env)).all (λx=>x.1.isSome)
   && decide (([e]:List Expr).length+([]:List Keyword).length+(if ([]:List Keyword).isEmpty then 0 else 1)<30))=true:=by rfl)
  (hline:(apos.endLine==cpos.line)=true:=by rfl) (hs:starEach [e] X.env=(false,eval e X.env)::starEach [] X.env:=by rfl) (hplain:(backTo cpos (starEach [] X.env)).any (·.1)=false:=by rfl):jE3 X (.Call (.Attribute o "append" apos) [e] [] cpos) (bm3 NT to t):=
 ⟨qcl (ho:=ho.h) (ha:=ha.h) (hbase:=hbase) (hfew:=hfew) (hline:=hline) (hs:=hs) (hplain:=hplain)⟩
def zU {te:TE3} {pos:Pos} {e:Expr} {X:Cx} {tn:Str} {ty:String} {p p2:Pos} (he:jE3 X e te) (hg:Gl X "isinstance") (hm:X.mg "isinstance" = none) (hg2:Gl X tn) (hm2:X.mg tn=none) (hv:bootBuiltins tn=some (.type ty)) (hmem:ty∈JG:=by decide) (hn:tn≠"__name__" := by decide) (hdb:(tn==("__debug__" : Str))=false:=by decide)
  (hs:starEach [e,.Name tn p2] X.env=(false,eval e X.env)::starEach [.Name tn p2] X.env:=by rfl) (hs2:starEach [.Name tn p2] X.env=(false,eval (.Name tn p2) X.env)::starEach [] X.env:=by rfl) (hpl:(backTo pos (starEach [.Name tn p2] X.env)).any (·.1)=false:=by rfl):jE3 X (.Call (.Name "isinstance" p) [e,.Name tn p2] [] pos) (J1 (λt=>zA t ty) te):=
 ⟨qnM (he:=he.h) (hg:=hg) (hm:=hm) (hg2:=hg2) (hm2:=hm2) (hv:=hv) (hmem:=hmem) (hn:=hn) (hdb:=hdb) (hs:=hs) (hs2:=hs2) (hpl:=hpl)⟩
def qa0 {te:TE3} {pos:Pos} {e:Expr} {X:Cx} {tn tn':Str} {ty ty':String} {p p2 p3 p4:Pos} {x1} (he:jE3 X e te) (hg:Gl X "isinstance") (hm:X.mg "isinstance" = none) (hg2:Gl X tn) (hm2:X.mg tn=none) (hv:bootBuiltins tn=some (.type ty)) (hg3:Gl X tn') (hm3:X.mg tn'=none) (hv3:bootBuiltins tn'=some (.type ty'))
  (hmem:ty∈JG:=by decide) (hn:tn≠"__name__" := by decide) (hdb:(tn==("__debug__" : Str))=false:=by decide) (hmem3:ty'∈JG:=by decide) (hn3:tn'≠"__name__" := by decide) (hdb3:(tn'==("__debug__" : Str))=false:=by decide)
  (hs:starEach [e,.Tuple [.Name tn p2,.Name tn' p3] x1 p4] X.env=(false,eval e X.env)::starEach [.Tuple [.Name tn p2,.Name tn' p3] x1 p4] X.env:=by rfl) (hs2:starEach [.Tuple [.Name tn p2,.Name tn' p3] x1 p4] X.env=(false,eval (.Tuple [.Name tn p2,.Name tn' p3] x1 p4) X.env)::starEach [] X.env:=by rfl)
  (hs3:starEach [.Name tn p2,.Name tn' p3] X.env=(false,eval (.Name tn p2) X.env)::starEach [.Name tn' p3] X.env:=by rfl) (hs4:starEach [.Name tn' p3] X.env=(false,eval (.Name tn' p3) X.env)::starEach [] X.env:=by rfl)
  (hpl:(backTo pos (starEach [.Tuple [.Name tn p2,.Name tn' p3] x1 p4] X.env)).any (·.1)=false:=by rfl):jE3 X (.Call (.Name "isinstance" p) [e,.Tuple [.Name tn p2,.Name tn' p3] x1 p4] [] pos) (J1 (λt=>zA t ty||zA t ty') te):=
 ⟨qjg (he:=he.h) (hg:=hg) (hm:=hm) (hg2:=hg2) (hm2:=hm2) (hv:=hv) (hg3:=hg3) (hm3:=hm3) (hv3:=hv3) (hmem:=hmem) (hn:=hn) (hdb:=hdb) (hmem3:=hmem3) (hn3:=hn3) (hdb3:=hdb3) (hs:=hs) (hs2:=hs2) (hs3:=hs3) (hs4:=hs4) (hpl:=hpl)⟩
def qz {X:Cx} :jB3 X [] qy:=
 ⟨qmv ⟩
def qf {J0:List Stmt} {st:Stmt} {t1:TS3} {t2:TS3} {X:Cx} (h1:jS3 X st t1) (h2:jB3 X J0 t2):jB3 X (st::J0) (qH t1 t2):=
 ⟨qkg (h1:=h1.h) (h2:=h2.h)⟩
def qm {st:Stmt} {t1:TS3} {X:Cx} (h1:jS3 X st t1):jB3 X [st] t1:=
 ⟨qna (h1:=h1.h)⟩
def qam {te:TE3} {pos:Pos} {e:Expr} {X:Cx} (he:jE3 X e te) (hs:swapsWith e none pos.line X.env=pure false:=by rfl):jS3 X (.Expr e pos) (CD te):=
 ⟨qic (he:=he.h) (hs:=hs)⟩
def qp {te:TE3} {pos:Pos} {e:Expr} {X:Cx} (he:jE3 X e te):jS3 X (.Return (some e) pos) (qV te):=
 ⟨qnS (he:=he.h)⟩
def ze {tA:TT3} {t1:TS3} {t2:TS3} {pos:Pos} {X:Cx} {c:Expr} {ba bb:List Stmt} (hc:jC3 X c tA) (ha:jB3 X ba t1) (hb:jB3 X bb t2):jS3 X (.If c ba bb pos) (zJ tA t1 t2):=
 ⟨qpK (hc:=hc.h) (ha:=ha.h) (hb:=hb.h)⟩
def qO {pos:Pos} {X:Cx} {i:Nat} {x:Str} (hN:X.N.Nodup) (hi:X.N[i]?=some x:=by rfl) (hx:Loc X.env.scope x:=by first|exact Or.inl rfl|exact Or.inr rfl) (hf:X.fn x=true\/X.env.scope.names.lookup x=some .local:=by first|exact .inl rfl|exact .inr rfl):jG3 X (.Name x pos) (gn3 i):=
 ⟨qj7 (hN:=hN) (hi:=hi) (hx:=hx) (hf:=hf)⟩
def VF {X:Cx} :jGs3 X [] QI:=
 ⟨qmC ⟩
def qT {es:List Expr} {X:Cx} {tg:TG3} {tgs:TY} (h1:jG3 X e tg) (h2:jGs3 X es tgs) (hs:(assignEach (e::es) X.env).map (·.2)=assign e X.env::(assignEach es X.env).map (·.2):=by rfl):jGs3 X (e::es) (qC tg tgs):=
 ⟨qiC (h1:=h1.h) (h2:=h2.h) (hs:=hs)⟩
def VG {pos:Pos} {es:List Expr} {X:Cx} {k:Nat} {tgs:TY} {n:Nat} (hc:X.calm=true) (h:jGs3 X es tgs) (hn:(assignEach es X.env).length=n:=by rfl) (hst:(assignEach es X.env).findIdx? (·.1)=none:=by rfl):jG3 X (.Tuple es k pos) (QK n tgs):=
 ⟨qms (hc:=hc) (h:=h.h) (hn:=hn) (hst:=hst)⟩
def qdV {pos : Pos} {X : Cx} {o i : Expr} {to ti : TE3} (ho : jE3 X o to) (hi : jE3 X i ti) (ha : ∀ v,assign (.Subscript o i pos) X.env v = (do
      let ov←holding [v] (eval o X.env)
      let iv←holding [v,ov] (eval i X.env)
      standAt pos
      holding [v,ov,iv] (setItem ov iv v)
      release [v,ov,iv] []):=by intro _;rfl):jG3 X (.Subscript o i pos) (U5 to ti):=
  ⟨qm2 (ho:=ho.h) (hi:=hi.h) (ha:=ha)⟩
def VC {te:TE3} {pos:Pos} {X:Cx} {tg e:Expr} {g:TG3} (he:jE3 X e te) (hg:jG3 X tg g) (hs:swapsWithSole [tg] e pos.line X.env=pure false:=by rfl) (hw:swappedStores [tg] e X.env=pure none:=by rfl)
  (h1:(assignEach [tg] X.env).map (·.2)=[assign tg X.env]:=by rfl):jS3 X (.Assign [tg] e pos) (zw te g):=
 ⟨qmc (he:=he.h) (hg:=hg.h) (hs:=hs) (hw:=hw) (h1:=h1)⟩
def zl {te:TE3} {pos:Pos} {X:Cx} (i:Nat) {x:Str} {e:Expr} {pos':Pos} (hN:X.N.Nodup) (he:jE3 X e te) (hi:X.N[i]?=some x:=by rfl) (hx:Loc X.env.scope x:=by first|exact Or.inl rfl|exact Or.inr rfl) (hs:swapsWith e (some (.Name x pos')) pos.line X.env=pure false:=by rfl) (hf:X.fn x=true\/X.env.scope.names.lookup x=some .local:=by first|exact .inl rfl|exact .inr rfl):jS3 X (.Assign [.Name x pos'] e pos) (zw te (gn3 i)):=
 ⟨qlZ (i:=i) (hN:=hN) (he:=he.h) (hi:=hi) (hx:=hx) (hs:=hs) (hf:=hf)⟩
def ER {pos:Pos} {X:Cx} {i j:Nat} {x y:Str} {a b:Expr} {tt:TA3} {px py pt:Pos} {kt k2 pt2} (hc:X.calm=true) (hN:X.N.Nodup) (hi:X.N[i]?=some x) (hj:X.N[j]?=some y) (hij:i≠j)
  (hx:X.env.scope.names.lookup x=some .local) (hy:X.env.scope.names.lookup y=some .local) (ha:jA3 X [a,b] tt)
  (hw:swappedStores [.Tuple [.Name x px,.Name y py] kt pt] (.Tuple [a,b] k2 pt2) X.env=pure (some [x,y]):=by rfl)
  (hs:swapsWithSole [.Tuple [.Name x px,.Name y py] kt pt] (.Tuple [a,b] k2 pt2) pos.line X.env=pure false:=by rfl):jS3 X (.Assign [.Tuple [.Name x px,.Name y py] kt pt] (.Tuple [a,b] k2 pt2) pos) (WD i j tt):=
 ⟨qmN (hc:=hc) (hN:=hN) (hi:=hi) (hj:=hj) (hij:=hij) (hx:=hx) (hy:=hy) (ha:=ha.h) (hw:=hw) (hs:=hs)⟩
def VY {te:TE3} {X:Cx} {tg:Expr} {l:Expr} (hl:jE3 X l te):jI3 X tg l (UB te):=
 ⟨qm3 (hl:=hl.h)⟩
def jp {t:TA3} {pos:Pos} {a:Expr} {X:Cx} {tg:Expr} {p:Pos} (hg:Gl X "range") (hm:X.mg "range" = none) (ha:jA3 X [a] t) (hs:starEach [a] X.env=[(false,eval a X.env)]:=by rfl) (h1:∀ τ G q,t τ G q->t τ G λxs G=>q xs G/\xs.length=1):jI3 X tg (.Call (.Name "range" p) [a] [] pos) (ZI t):=
 ⟨qcs (hg:=hg) (hm:=hm) (ha:=ha.h) (hs:=hs) (h1:=h1)⟩
def SZ {pos:Pos} {X:Cx} {tg:Expr} {iter:Expr} {body:List Stmt} {wi:TI3} {g:TG3} {tb:TS3} (hp:PassesOwn (model X.prog X.w) X.A X.env X.xe) (hc:X.calm=true) (hi:jI3 X tg iter wi) (hg:jG3 X tg g) (hb:jB3 X body tb)
  (hs:∀ x,foldedSetIterable iter X.env x=pure x:=by intro _;rfl):jS3 X (.For tg iter body [] pos) (LK wi g tb):=
 ⟨qnb (hp:=hp) (hc:=hc) (hi:=hi.h) (hg:=hg.h) (hb:=hb.h) (hs:=hs)⟩
def LL {pos:Pos} {X:Cx} {c:Expr} {body:List Stmt} {tc:TT3} {tb:TS3} (hp:PassesOwn (model X.prog X.w) X.A X.env X.xe) (hc:jC3 X c tc) (hb:jB3 X body tb):jS3 X (.While c body [] pos) (C6 tc tb):=
 ⟨qgW (hp:=hp) (hc:=hc.h) (hb:=hb.h)⟩
def qh {t:TA3} {pos:Pos} {es:List Expr} {X:Cx} {k:Nat} {x:Str} {p:Pos} {sp:Sp3} (F:Fn3 X.prog X.w X.K X.mg X.base k x sp) (hr:Room k X.A) (hg:Gl X x) (ha:jA3 X (e::es) t) (hdb:(x==("__debug__" : Str))=false:=by decide)
  (he:starEach (e::es) X.env=(false,eval e X.env)::starEach es X.env:=by rfl) (hpl:(backTo pos (starEach es X.env)).any (·.1)=false:=by rfl):jE3 X (.Call (.Name x p) (e::es) [] pos) (cb3 sp t):=
 ⟨qlm (F:=F) (hr:=hr) (hg:=hg) (ha:=ha.h) (hdb:=hdb) (he:=he) (hpl:=hpl)⟩
def U1 {X:Cx} {elt tg iter:Expr} {ifs:List Expr} {scope:Scope} {pos:Pos} (N':List Str) (m:List (Option Nat)) {wi:TI3} {g:TG3} {tif:TT3} {te:TE3} (hc:X.calm=true) (hi:jI3 X tg iter wi)
  (hg:∀ s H fp,jG3 (qF X N' scope s H fp) tg g) (hf:∀ s H fp,jF3 (qF X N' scope s H fp) ifs tif) (he:∀ s H fp,jE3 (qF X N' scope s H fp) elt te)
  (hsc:qcO X.env.scope scope=true) (hcap:WE X.N N' scope m=true) (hs:∀ x,foldedSetIterable iter X.env x=pure x:=by intro _;rfl):jE3 X (.ListComp elt [⟨tg,iter,ifs,0⟩] scope pos) (lc3 wi g tif te m):=
 ⟨qpv (N':=N') (m:=m) (hc:=hc) (hi:=hi.h) (hg:=(λs H fp=>(hg s H fp).h)) (hf:=(λs H fp=>(hf s H fp).h)) (he:=(λs H fp=>(he s H fp).h)) (hsc:=hsc) (hcap:=hcap) (hs:=hs)⟩
def QA {X:Cx}:jF3 X [] tt3:=
 ⟨qnT ⟩
def qdk {t:TA3} {pos:Pos} {es:List Expr} {a:Expr} {b:Expr} {X:Cx} {p pt:Pos} {k1:Nat} (hg:Gl X "zip") (hm:X.mg "zip" = none) (ha:jA3 X [a,b] t) (hs:starEach [a,b] X.env=[(false,eval a X.env),(false,eval b X.env)]:=by rfl) (hs2:starEach [b] X.env=[(false,eval b X.env)]:=by rfl):jI3 X (.Tuple es k1 pt) (.Call (.Name "zip" p) [a,b] [] pos) (MT t):=
 ⟨qm0 (hg:=hg) (hm:=hm) (ha:=ha.h) (hs:=hs) (hs2:=hs2)⟩
def WJ {X:Cx} {py spos:Pos} {elt tg iter:Expr} {ifs:List Expr} {scope:Scope} {pos:Pos} {y:Str} (i:Nat) (N':List Str) (m:List (Option Nat)) {wi:TI3} {g:TG3} {tif:TT3} {te:TE3} (hc:X.calm=true) (hN:X.N.Nodup) (hi:jI3 X tg iter wi)
  (hg:∀ s H fp,jG3 (qF X N' scope s H fp) tg g) (hf:∀ s H fp,jF3 (qF X N' scope s H fp) ifs tif) (he:∀ s H fp,jE3 (qF X N' scope s H fp) elt te)
  (hsc:qcO X.env.scope scope=true) (hcap:WE X.N N' scope m=true) (hl:X.env.scope.names.lookup y=some .local) (hsw:swapsWith (.ListComp elt [⟨tg,iter,ifs,0⟩] scope pos) (some (.Name y py)) spos.line X.env=pure true) (hiy:X.N[i]?=some y:=by rfl) (hs:∀ x,foldedSetIterable iter X.env x=pure x:=by intro _;rfl):jS3 X (.Assign [.Name y py] (.ListComp elt [⟨tg,iter,ifs,0⟩] scope pos) spos) (zw (lc3 wi g tif te m) (gn3 i)):=
 ⟨qfE (i:=i) (N':=N') (m:=m) (hc:=hc) (hN:=hN) (hi:=hi.h) (hg:=(λs H fp=>(hg s H fp).h)) (hf:=(λs H fp=>(hf s H fp).h)) (he:=(λs H fp=>(he s H fp).h)) (hsc:=hsc) (hcap:=hcap) (hl:=hl) (hsw:=hsw) (hiy:=hiy) (hs:=hs)⟩
def jpt {X:Cx} {e:Expr} {t:TT3} (h:jW3 X e t):jC3 X e t:=⟨PW.pt h.h⟩
def qQ {P:Program} {w:World} {K:Frg} {mg:Str->Option Value} {base:Heap} {x qual:Str} {st:Stmt} {f:Addr} {fd:FuncData} {N ps:List Str} {k:Nat} {sp:Sp3} {t3:TS3} (F:Fun K x qual st f fd) (S:FnScope N ps (qk st)) (bd:zX K fd ps []) (hm:mg x=some (.ref f))
  (body:∀ (cdv:Value) (A:Around) (outer:List Env) (s:Shared) (H:Hp) (E:XK),Room k (A.deeper (envOfC qual (qk st) s.heap.objs.size f cdv)) ->
   jB3 (qbU CX0 P w K mg base N qual (qk st) f cdv A outer s H E).nox (QF st) t3)
  (read:∀ ts G q,sp ts G q->ts.length=ps.length/\t3 { nx:=λ_ G'=>q .non G',rt:=q } (qt N ts) G):Fn3 P w K mg base (k+1) x sp:=
 qjR F S bd hm (λcdv A outer s H E hr=>(body cdv A outer s H E hr).h) read
def qbX {P:Program} {w:World} {K:Frg} {mg:Str->Option Value} {base:Heap} {x qual:Str} {st:Stmt} {f:Addr} {fd:FuncData} {N ps:List Str} {k:Nat} {sp:Sp3} {t3:TS3} (F:Fun K x qual st f fd) (S:FnScope N ps (qk st))
  (body:∀ (cdv:Value) (A:Around) (outer:List Env) (s:Shared) (H:Hp) (E:XK),Room k (A.deeper (envOfC qual (qk st) s.heap.objs.size f cdv)) ->
   jB3 (qbU CX0 P w K mg base N qual (qk st) f cdv A outer s H E).nox (QF st) t3)
  (read:∀ ts G q,sp ts G q->ts.length=ps.length/\t3 { nx:=λ_ G'=>q .non G',rt:=q } (qt N ts) G):FnOk P w K mg base CX0 (k+1) f fd ps (lSp K sp):=
 qgg F S (λcdv A outer s H E hr=>(body cdv A outer s H E hr).h) read
open PySem.SeqAt
def Ex (G G':Gp):Prop:=∀ b o,G b=some o->G' b=some o
def Ex.refl {G:Gp}:Ex G G:=λ_ _ e=>e
def Ex.trans {G G1 G2:Gp} (a:Ex G G1) (b:Ex G1 G2):Ex G G2:=λx o e=>b x o (a x o e)
def VE {G:Gp} {p:Addr} {o:O} (hp:G p=none):Ex G (gu G p o):=λb ob e=>by
 rw [ZW (by rintro rfl;rw [hp] at e;cases e)];exact e
mutual
inductive Dp (G:Gp):T->PyData->Prop
 |non:Dp G .non .none
 |bl (b:Bool):Dp G (.bl b) (.bool b)
 |int (i:Int):Dp G (.int i) (.int i)
 |str (x:Str):Dp G (.str x) (.str x)
 |tup {xs:List T} {ds:List PyData}:Dps G xs ds->Dp G (.tup xs) (.tuple ds)
 |lst {p:Addr} {xs:List T} {ds:List PyData}:getL G p=some xs->Dps G xs ds->Dp G (.ref p) (.list ds)
inductive Dps (G:Gp):List T->List PyData->Prop
 |nil:Dps G [] []
 |cons {x:T} {d:PyData} {xs:List T} {ds:List PyData}:Dp G x d->Dps G xs ds->Dps G (x::xs) (d::ds)
end
def Ex.getL {G G':Gp} (e:Ex G G') {p:Addr} {xs:List T} (h:getL G p=some xs):getL G' p=some xs:=by
 unfold L3.getL at h ⊢;split at h
 ·rename_i ys g;cases h;rw [e _ _ g]
 ·rename_i ys g;cases h;rw [e _ _ g]
 ·cases h
mutual
def Dp.up {G G':Gp} (e:Ex G G'):∀ {x:T} {d:PyData},Dp G x d->Dp G' x d
 |_,_,.non=>.non
 |_,_,.bl b=>.bl b
 |_,_,.int i=>.int i
 |_,_,.str x=>.str x
 |_,_,.tup h=>.tup (Dps.up e h)
 |_,_,.lst h1 h2=>.lst (e.getL h1) (Dps.up e h2)
def Dps.up {G G':Gp} (e:Ex G G'):∀ {x:List T} {d:List PyData},Dps G x d->Dps G' x d
 |_,_,.nil=>.nil
 |_,_,.cons a b=>.cons (Dp.up e a) (Dps.up e b)
end
def Dps.length {G:Gp}:∀ {xs:List T} {ds:List PyData},Dps G xs ds->xs.length=ds.length
 |_,_,.nil=>rfl
 |_,_,.cons _ b=>by simp [Dps.length b]
def Dps.get {G:Gp}:∀ {xs:List T} {ds:List PyData} {i:Nat} {x:T},Dps G xs ds->xs[i]?=some x->∃ d,ds[i]?=some d/\Dp G x d
 |_,_,_,_,.nil,e=>by simp at e
 |_,_,0,_,.cons r _,e=>by simp at e;subst e;exact ⟨_,rfl,r⟩
 |_,_,i+1,x,.cons _ t,e=>by
  obtain ⟨u,h1,h2⟩:=Dps.get (i:=i) (x:=x) t (by simpa using e);exact ⟨u,by simpa using h1,h2⟩
mutual
inductive DV (K:Frg) (H:Hp):V->PyData->Prop
 |non:DV K H .non .none
 |bl (b:Bool):DV K H (.bl b) (.bool b)
 |int (i:Int):DV K H (.int i) (.int i)
 |str (x:Str):DV K H (.str x) (.str x)
 |tup {a:Addr} {vs:List V} {ds:List PyData}:SqT K H a vs->DVs K H vs ds->DV K H (.ref a) (.tuple ds)
 |lst {a:Addr} {vs:List V} {ds:List PyData}:SqL K H a vs->DVs K H vs ds->DV K H (.ref a) (.list ds)
inductive DVs (K:Frg) (H:Hp):List V->List PyData->Prop
 |nil:DVs K H [] []
 |cons {x:V} {d:PyData} {xs:List V} {ds:List PyData}:DV K H x d->DVs K H xs ds->DVs K H (x::xs) (d::ds)
end
mutual
def Dp.dv {K:Frg} {G:Gp} {H:Hp} (hr:HR K G H):∀ {x:T} {d:PyData} {v:V},Dp G x d->Rp K H x v->DV K H v d
 |_,_,_,.non,.non=>.non
 |_,_,_,.bl b,.bl _=>.bl b
 |_,_,_,.int i,.int _=>.int i
 |_,_,_,.str x,.str _=>.str x
 |_,_,_,.tup h,.tup hs rs=>.tup hs (Dps.dv hr h rs)
 |_,_,_,.lst g h,r=>by
  cases r;obtain ⟨_,hs,rs⟩:=jT hr g;exact .lst hs (Dps.dv hr h rs)
def Dps.dv {K:Frg} {G:Gp} {H:Hp} (hr:HR K G H):∀ {x:List T} {d:List PyData} {v:List V},Dps G x d->Rps K H x v->DVs K H v d
 |_,_,_,.nil,.nil=>.nil
 |_,_,_,.cons a b,.cons c d=>.cons (Dp.dv hr a c) (Dps.dv hr b d)
end
mutual
def VI:PyData->PyData->Option Bool
 |.none,.none=>some true
 |.bool a,.bool b=>some (a==b)
 |.int a,.int b=>some (a==b)
 |.str a,.str b=>some (a==b)
 |.list xs,.list ys=>EF xs ys
 |.tuple xs,.tuple ys=>EF xs ys
 |_,_=>none
def EF:List PyData->List PyData->Option Bool
 |[],[]=>some true
 |x::xs,y::ys=>match VI x y,EF xs ys with|some a,some b=>some (a&&b)|_,_=>none
 |_,_=>some false
end
mutual
def dpt:PyData->Nat
 |.list xs=>NU xs+1
 |.tuple xs=>NU xs+1
 |_=>0
def NU:List PyData->Nat
 |[]=>0
 |x::xs=>max (dpt x) (NU xs)
end
section
variable {X:Cx} {pins:List (Addr×Obj)} {σ:L2.St} {H:Hp} {s:Shared}
mutual
def DV.inj (I:Inv X pins σ H s):∀ {v:V} {d e:PyData},DV X.K H v d->DV X.K H v e->d=e
 |_,_,_,.non,.non=>rfl
 |_,_,_,.bl _,.bl _=>rfl
 |_,_,_,.int _,.int _=>rfl
 |_,_,_,.str _,.str _=>rfl
 |_,_,_,.tup h hs,.tup k ks=>by
  have:=I.tuple_inj h k;subst this;rw [DVs.inj I hs ks]
 |_,_,_,.lst h hs,.lst k ks=>by
  have:=I.list_inj h k;subst this;rw [DVs.inj I hs ks]
 |_,_,_,.tup h hs,.lst k ks=>by
  obtain ⟨i1,_,p1,_⟩:=I.tuple h;obtain ⟨i2,_,p2,_⟩:=I.list k;exact absurd rfl (ne_of_list_tuple p2.isList (show s.heap.IsTuple _ i1.toArray from p1))
 |_,_,_,.lst k ks,.tup h hs=>by
  obtain ⟨i1,_,p1,_⟩:=I.tuple h;obtain ⟨i2,_,p2,_⟩:=I.list k;exact absurd rfl (ne_of_list_tuple p2.isList (show s.heap.IsTuple _ i1.toArray from p1))
def DVs.inj (I:Inv X pins σ H s):∀ {v:List V} {d e:List PyData},DVs X.K H v d->DVs X.K H v e->d=e
 |_,_,_,.nil,.nil=>rfl
 |_,_,_,.cons a b,.cons c d=>by rw [DV.inj I a c,DVs.inj I b d]
end
mutual
def TR:∀ {d:PyData} {b:Bool},VI d d=some b->b=true
 |.none,_,h=>by simp [VI] at h;exact h
 |.bool _,_,h=>by simp [VI] at h;exact h
 |.int _,_,h=>by simp [VI] at h;exact h
 |.str _,_,h=>by simp [VI] at h;exact h
 |.list xs,_,h=>by simp only [VI] at h;exact DF h
 |.tuple xs,_,h=>by simp only [VI] at h;exact DF h
 |.dict _,_,h=>by simp [VI] at h
def DF:∀ {d:List PyData} {b:Bool},EF d d=some b->b=true
 |[],_,h=>by simp [EF] at h;exact h
 |x::xs,b,h=>by
  simp only [EF] at h;split at h
  ·rename_i a c e1 e2;rw [TR e1,DF e2] at h;simpa using h.symm
  ·cases h
end
def VL:∀ {xs ys:List PyData} {b:Bool},EF xs ys=some b->xs.length=ys.length->∃ e:Nat->Bool,(∀ (j:Nat) x y,xs[j]?=some x->ys[j]?=some y->VI x y=some (e j))/\b=(List.range xs.length).all e
 |[],[],b,h,_=>by simp [EF] at h;exact ⟨λ_=>true,by simp,by simp [h]⟩
 |x::xs,y::ys,b,h,hl=>by
  simp only [EF] at h;split at h
  ·rename_i a c e1 e2;obtain ⟨e,h1,h2⟩:=VL e2 (by simpa using hl);refine ⟨λj=>match j with|0=>a|j+1=>e j,λj u v hu hv=>?_,?_⟩
   ·cases j with
    |zero=>simp at hu hv;subst hu;subst hv;exact e1
    |succ j=>exact h1 j u v (by simpa using hu) (by simpa using hv)
   ·rw [length_cons,List.range_succ_eq_map,List.all_cons,List.all_map];cases h;rw [h2];rfl
  ·cases h
 |[],_::_,_,_,hl=>by simp at hl
 |_::_,[],_,_,hl=>by simp at hl
def VS:∀ {xs ys:List PyData} {b:Bool},EF xs ys=some b->xs.length≠ys.length->b=false/\∃ e:Nat->Bool,∀ (j:Nat) x y,xs[j]?=some x->ys[j]?=some y->VI x y=some (e j)
 |[],[],_,_,hl=>by simp at hl
 |[],_::_,b,h,_=>by simp [EF] at h;exact ⟨h,λ_=>true,by simp⟩
 |_::_,[],b,h,_=>by simp [EF] at h;exact ⟨h,λ_=>true,by simp⟩
 |x::xs,y::ys,b,h,hl=>by
  simp only [EF] at h;split at h
  ·rename_i a c e1 e2;obtain ⟨h0,e,h1⟩:=VS e2 (by simpa using hl);subst h0;refine ⟨by simpa using h.symm,λj=>match j with|0=>a|j+1=>e j,λj u v hu hv=>?_⟩;cases j with
   |zero=>simp at hu hv;subst hu;subst hv;exact e1
   |succ j=>exact h1 j u v (by simpa using hu) (by simpa using hv)
  ·cases h
def ET:∀ {xs:List PyData} {x:PyData},x∈xs->dpt x<=NU xs
 |[],_,h=>by simp at h
 |y::ys,x,h=>by
  simp only [NU];rcases mem_cons.mp h with e|e
  ·subst e;omega
  ·have:=ET e;omega
def DVs.get {K:Frg} {H:Hp}:∀ {xs:List V} {ds:List PyData} {i:Nat} {x:V},DVs K H xs ds->xs[i]?=some x->∃ d,ds[i]?=some d/\DV K H x d
 |_,_,_,_,.nil,e=>by simp at e
 |_,_,0,_,.cons r _,e=>by simp at e;subst e;exact ⟨_,rfl,r⟩
 |_,_,i+1,x,.cons _ t,e=>by
  obtain ⟨u,h1,h2⟩:=DVs.get (i:=i) (x:=x) t (by simpa using e);exact ⟨u,by simpa using h1,h2⟩
def DVs.length {K:Frg} {H:Hp}:∀ {xs:List V} {ds:List PyData},DVs K H xs ds->xs.length=ds.length
 |_,_,.nil=>rfl
 |_,_,.cons _ b=>by simp [DVs.length b]
def VQ {vs:List V} {us:List Value} (r:jx vs us) {j:Nat} (h:j<us.toArray.size):∃ v,vs[j]?=some v/\QJ v us.toArray[j]:=by
 have hj:j<vs.length:=by rw [r.length];simpa using h
 obtain ⟨u,hu,ru⟩:=r.get (getElem?_eq_getElem hj);refine ⟨vs[j],getElem?_eq_getElem hj,?_⟩;have hj2:j<us.length:=by simpa using h
 rw [getElem?_eq_getElem hj2] at hu;have:us[j]=u:=Option.some.inj hu;simpa [this] using ru
def KG (I:Inv X pins σ H s):∀ (n:Nat) {v u:V} {d e:PyData} {b:Bool} {x y:Value} {A:Around},DV X.K H v d->DV X.K H u e->VI d e=some b->dpt d<=n->A.units+n<cLine->QJ v x->QJ u y ->
  RcAt A s x y b/\EqAt A s x y b:=by
 intro n;induction n with
 |zero=>
  intro v u d e b x y A hv hu h hd hn rx ry;cases hv with
  |non=>cases hu<;>simp [VI] at h;subst h;cases (show x=Value.none from rx);cases (show y=Value.none from ry);exact ⟨RcAt.none_none,EqAt.same _⟩
  |bl a=>cases hu<;>simp [VI] at h;subst h;cases (show x=Value.bool _ from rx);cases (show y=Value.bool _ from ry);exact ⟨RcAt.bool_bool _ _,EqAt.bool_bool _ _⟩
  |int a=>cases hu<;>simp [VI] at h;subst h;obtain ⟨t,rfl⟩:=(show ∃ t,x=Value.int _ t from rx);obtain ⟨t',rfl⟩:=(show ∃ t,y=Value.int _ t from ry);exact ⟨RcAt.int_int _ _ _ _,EqAt.int_int _ _ _ _⟩
  |str a=>cases hu<;>simp [VI] at h;subst h;obtain ⟨t,rfl⟩:=(show ∃ t,x=Value.str _ t from rx);obtain ⟨t',rfl⟩:=(show ∃ t,y=Value.str _ t from ry);exact ⟨RcAt.str_str _ _ _ _,EqAt.str_str _ _ _ _⟩
  |tup=>simp [dpt] at hd
  |lst=>simp [dpt] at hd
 |succ n ih=>
  intro v u d e b x y A hv hu h hd hn rx ry;have fin:∀ {l l':Addr} {k:Bool},x=.ref l->y=.ref l'->v=.ref l->u=.ref l'->b=k->RcAt A s x y k->RcAt A s x y b/\EqAt A s x y b:=by
   rintro l l' k rfl rfl rfl rfl rfl rc;refine ⟨rc,?_⟩;by_cases hll:l=l'
   ·subst hll;have:=DV.inj I hv hu;subst this;rw [TR h];exact EqAt.same _
   ·exact EqAt.of_refs hll rc
  cases hv with
  |non=>cases hu<;>simp [VI] at h;subst h;cases (show x=Value.none from rx);cases (show y=Value.none from ry);exact ⟨RcAt.none_none,EqAt.same _⟩
  |bl a=>cases hu<;>simp [VI] at h;subst h;cases (show x=Value.bool _ from rx);cases (show y=Value.bool _ from ry);exact ⟨RcAt.bool_bool _ _,EqAt.bool_bool _ _⟩
  |int a=>cases hu<;>simp [VI] at h;subst h;obtain ⟨t,rfl⟩:=(show ∃ t,x=Value.int _ t from rx);obtain ⟨t',rfl⟩:=(show ∃ t,y=Value.int _ t from ry);exact ⟨RcAt.int_int _ _ _ _,EqAt.int_int _ _ _ _⟩
  |str a=>cases hu<;>simp [VI] at h;subst h;obtain ⟨t,rfl⟩:=(show ∃ t,x=Value.str _ t from rx);obtain ⟨t',rfl⟩:=(show ∃ t,y=Value.str _ t from ry);exact ⟨RcAt.str_str _ _ _ _,EqAt.str_str _ _ _ _⟩
  |tup hq hs=>
   cases hu with
   |tup kq ks=>
    rename_i a1 vs1 ds1 a2 vs2 ds2;simp only [VI] at h;obtain ⟨i1,r1,p1,z1⟩:=I.tuple hq;obtain ⟨i2,r2,p2,z2⟩:=I.tuple kq;have l1:=hs.length;have l2:=ks.length;have m1:=r1.length;have m2:=r2.length;have el:∀ (e:Nat->Bool),(∀ (j:Nat) x y,ds1[j]?=some x->ds2[j]?=some y->VI x y=some (e j))->∀ j (h1:j<i1.toArray.size) (h2:j<i2.toArray.size),EqAt A.in1 s i1.toArray[j] i2.toArray[j] (e j):=λe he j h1 h2=>by
     obtain ⟨w1,g1,q1⟩:=VQ r1 h1;obtain ⟨w2,g2,q2⟩:=VQ r2 h2;obtain ⟨d1,f1,dv1⟩:=hs.get g1;obtain ⟨d2,f2,dv2⟩:=ks.get g2;have:=ET (mem_of_getElem? f1);exact (ih dv1 dv2 (he j d1 d2 f1 f2) (by simp only [dpt] at hd;omega) (show A.units+1+n<cLine by omega) q1 q2).2
    cases (show x=Value.ref a1 from rx);cases (show y=Value.ref a2 from ry);by_cases hl:ds1.length=ds2.length
    ·obtain ⟨e,he,hb⟩:=VL h hl;refine fin rfl rfl rfl rfl (k:=(List.range (min i1.toArray.size i2.toArray.size)).all e&&i1.toArray.size==i2.toArray.size) ?_ (RcAt.tuples (show s.heap.IsTuple a1 i1.toArray from p1) (show s.heap.IsTuple a2 i2.toArray from p2) (by omega) (el e he));have e1:i1.toArray.size=ds1.length:=by rw [size_toArray];omega
     have e2:i2.toArray.size=ds1.length:=by rw [size_toArray];omega
     rw [e1,e2,hb];simp
    ·obtain ⟨hb,e,he⟩:=VS h hl;refine fin rfl rfl rfl rfl (k:=(List.range (min i1.toArray.size i2.toArray.size)).all e&&i1.toArray.size==i2.toArray.size) ?_ (RcAt.tuples (show s.heap.IsTuple a1 i1.toArray from p1) (show s.heap.IsTuple a2 i2.toArray from p2) (by omega) (el e he));have e1:i1.toArray.size≠i2.toArray.size:=by rw [size_toArray,size_toArray];omega
     rw [hb];simp [e1];intro;omega
   |_=>simp [VI] at h
  |lst hq hs=>
   cases hu with
   |lst kq ks=>
    rename_i a1 vs1 ds1 a2 vs2 ds2;simp only [VI] at h;obtain ⟨i1,r1,p1,z1⟩:=I.list hq;obtain ⟨i2,r2,p2,z2⟩:=I.list kq;have l1:=hs.length;have l2:=ks.length;have m1:=r1.length;have m2:=r2.length;have el:∀ (e:Nat->Bool),(∀ (j:Nat) x y,ds1[j]?=some x->ds2[j]?=some y->VI x y=some (e j))->∀ j (h1:j<i1.toArray.size) (h2:j<i2.toArray.size),EqAt A.in1 s i1.toArray[j] i2.toArray[j] (e j):=λe he j h1 h2=>by
     obtain ⟨w1,g1,q1⟩:=VQ r1 h1;obtain ⟨w2,g2,q2⟩:=VQ r2 h2;obtain ⟨d1,f1,dv1⟩:=hs.get g1;obtain ⟨d2,f2,dv2⟩:=ks.get g2;have:=ET (mem_of_getElem? f1);exact (ih dv1 dv2 (he j d1 d2 f1 f2) (by simp only [dpt] at hd;omega) (show A.units+1+n<cLine by omega) q1 q2).2
    cases (show x=Value.ref a1 from rx);cases (show y=Value.ref a2 from ry);by_cases hl:ds1.length=ds2.length
    ·obtain ⟨e,he,hb⟩:=VL h hl;refine fin rfl rfl rfl rfl (k:=(List.range i1.toArray.size).all e) ?_ (RcAt.lists p1.isList p2.isList (by rw [size_toArray,size_toArray];omega) (by omega) (el e he));have e1:i1.toArray.size=ds1.length:=by rw [size_toArray];omega
     rw [e1,hb]
    ·obtain ⟨hb,e,he⟩:=VS h hl;refine fin rfl rfl rfl rfl (k:=false) hb (RcAt.lists_lengths p1.isList p2.isList (by rw [size_toArray,size_toArray];simp;omega) (by omega))
   |_=>simp [VI] at h
def qe4 (I:Inv X pins σ H s) {n:Nat} {v u:V} {d e:PyData} {b:Bool} {x y:Value} {A:Around} (hv:DV X.K H v d) (hu:DV X.K H u e) (h:VI d e=some b) (hd:dpt d<=n+1) (hn:A.units+(n+1)<cLine) (rx:QJ v x) (ry:QJ u y) (hs:dpt d≠0):RcNeAt A s x y (!b):=by
 cases hv with
 |tup hq hs'=>
  cases hu with
  |tup kq ks=>
   rename_i a1 vs1 ds1 a2 vs2 ds2;simp only [VI] at h;obtain ⟨i1,r1,p1,z1⟩:=I.tuple hq;obtain ⟨i2,r2,p2,z2⟩:=I.tuple kq;have l1:=hs'.length;have l2:=ks.length;have m1:=r1.length;have m2:=r2.length;have el:∀ (e:Nat->Bool),(∀ (j:Nat) x y,ds1[j]?=some x->ds2[j]?=some y->VI x y=some (e j))->∀ j (h1:j<i1.toArray.size) (h2:j<i2.toArray.size),EqAt A.in1 s i1.toArray[j] i2.toArray[j] (e j):=λe he j h1 h2=>by
    obtain ⟨w1,g1,q1⟩:=VQ r1 h1;obtain ⟨w2,g2,q2⟩:=VQ r2 h2;obtain ⟨d1,f1,dv1⟩:=hs'.get g1;obtain ⟨d2,f2,dv2⟩:=ks.get g2;have:=ET (mem_of_getElem? f1);exact (KG I n dv1 dv2 (he j d1 d2 f1 f2) (by simp only [dpt] at hd;omega) (show A.units+1+n<cLine by omega) q1 q2).2
   cases (show x=Value.ref a1 from rx);cases (show y=Value.ref a2 from ry);by_cases hl:ds1.length=ds2.length
   ·obtain ⟨e,he,hb⟩:=VL h hl;have:=RcNeAt.tuples (show s.heap.IsTuple a1 i1.toArray from p1) (show s.heap.IsTuple a2 i2.toArray from p2) (A:=A) (by omega) (el e he);have e1:i1.toArray.size=ds1.length:=by rw [size_toArray];omega
    have e2:i2.toArray.size=ds1.length:=by rw [size_toArray];omega
    rw [e1,e2] at this;rw [hb];simpa using this
   ·obtain ⟨hb,e,he⟩:=VS h hl;have:=RcNeAt.tuples (show s.heap.IsTuple a1 i1.toArray from p1) (show s.heap.IsTuple a2 i2.toArray from p2) (A:=A) (by omega) (el e he);have e1:(i1.toArray.size==i2.toArray.size)=false:=by rw [size_toArray,size_toArray];simp;omega
    rw [e1] at this;rw [hb];simpa using this
  |_=>simp [VI] at h
 |lst hq hs'=>
  cases hu with
  |lst kq ks=>
   rename_i a1 vs1 ds1 a2 vs2 ds2;simp only [VI] at h;obtain ⟨i1,r1,p1,z1⟩:=I.list hq;obtain ⟨i2,r2,p2,z2⟩:=I.list kq;have l1:=hs'.length;have l2:=ks.length;have m1:=r1.length;have m2:=r2.length;have el:∀ (e:Nat->Bool),(∀ (j:Nat) x y,ds1[j]?=some x->ds2[j]?=some y->VI x y=some (e j))->∀ j (h1:j<i1.toArray.size) (h2:j<i2.toArray.size),EqAt A.in1 s i1.toArray[j] i2.toArray[j] (e j):=λe he j h1 h2=>by
    obtain ⟨w1,g1,q1⟩:=VQ r1 h1;obtain ⟨w2,g2,q2⟩:=VQ r2 h2;obtain ⟨d1,f1,dv1⟩:=hs'.get g1;obtain ⟨d2,f2,dv2⟩:=ks.get g2;have:=ET (mem_of_getElem? f1);exact (KG I n dv1 dv2 (he j d1 d2 f1 f2) (by simp only [dpt] at hd;omega) (show A.units+1+n<cLine by omega) q1 q2).2
   cases (show x=Value.ref a1 from rx);cases (show y=Value.ref a2 from ry);by_cases hl:ds1.length=ds2.length
   ·obtain ⟨e,he,hb⟩:=VL h hl;have:=RcNeAt.lists p1.isList p2.isList (A:=A) (by rw [size_toArray,size_toArray];omega) (by omega) (el e he);have e1:i1.toArray.size=ds1.length:=by rw [size_toArray];omega
    rw [e1] at this;rw [hb];exact this
   ·obtain ⟨hb,e,he⟩:=VS h hl;rw [hb];exact RcNeAt.lists_lengths p1.isList p2.isList (by rw [size_toArray,size_toArray];simp;omega) (by omega)
  |_=>simp [VI] at h
 |_=>simp [dpt] at hs
def qdn (K:Frg) (neg:Bool):R2:=λx y H Q=>∃ d e b,DV K H x d/\DV K H y e/\VI d e=some b/\dpt d<=40/\dpt d≠0/\Q (.bl (if neg then !b else b)) H
def qjz (hu:X.A.units+64<cLine):OpR X (compareOp .Eq) (qdn X.K false):=by
 intro pins s σ H x y v u Q I rx ry h;obtain ⟨d,e,b,hx,hy,hb,hd,_,q⟩:=h;exact (KG I 40 hx hy hb hd (by omega) rx ry).1 X.prog X.w X.xe _ ⟨.bl b,H,I,rfl,q⟩
def qj1 (hu:X.A.units+64<cLine):OpR X (compareOp .NotEq) (qdn X.K true):=by
 intro pins s σ H x y v u Q I rx ry h;obtain ⟨d,e,b,hx,hy,hb,hd,hs,q⟩:=h;exact qe4 I (n:=40) hx hy hb (by omega) (by omega) rx ry hs X.prog X.w X.xe _ ⟨.bl (!b),H,I,rfl,q⟩
end
def zF (neg:Bool):R3:=λx y G q=>match jU x y with
 |some k=>q (.bl (if neg then !k else k)) G
 |none=>∃ d e b,Dp G x d/\Dp G y e/\VI d e=some b/\dpt d<=40/\dpt d≠0/\q (.bl (if neg then !b else b)) G
def qs {K:Frg}:XT K (zF false) (λx y H Q=>rEq x y H Q\/qdn K false x y H Q):=λx y v u G H q Q hr rx ry h af=>by
 unfold zF at h;split at h
 ·rename_i k e;obtain ⟨h1,h2⟩:=MM rx ry e;refine .inl ⟨h1,?_⟩;rw [h2];exact af _ G h _ H (.bl _) hr Kp.refl
 ·obtain ⟨d,e,b,h1,h2,h3,h4,h5,h6⟩:=h;exact .inr ⟨d,e,b,h1.dv hr rx,h2.dv hr ry,h3,h4,h5,af _ G h6 _ H (.bl _) hr Kp.refl⟩
def QR {K:Frg}:XT K (zF true) (λx y H Q=>rNe x y H Q\/qdn K true x y H Q):=λx y v u G H q Q hr rx ry h af=>by
 unfold zF at h;split at h
 ·rename_i k e;obtain ⟨h1,h2⟩:=MM rx ry e;refine .inl ⟨h1,?_⟩;rw [h2];exact af _ G h _ H (.bl _) hr Kp.refl
 ·obtain ⟨d,e,b,h1,h2,h3,h4,h5,h6⟩:=h;exact .inr ⟨d,e,b,h1.dv hr rx,h2.dv hr ry,h3,h4,h5,af _ G h6 _ H (.bl _) hr Kp.refl⟩
def qJ {X:Cx} (hu:X.A.units+64<cLine):OpR X (compareOp .Eq) (λx y H Q=>rEq x y H Q\/qdn X.K false x y H Q):=qmi.or (qjz hu)
def J7 {X:Cx} (hu:X.A.units+64<cLine):OpR X (compareOp .NotEq) (λx y H Q=>rNe x y H Q\/qdn X.K true x y H Q):=qnl.or (qj1 hu)
end L3
namespace L3
open PySem PySem.Spec PyProof.Rows L2
section
variable {X:Cx} {pins:List (Addr×Obj)} {σ:L2.St} {H:Hp} {s:Shared}
mutual
def DV.reads (I:Inv X pins σ H s):∀ {v:V} {d:PyData} {x:Value},DV X.K H v d->QJ v x->∃ as,Reads s.heap x d as
 |_,_,x,.non,r=>by cases (show x=Value.none from r);exact ⟨_,.none⟩
 |_,_,x,.bl b,r=>by cases (show x=Value.bool b from r);exact ⟨_,.bool b⟩
 |_,_,x,.int i,r=>by obtain ⟨t,rfl⟩:=(show ∃ t,x=Value.int i t from r);exact ⟨_,.int i t⟩
 |_,_,x,.str y,r=>by obtain ⟨t,rfl⟩:=(show ∃ t,x=Value.str y t from r);exact ⟨_,.str y t⟩
 |_,_,x,.tup (a:=a) h hs,r=>by
  cases (show x=Value.ref a from r);obtain ⟨its,rv,⟨o,h1,h2,n,h3⟩,_⟩:=I.tuple h;obtain ⟨as,ra⟩:=DVs.reads I hs rv;exact ⟨as,.tuple h1 h2 h3 (by simpa using ra)⟩
 |_,_,x,.lst (a:=a) h hs,r=>by
  cases (show x=Value.ref a from r);obtain ⟨its,rv,p,_⟩:=I.list h;obtain ⟨o,h1,h2,n,h3⟩:=p.isList;obtain ⟨as,ra⟩:=DVs.reads I hs rv;exact ⟨a::as,.list h1 h2 h3 (by simpa using ra)⟩
def DVs.reads (I:Inv X pins σ H s):∀ {v:List V} {d:List PyData} {x:List Value},DVs X.K H v d->jx v x->∃ as,ReadsAll s.heap x d as
 |_,_,_,.nil,.nil=>⟨_,.nil⟩
 |_,_,_,.cons a b,.cons c d=>by
  obtain ⟨as,r1⟩:=DV.reads I a c;obtain ⟨bs,r2⟩:=DVs.reads I b d;exact ⟨_,.cons r1 r2⟩
end
structure ShOk (d:PyData):Prop where
 sh:d.showable=true
 nd:d.hasDict=false
 dp:d.depth<=40
 lv:d.leavesShort 13=true
 bk:d.bulk<=2 ^ 20
end
section
variable {X:Cx}
def KM {K:Frg} {H:Hp}:∀ {ys:List T} {vs:List V} (h:Rps K H ys vs),Rps K H ys.reverse vs.reverse
 |_,_,.nil=>.nil
 |_,_,.cons r t=>by rw [List.reverse_cons,List.reverse_cons];exact (KM t).append (.cons r .nil)
def qga:V->List V->Hp->VK->Prop:=λx vs H Q=>∃ i,x=.int i/\vs=[]/\Q (.int (Builtin.Int.intBits i)) H
def qaK:MtR X "int.bit_length" qga:=by
 intro pins s σ H x vs v us Q I rx rv h;obtain ⟨i,rfl,rfl,q⟩:=h;obtain ⟨t,rfl⟩:=rx;have hus:=rv.zero;subst hus;exact call_int_bit_length ⟨.int _,_,I.tok _,⟨_,rfl⟩,q⟩
def bl3 (to:TE3):TE3:=λτ G q=>to τ G λx G1=>match x with|.int i=>q (.int (Builtin.Int.intBits i)) G1|_=>False
def qay {o:Expr} {to:TE3} {apos cpos:Pos} (ho:jE3 X o to) (hbase:attributeBase o "bit_length" X.env (eval o X.env)=eval o X.env:=by rfl) (hline:(apos.endLine==cpos.line)=true:=by rfl) :
  jE3 X (.Call (.Attribute o "bit_length" apos) [] [] cpos) (bl3 to):=
 ⟨WF (qjM PySem.F.plainAttrs_int PySem.F.slot_int_bit_length PySem.F.type_int_bit_length qaK ho.h hbase hline) λ_ _ _ ⟨τ,G,q,rl,h,af⟩=>jG rl h λx G1 h1 v H1 rx hr1 k1 rl1=>by
  cases x<;>try exact h1.elim
  case int i=>
   cases rx;exact ⟨rfl,i,rfl,rfl,af.back k1 _ _ h1 _ _ (.int _) hr1 Kp.refl⟩⟩
end
section
variable {prog:Program} {w:World} {A:Around} {R:Result->Shared->Prop} {s:Shared}
end
section
variable {X:Cx}
end
section
variable {K:Frg}
end
section
variable {X:Cx}
end
section
variable {X:Cx}
def CV:∀ {its:List Value} {ns:List Int},jx (ns.map V.int) its->IntsAre its ns
 |_,[],h=>by cases h;exact .nil
 |_,n::ns,h=>by
  cases h with
  |cons r t=>
   obtain ⟨k,rfl⟩:=r;exact .cons n k (CV t)
end
section
variable {X:Cx} {tg a b c:Expr} {pos:Pos}
end
section
variable {X:Cx}
end
section
variable {X:Cx} {a b:Expr} {ta tb:TE3} {pos:Pos}
structure ShW (d:PyData):Prop where
 sh:d.showable=true
 nd:d.hasDict=false
 dp:d.depth<=40
 fit:d.shown.length<=sizeLine
def ShOk.w {d:PyData} (h:ShOk d):ShW d:=⟨h.sh,h.nd,h.dp,PyData.shown_fits_bulk (by decide) (by decide) h.lv h.bk⟩
def NF (hg:X.A.guards=some []) (hu:X.A.units+64<cLine):JU X (.builtin "repr") (λxs H Q=>∃ a d,xs=[.ref a]/\DV X.K H (.ref a) d/\ShW d/\Q (.str d.shown) H):=by
 intro pins s σ H xs us Q I r h;obtain ⟨a,d,rfl,dv,ok,q⟩:=h;obtain ⟨u,rfl,rp⟩:=WA r;cases (show u=Value.ref a from rp);obtain ⟨as,rd⟩:=dv.reads I (show QJ (.ref a) (.ref a) from rfl);refine repr_of_reads' rd ok.sh (PyData.noDict_hsm ok.nd) hg (by have:=ok.dp;omega) (λ_ _ e=>e) (λh' u tk hk=>?_) ok.fit;exact ⟨.str _,H,I.kept (h':=h') (t':=tk) hk,⟨_,rfl⟩,q⟩
def N6 (hg:X.A.guards=some []) (hu:X.A.units+64<cLine):JU X (.type "str") (λxs H Q=>∃ a d,xs=[.ref a]/\DV X.K H (.ref a) d/\ShW d/\Q (.str d.shown) H):=by
 intro pins s σ H xs us Q I r h;obtain ⟨a,d,rfl,dv,ok,q⟩:=h;obtain ⟨u,rfl,rp⟩:=WA r;cases (show u=Value.ref a from rp);obtain ⟨as,rd⟩:=dv.reads I (show QJ (.ref a) (.ref a) from rfl);refine str_of_reads rd ok.sh (PyData.noDict_hsm ok.nd) hg (by have:=ok.dp;omega) (λ_ _ e=>e) (λh' u tk hk=>?_) ok.fit;exact ⟨.str _,H,I.kept (h':=h') (t':=tk) hk,⟨_,rfl⟩,q⟩
def shV (st:Bool):V->Hp->(Str->Prop)->Prop:=λv H q=>match v with
 |.non=>q (Str.ofString "None")
 |.bl b=>q (if b=true then Str.ofString "True" else Str.ofString "False")
 |.int i=>i.natAbs.log2<1920/\q (Str.ofString (toString i))
 |.str x=>if st then q x else (reprText x).length<=sizeLine/\q (reprText x)
 |.ref a=>∃ d,DV X.K H (.ref a) d/\ShW d/\q d.shown
 |_=>False
def K7 (hg:X.A.guards=some []) (hu:X.A.units+64<cLine):JU X (.type "str") (λxs H Q=>∃ v,xs=[v]/\shV (X:=X) true v H λx=>Q (.str x) H):=by
 intro pins s σ H xs us Q I r h;obtain ⟨v,rfl,h⟩:=h;obtain ⟨u,rfl,rp⟩:=WA r;cases v with
 |non=>cases (show u=Value.none from rp);exact P.str_of_none ⟨.str _,H,I.tok _,⟨_,rfl⟩,h⟩
 |bl b=>cases (show u=Value.bool b from rp);exact P.str_of_bool ⟨.str _,H,I.tok _,⟨_,rfl⟩,h⟩
 |int i=>obtain ⟨t,rfl⟩:=(show ∃ t,u=Value.int i t from rp);exact P.str_of_int h.1 ⟨.str _,H,I.tok _,⟨_,rfl⟩,h.2⟩
 |str x=>obtain ⟨t,rfl⟩:=(show ∃ t,u=Value.str x t from rp);exact P.str_of_str ⟨.str _,H,I,⟨_,rfl⟩,h⟩
 |ref a=>
  obtain ⟨d,dv,ok,q⟩:=h;exact N6 hg hu _ _ _ _ _ _ _ I r ⟨a,d,rfl,dv,ok,q⟩
 |_=>exact h.elim
def DY (hg:X.A.guards=some []) (hu:X.A.units+64<cLine):JU X (.builtin "repr") (λxs H Q=>∃ v,xs=[v]/\shV (X:=X) false v H λx=>Q (.str x) H):=by
 intro pins s σ H xs us Q I r h;obtain ⟨v,rfl,h⟩:=h;obtain ⟨u,rfl,rp⟩:=WA r;cases v with
 |non=>cases (show u=Value.none from rp);exact P.repr_of_none ⟨.str _,H,I.tok _,⟨_,rfl⟩,h⟩
 |bl b=>cases (show u=Value.bool b from rp);exact P.repr_of_bool ⟨.str _,H,I.tok _,⟨_,rfl⟩,h⟩
 |int i=>obtain ⟨t,rfl⟩:=(show ∃ t,u=Value.int i t from rp);exact P.repr_of_int h.1 ⟨.str _,H,I.tok _,⟨_,rfl⟩,h.2⟩
 |str x=>obtain ⟨t,rfl⟩:=(show ∃ t,u=Value.str x t from rp);exact P.repr_of_str ⟨.str _,H,I.tok _,⟨_,rfl⟩,h.2⟩ h.1
 |ref a=>
  obtain ⟨d,dv,ok,q⟩:=h;exact NF hg hu _ _ _ _ _ _ _ I r ⟨a,d,rfl,dv,ok,q⟩
 |_=>exact h.elim
def shT (st:Bool):T->Gp->(Str->Prop)->Prop:=λx G q=>match x with
 |.non=>q (Str.ofString "None")
 |.bl b=>q (if b=true then Str.ofString "True" else Str.ofString "False")
 |.int i=>i.natAbs.log2<1920/\q (Str.ofString (toString i))
 |.str x=>if st then q x else (reprText x).length<=sizeLine/\q (reprText x)
 |.tup _=>∃ d,Dp G x d/\ShW d/\q d.shown
 |.ref _=>∃ d,Dp G x d/\ShW d/\q d.shown
def SS (st:Bool):List T->Gp->Q3->Prop:=λxs G q=>match xs with
 |[x]=>shT st x G λy=>q (.str y) G
 |_=>False
def RR {st:Bool}:KI X.K (SS st) (λxs H Q=>∃ v,xs=[v]/\shV (X:=X) st v H λx=>Q (.str x) H):=λxs vs G H q Q hr rs h af=>by
 unfold SS at h;split at h
 ·rename_i x;obtain ⟨v,rfl,r⟩:=T7 rs;refine ⟨v,rfl,?_⟩;cases r with
  |non=>exact af _ G h _ H (.str _) hr Kp.refl
  |bl b=>exact af _ G h _ H (.str _) hr Kp.refl
  |int i=>exact ⟨h.1,af _ G h.2 _ H (.str _) hr Kp.refl⟩
  |str x=>
   cases st with
   |true=>exact af _ G h _ H (.str _) hr Kp.refl
   |false=>exact ⟨h.1,af _ G h.2 _ H (.str _) hr Kp.refl⟩
  |tup hs r2=>
   obtain ⟨d,h1,h2,h3⟩:=h;exact ⟨d,h1.dv hr (.tup hs r2),h2,af _ G h3 _ H (.str _) hr Kp.refl⟩
  |ref a=>
   obtain ⟨d,h1,h2,h3⟩:=h;exact ⟨d,h1.dv hr (.ref a),h2,af _ G h3 _ H (.str _) hr Kp.refl⟩
 ·exact h.elim
def qcV:OpR X (binaryOp .Add) (λx y H Q=>∃ a b ys,x=.ref a/\y=.ref b/\SqT X.K H a []/\SqT X.K H b ys/\Q (.ref b) H):=by
 intro pins s σ H x y v u Q I rx ry h;obtain ⟨a,b,ys,rfl,rfl,ha,hb,q⟩:=h;cases rx;cases ry;obtain ⟨its,r1,p1,_⟩:=I.tuple ha;obtain ⟨its2,r2,p2,_⟩:=I.tuple hb;cases r1;obtain ⟨⟨cls,dd,data,sl⟩,ho,hc,n,hd⟩:=id p1;obtain ⟨⟨cls2,dd2,data2,sl2⟩,ho2,hc2,n2,hd2⟩:=id p2;simp only at hc hd hc2 hd2;subst hc hd hc2 hd2;exact concat_meets ⟨_,ho,rfl⟩ ⟨_,ho2,rfl⟩ noFill_tuple_add seq_tuple_add PySem.F.slot_tuple_add PySem.F.entry_tuple_add (PySem.F.args_tuple_add_2 _ _)
   (tuple_addW0 a b #[] its2.toArray n n2 dd dd2 sl sl2 rfl) ⟨ho,ho2,⟨.ref b,H,I,rfl,q⟩⟩
def YB:R3:=λx y G q=>match x,y with
 |.tup xs,.tup ys=>xs.length+ys.length<=sizeLine/\q (.tup (xs++ys)) G
 |.ref a,.ref b=>(match G a,G b with|some (.lst xs),some (.lst ys)=>xs.length+ys.length<=sizeLine/\∀ p,G p=none->q (.ref p) (gu G p (.lst (xs++ys)))|_,_=>False)
 |.int i,.int j=>q (.int (i+j)) G
 |_,_=>False
def qch:XT X.K YB (λx y H Q=>((rI0 (λi j=>.int (i+j)) x y H Q\/qeX X.K x y H Q)\/qmY x y H Q)\/∃ a b ys,x=.ref a/\y=.ref b/\SqT X.K H a []/\SqT X.K H b ys/\Q (.ref b) H):=λx y v u G H q Q hr rx ry h af=>by
 cases x with
 |tup xs=>
  cases y with
  |tup ys=>
   cases xs with
   |nil=>
    cases rx with
    |tup hs rs=>
     cases rs;cases ry with
     |tup hs' rs'=>exact .inr ⟨_,_,_,rfl,rfl,hs,hs',af _ G h.2 _ H (.tup hs' rs') hr Kp.refl⟩
   |cons x xs=>exact .inl (RM _ _ v u G H q Q hr rx ry ⟨by simp,h⟩ af)
  |_=>exact h.elim
 |ref a=>
  cases y with
  |ref b=>exact .inl (RM (.ref a) (.ref b) v u G H q Q hr rx ry h af)
  |_=>exact h.elim
 |int i=>
  cases y with
  |int j=>exact .inl (RM (.int i) (.int j) v u G H q Q hr rx ry h af)
  |_=>exact h.elim
 |_=>exact h.elim
def zT (ha:jE3 X a ta) (hb:jE3 X b tb):jE3 X (.BinOp a .Add b pos) (o3 YB ta tb):=⟨M1 (((qd0.or qau).or qdp).or qcV) qch ha.h hb.h⟩
def DH {prog:Program} {w:World} {A:Around} {E:Value->Shared->Prop} {s:Shared} {t sl:Addr} {items:Array Value} {vl vu:Value} {lo hi:Option Int} {Q:Value->Shared->Prop} (ht:IsTup s.heap t items) (hs:s.heap.IsSliceOf sl vl vu .none) (pl:IsPart vl lo) (pu:IsPart vu hi)
  (hw:HT.sIx items.size 0 lo=0/\HT.sIx items.size items.size hi=items.size) (h:Q (.ref t) s):wpAny (model prog w) A (getItem (.ref t) (.ref sl)) Q E s:=by
 obtain ⟨os,hos,hcs,hds⟩:=id hs;have hTs:s.TypeIs (.ref sl) "slice" := ⟨os,hos,hcs⟩
 unfold getItem
 try with_reducible refine wpAny_holding ?_
 first|refine wpAny_bind (wpAny_pure ?_)|skip
 refine wpAny_bind (wpAny_sequenceKey ht.typeIs (by decide) ?_);refine wpAny_bind (wpAny_callSpecial?_slot (name:=Str.ofString "__getitem__") ht.typeIs PyProof.Rows.slot_tuple_getitem
  (wpAny_call_entry PyProof.Rows.slot_tuple_getitem ht.typeIs entry_tuple_getitem ?_ (args_tuple_getitem _ _)))
 show wpAny _ _ (Builtin.Tuple.tupleItemsOf (.ref t) >>= _) _ _ s;refine wpAny_bind (tupleItemsOf_ ht ?_);refine wpAny_bind (wpAny_typeOf hTs ?_);rw [if_pos (by decide)];refine wpAny_bind (HT.VD hs pl pu ?_);have hyes:(((HT.sIx items.size 0 lo:Nat):Int)==0&&(1:Int)==1&&(HT.sIx items.size items.size hi-HT.sIx items.size 0 lo)==items.size)=true:=by
  rw [hw.1,hw.2];simp
 show wpAny _ _ (if (((HT.sIx items.size 0 lo:Nat):Int)==0&&(1:Int)==1&&(HT.sIx items.size items.size hi-HT.sIx items.size 0 lo)==items.size)=true then _ else _) _ _ s;rw [if_pos hyes];unfold Builtin.Tuple.tupleIsExact;refine wpAny_bind (wpAny_bind (wpAny_typeOf ht.typeIs (wpAny_pure ?_)));rw [if_pos (by decide)];refine wpAny_bind (wpAny_rule ?_);exact wpAny_pure ⟨_,rfl,wpAny_pure h⟩
def qoV (K:Frg):V->Option Int->Option Int->Hp->VK->Prop:=λx lo hi H Q=>∃ a xs,x=.ref a/\SqT K H a xs/\(HT.sIx xs.length 0 lo=0/\HT.sIx xs.length xs.length hi=xs.length)/\Q (.ref a) H
def qcw:SlR X (qoV X.K):=by
 intro pins s σ H x v vl vu lo hi sl Q I rx hs pl pu h;obtain ⟨a,xs,rfl,hx,hw,q⟩:=h;cases rx;obtain ⟨its,r,ht,hz⟩:=I.tuple hx;have hlen:its.toArray.size=xs.length:=by rw [size_toArray];exact r.length.symm
 refine ⟨"tuple",_,PyProof.Rows.slot_tuple_getitem.lookup,ht.typeIs,?_⟩;exact DH ht hs pl pu (by rw [hlen];exact hw) ⟨.ref a,H,I,rfl,q⟩
def qng:T->Option Int->Option Int->Gp->Q3->Prop:=λx lo hi G q=>match x with
 |.tup xs=>q (.tup (EJ xs lo hi)) G
 |.ref p=>(match getL G p with|some xs=>∀ a,G a=none->q (.ref a) (gu G a (.lst (EJ xs lo hi)))|none=>False)
 |_=>False
def EM (te:TE3) (tl th:TO3):TE3:=λτ G q=>te τ G λx G1=>tl τ G1 λl G2=>th τ G2 λu G3=>qng x l u G3 q
def jc {e:Expr} {te:TE3} {lo hi:Option Expr} {tl th:TO3} {p2:Pos} (he:jE3 X e te) (hl:jP3 X lo tl) (hu:jP3 X hi th):jE3 X (.Subscript e (.Slice lo hi none p2) pos) (EM te tl th):=
 ⟨WF (RY ((qc6.or qax).or qcw) he.h hl.h hu.h) λ_ _ _ ⟨τ,G,q,rl,h,af⟩=>jG rl h λx G1 h1 v H1 rx hr1 k1 rl1=>
  ⟨τ,G1,_,rl1,h1,λl G2 h2 H2 hr2 k2=>⟨τ,G2,_,rl1.next hr2 k2,h2,λu G3 h3 H3 hr3 k3=>by
   have kk:=(k1.trans k2).trans k3;have rx3:=(rx.keep hr1 k2).keep hr2 k3;cases x<;>try exact h3.elim
   case tup xs=>
    cases rx3 with
    |tup hs rs=>
     by_cases hw:HT.sIx xs.length 0 l=0/\HT.sIx xs.length xs.length u=xs.length
     ·refine .inr ⟨_,_,rfl,hs,by rw [← rs.length];exact hw,?_⟩;have e:EJ xs l u=xs:=by unfold EJ;rw [hw.1,hw.2];simp
      have h4:q (.tup (EJ xs l u)) G3:=h3;rw [e] at h4;exact af _ G3 h4 _ _ (.tup hs rs) hr3 kk
     ·refine .inl (.inl ⟨_,_,rfl,hs,by rw [← rs.length];exact hw,λp hp=>?_⟩);exact af _ G3 h3 _ _ (.tup (SqT.of zK) ((rs.cut _ _).keep hr3 (Kp.laid hp))) (hr3.laid hp) (kk.trans (Kp.laid hp))
   case ref p=>
    unfold qng at h3;simp only at h3;split at h3
    ·rename_i xs e0;cases rx3;obtain ⟨vs,hs,rs⟩:=jT hr3 e0;refine .inl (.inr ⟨p,vs,rfl,hs,λa ha=>?_⟩);exact af _ _ (h3 a (hr3.free ha)) _ _ (.ref a) (hr3.newL ha (rs.cut _ _)) (kk.trans (Kp.newL ha))
    ·exact h3.elim⟩⟩⟩
end
end L3
namespace HT
open PySem PySem.Spec PyProof.Rows
section
variable {prog:Program} {w:World} {A:Around} {E:Value->Shared->Prop} {s:Shared}
def NG (n:Nat):Builtin.Slice.sliceAdjust none none (-1) (n:Int)=((n:Int)-1,-1):=rfl
def MO (n:Nat):Builtin.Slice.slicePlaces ((n:Int)-1) (-1) (-1)=n:=by
 unfold Builtin.Slice.slicePlaces;rw [if_neg (by decide)];have e:- (-1:Int)=1:=by decide
 rw [e,Int.ediv_one];split<;>omega
def WC {sl:Addr} {vk:Value} {n:Nat} {Q:Int×Int×Nat->Shared->Prop} (hs:s.heap.IsSliceOf sl .none .none vk) (pk:IsPart vk (some (-1)))
  (h:Q ((n:Int)-1,-1,n) s):wpAny (model prog w) A (Builtin.Slice.sliceApplied (.ref sl) (pure (n:Int))) Q E s:=by
 obtain ⟨os,hos,hcs,hds⟩:=id hs;unfold Builtin.Slice.sliceApplied Builtin.Slice.sliceFields;refine wpAny_bind (wpAny_bind (wpAny_field hos hds (x:=.none) rfl (wpAny_bind (wpAny_field hos hds (x:=.none) rfl (wpAny_bind (wpAny_field hos hds (x:=vk) rfl (wpAny_pure ?_)))))));refine wpAny_bind (EW pk ?_);show wpAny _ _ (if ((-1:Int)==0)=true then _ else _) _ _ s;rw [if_neg (by decide)];refine wpAny_bind (slicePart_none (wpAny_bind (slicePart_none (wpAny_bind (wpAny_pure ?_)))));show wpAny _ _ (match Builtin.Slice.sliceAdjust none none (-1) (n:Int) with|(lo,hi)=>pure (lo,(-1:Int),Builtin.Slice.slicePlaces lo hi (-1))) _ _ s;rw [NG n];show wpAny _ _ (pure ((n:Int)-1,(-1:Int),Builtin.Slice.slicePlaces ((n:Int)-1) (-1) (-1))) _ _ s;rw [MO];exact wpAny_pure h
def MF {α β:Type} {f g:α->Option β}:∀ {l:List α},(∀ x∈l,f x=g x)->l.filterMap f=l.filterMap g
 |[],_=>rfl
 |x::l,h=>by rw [List.filterMap_cons,List.filterMap_cons,h x (by simp),MF λy hy=>h y (by simp [hy])]
def qco (xs:Array Value):((List.range xs.size).filterMap λ(m:Nat)=>xs[((xs.size:Int)-1+(m:Int)*(-1)).toNat]?).toArray=xs.toList.reverse.toArray:=by
 congr 1;have e:((List.range xs.size).filterMap λ(m:Nat)=>xs[((xs.size:Int)-1+(m:Int)*(-1)).toNat]?)=(List.range xs.size).filterMap λ(m:Nat)=>xs.toList.reverse[m]?:=by
  refine MF λm hm=>?_;have hm:=mem_range.mp hm;have h1:((xs.size:Int)-1+(m:Int)*(-1)).toNat=xs.size-1-m:=by omega
  rw [h1,List.getElem?_reverse (by simpa using hm),Array.getElem?_toList,Array.length_toList]
 rw [e];have l:xs.size=xs.toList.reverse.length:=by simp
 rw [l];generalize xs.toList.reverse=ys;clear e l;induction ys with
 |nil=>rfl
 |cons y ys ih=>
  rw [length_cons,List.range_succ_eq_map,List.filterMap_cons];simp only [getElem?_cons_zero,List.filterMap_map];congr 1
def DB {t sl:Addr} {items:Array Value} {vk:Value} {Q:Value->Shared->Prop} (ht:IsTup s.heap t items) (hs:s.heap.IsSliceOf sl .none .none vk) (pk:IsPart vk (some (-1)))
  (h:Q (.ref s.heap.objs.size) { s with heap:=s.heap.push { cls:=.type "tuple",data:=.seq items.toList.reverse.toArray } })
  (hsz:items.size<=sizeLine):wpAny (model prog w) A (getItem (.ref t) (.ref sl)) Q E s:=by
 have htake:sizeOk (.seq items.toList.reverse.toArray):=by
  show items.toList.reverse.toArray.size<=sizeLine;rw [size_toArray,List.length_reverse,Array.length_toList];exact hsz
 obtain ⟨os,hos,hcs,hds⟩:=id hs;have hTs:s.TypeIs (.ref sl) "slice" := ⟨os,hos,hcs⟩
 unfold getItem
 try with_reducible refine wpAny_holding ?_
 first|refine wpAny_bind (wpAny_pure ?_)|skip
 refine wpAny_bind (wpAny_sequenceKey ht.typeIs (by decide) ?_);refine wpAny_bind (wpAny_callSpecial?_slot (name:=Str.ofString "__getitem__") ht.typeIs PyProof.Rows.slot_tuple_getitem
  (wpAny_call_entry PyProof.Rows.slot_tuple_getitem ht.typeIs entry_tuple_getitem ?_ (args_tuple_getitem _ _)))
 show wpAny _ _ (Builtin.Tuple.tupleItemsOf (.ref t) >>= _) _ _ s;refine wpAny_bind (tupleItemsOf_ ht ?_);refine wpAny_bind (wpAny_typeOf hTs ?_);rw [if_pos (by decide)];refine wpAny_bind (WC hs pk ?_);show wpAny _ _ (if ((((items.size:Int)-1)==0&&(-1:Int)==1&&items.size==items.size)=true) then _ else _) _ _ s;rw [if_neg (by intro q;rw [Bool.and_eq_true,Bool.and_eq_true] at q;exact absurd q.1.2 (by decide)),qco]
 first
  |exact wpAny_bind (m:=Builtin.Tuple.tupleExact _) (wpAny_newObj_type (wpAny_pure ⟨_,rfl,wpAny_pure h⟩) htake)
  |exact wpAny_bind (m:=Builtin.Tuple.tupleExact _) (wpAny_newObj_type (wpAny_bind (wpAny_pure (wpAny_pure ⟨_,rfl,wpAny_pure h⟩))) htake)
  |exact wpAny_bind (wpAny_bind (m:=Builtin.Tuple.tupleExact _) (wpAny_newObj_type (wpAny_pure (wpAny_pure ⟨_,rfl,wpAny_pure h⟩)) htake))
  |exact wpAny_bind (wpAny_bind (m:=Builtin.Tuple.tupleExact _) (wpAny_newObj_type (wpAny_pure ⟨_,rfl,wpAny_pure h⟩) htake))
end
end HT
namespace L3
open PySem PySem.Spec PyProof.Rows L2
section
variable {X:Cx} {e ek:Expr} {p2 pos:Pos}
def qo4 (K:Frg) (te:TE) (tk:TO):TE:=λσ H Q=>te σ H λx H1=>tk σ H1 λk H2=>k=some (-1)/\((∃ a xs,x=.ref a/\SqL K H2 a xs/\∀ p,H2 p=none->Q (.ref p) (upd H2 p (.lst xs.reverse)))\/(∃ a xs,x=.ref a/\SqT K H2 a xs/\∀ p,H2 p=none->Q (.ref p) (upd H2 p (.tup xs.reverse))))
def qjQ {te:TE} {tk:TO} (he:PE X e te) (hk:PO X (some ek) tk) {ops:Value->Value->List Value} (hs:∀ v w,subscripted (.Slice none none (some ek) p2) false v w=operate (ops v w) (getItem v w)):PE X (.Subscript e (.Slice none none (some ek) p2) pos) (qo4 X.K te tk):=by
 intro pins s σ H Q I h;refine Subscript_ (thn (he pins s σ H _ I h) λv s1 ⟨x,H1,I1,r1,q1⟩=>?_);refine wpAny_Slice ?_;rw [evalPart_none];refine wpAny_pure ?_;refine wpAny_pure ?_;refine thn (hk pins s1 σ H1 _ I1 q1) λvk s3 ⟨k,H3,I3,pk,q3⟩=>?_;obtain ⟨rfl,q3⟩:=q3;have I4:Inv X pins σ H3 { s3 with heap:=s3.heap.push { cls:=.type "slice",data:=.fields #[.none,.none,vk] } }:=I3.kept (t':=s3.toks) λb ob q=>Heap.get?_push_of_some _ q;rcases q3 with ⟨a,xs,rfl,hx,q⟩|⟨a,xs,rfl,hx,q⟩
 ·cases r1;obtain ⟨its,r,ht,hz⟩:=I4.list hx;have hlen:=r.length;show wpAny (model X.prog X.w) X.A (subscriptTail e (.Slice none none (some ek) p2) (.ref a) (.ref s3.heap.objs.size)) (EP X pins σ Q) X.xe { s3 with heap:=s3.heap.push { cls:=.type "slice",data:=.fields #[.none,.none,vk] } };refine tail_any (ops:=ops (.ref a) (.ref s3.heap.objs.size)) (T:="list") ht.isList.typeIs slot_list_getitem.lookup ?_ (hs _ _);refine wpAny_getItem_list_slice ht.isList (Heap.IsSliceOf.new ..) .none .none pk (by decide) ?_ (by rw [size_toArray]<;>omega);rw [PySem.W.krv_pick];refine ⟨.ref _,_,I4.laid (t':=s3.toks) (o:=.lst xs.reverse) (λb ob q=>Heap.get?_push_of_some _ q) (Nat.le_refl _) ?_,rfl,q _ (I4.hok.fresh (Nat.le_refl _))⟩;exact ⟨by rw [List.length_reverse];exact hz,_,0,r.reverse,Heap.get?_push_size _ rfl⟩
 ·cases r1;obtain ⟨its,r,ht,hz⟩:=I4.tuple hx;have hlen:its.toArray.size=xs.length:=by rw [size_toArray];exact r.length.symm
  show wpAny (model X.prog X.w) X.A (subscriptTail e (.Slice none none (some ek) p2) (.ref a) (.ref s3.heap.objs.size)) (EP X pins σ Q) X.xe { s3 with heap:=s3.heap.push { cls:=.type "slice",data:=.fields #[.none,.none,vk] } };refine tail_any (ops:=ops (.ref a) (.ref s3.heap.objs.size)) (T:="tuple") ht.typeIs PyProof.Rows.slot_tuple_getitem.lookup ?_ (hs _ _);refine HT.DB ht (Heap.IsSliceOf.new ..) pk ?_ (by rw [hlen];exact hz);refine ⟨.ref _,_,I4.laid (t':=s3.toks) (o:=.tup xs.reverse) (λb ob q=>Heap.get?_push_of_some _ q) (Nat.le_refl _) ?_,rfl,q _ (I4.hok.fresh (Nat.le_refl _))⟩;exact ⟨by rw [List.length_reverse];exact hz,_,r.reverse,IsTup.new _ _⟩
def qlU (te:TE3) (tk:TO3):TE3:=λτ G q=>te τ G λx G1=>tk τ G1 λk G2=>k=some (-1)/\(match x with|.tup xs=>q (.tup xs.reverse) G2|.ref p=>(match getL G2 p with|some xs=>∀ a,G2 a=none->q (.ref a) (gu G2 a (.lst xs.reverse))|none=>False)|_=>False)
def qdO {te:TE3} {tk:TO3} (he:jE3 X e te) (hk:jP3 X (some ek) tk) {ops:Value->Value->List Value} (hs:∀ v w,subscripted (.Slice none none (some ek) p2) false v w=operate (ops v w) (getItem v w)):jE3 X (.Subscript e (.Slice none none (some ek) p2) pos) (qlU te tk):=
 ⟨WF (qjQ he.h hk.h hs) λ_ _ _ ⟨τ,G,q,rl,h,af⟩=>jG rl h λx G1 h1 v H1 rx hr1 k1 rl1=>
  ⟨τ,G1,_,rl1,h1,λk G2 h2 H2 hr2 k2=>by
   obtain ⟨hk,h2⟩:=h2;have rx2:=rx.keep hr1 k2;cases x<;>try exact h2.elim
   case tup xs=>
    cases rx2 with
    |tup hs' rs=>exact ⟨hk,.inr ⟨_,_,rfl,hs',λp hp=>af _ G2 h2 _ _ (.tup (SqT.of zK) ((KM rs).keep hr2 (Kp.laid hp))) (hr2.laid hp) ((k1.trans k2).trans (Kp.laid hp))⟩⟩
   case ref p=>
    simp only at h2;split at h2
    ·rename_i xs e0;cases rx2;obtain ⟨vs,hs',rs⟩:=jT hr2 e0;exact ⟨hk,.inl ⟨p,vs,rfl,hs',λa ha=>af _ _ (h2 a (hr2.free ha)) _ _ (.ref a) (hr2.newL ha (KM rs)) ((k1.trans k2).trans (Kp.newL ha))⟩⟩
    ·exact h2.elim⟩⟩
end
section
variable {X:Cx} {a b:Expr} {ta tb:TE3} {pos:Pos}
def nbT:T->Option Int
 |.int i=>some i
 |.bl k=>some (if k=true then 1 else 0)
 |_=>none
def nI3 (f:Int->Int->Int):R3:=λx y G q=>match nbT x,y with|some i,.int j=>q (.int (f i j)) G|_,_=>False
def nbV:V->Option Int
 |.int i=>some i
 |.bl k=>some (if k=true then 1 else 0)
 |_=>none
def KO {K:Frg} {H:Hp} {x:T} {v:V} {i:Int} (r:Rp K H x v) (h:nbT x=some i):nbV v=some i:=by
 cases r<;>first|exact h|cases h
def qfC:OpR X (binaryOp .Add) (λx y H Q=>∃ i j,nbV x=some i/\y=.int j/\Q (.int (i+j)) H):=by
 intro pins s σ H x y v u Q I rx ry h;obtain ⟨i,j,e,rfl,q⟩:=h;obtain ⟨t,rfl⟩:=ry;cases x<;>cases e
 ·cases rx;exact PySem.IntBool.add_bool_int ⟨.int _,H,I.tok _,⟨_,rfl⟩,q⟩
 ·obtain ⟨t',rfl⟩:=rx;exact add_int ⟨.int _,H,I.tok _,⟨_,rfl⟩,q⟩
def qfO:OpR X (binaryOp .Sub) (λx y H Q=>∃ i j,nbV x=some i/\y=.int j/\Q (.int (i-j)) H):=by
 intro pins s σ H x y v u Q I rx ry h;obtain ⟨i,j,e,rfl,q⟩:=h;obtain ⟨t,rfl⟩:=ry;cases x<;>cases e
 ·cases rx;exact PySem.IntBool.sub_bool_int ⟨.int _,H,I.tok _,⟨_,rfl⟩,q⟩
 ·obtain ⟨t',rfl⟩:=rx;exact sub_int ⟨.int _,H,I.tok _,⟨_,rfl⟩,q⟩
def qeL {K:Frg} {f:Int->Int->Int}:XT K (nI3 f) (λx y H Q=>∃ i j,nbV x=some i/\y=.int j/\Q (.int (f i j)) H):=λx y v u G H q Q hr rx ry h af=>by
 unfold nI3 at h;split at h
 ·rename_i i j e;cases ry;exact ⟨i,j,KO rx e,rfl,af _ G h _ H (.int _) hr Kp.refl⟩
 ·exact h.elim
def qgr (ha:jE3 X a ta) (hb:jE3 X b tb):jE3 X (.BinOp a .Add b pos) (o3 (nI3 (·+·)) ta tb):=⟨M1 qfC qeL ha.h hb.h⟩
def qe1 (ha:jE3 X a ta) (hb:jE3 X b tb):jE3 X (.BinOp a .Sub b pos) (o3 (nI3 (·-·)) ta tb):=⟨M1 qfO qeL ha.h hb.h⟩
end
abbrev Rd (sp:Sp3) (n:Nat) (t:TS3) (N:List Str):Prop:=∀ ts G q,sp ts G q->ts.length=n/\t { nx:=λ_ G'=>q .non G',rt:=q } (qt N ts) G
def jgn {pos:Pos} {X:Cx} {x:Str} (i:Nat) (hN:decide X.N.Nodup=true:=by kernel_rfl) (hi:X.N[i]?=some x:=by rfl) (hx:Loc X.env.scope x:=by first|exact Or.inl rfl|exact Or.inr rfl) (hf:X.fn x=true\/X.env.scope.names.lookup x=some .local:=by first|exact .inl rfl|exact .inr rfl):jG3 X (.Name x pos) (gn3 i):=
 qO (of_decide_eq_true hN) hi hx hf
end L3
namespace L2
open PySem PySem.Spec PyProof.Rows
section
variable {X:Cx} {pos:Pos}
def qmL (i j k:Nat) (ta:TA):TS:=λD σ H=>ta σ H λvs H1=>∃ u v w,vs=[u,v,w]/\D.nx (((σ.set i (some u)).set j (some v)).set k (some w)) H1
def qgK {i j k:Nat} {x y z:Str} {a b c:Expr} {ta:TA} {px py pz pt:Pos} {kt k2 pt2} (hc:X.calm=true) (hN:X.N.Nodup) (hi:X.N[i]?=some x) (hj:X.N[j]?=some y) (hk:X.N[k]?=some z) (hij:i≠j) (hik:i≠k) (hjk:j≠k)
  (hx:X.env.scope.names.lookup x=some .local) (hy:X.env.scope.names.lookup y=some .local) (hz:X.env.scope.names.lookup z=some .local) (ha:PA X [a,b,c] ta)
  (hw:swappedStores [.Tuple [.Name x px,.Name y py,.Name z pz] kt pt] (.Tuple [a,b,c] k2 pt2) X.env=pure (some [x,y,z]))
  (hs:swapsWithSole [.Tuple [.Name x px,.Name y py,.Name z pz] kt pt] (.Tuple [a,b,c] k2 pt2) pos.line X.env=pure false:=by rfl) :
  PS X (.Assign [.Tuple [.Name x px,.Name y py,.Name z pz] kt pt] (.Tuple [a,b,c] k2 pt2) pos) (qmL i j k ta):=by
 intro pins s σ H D I h;rw [exec_Assign_arm];refine wpAny_bind (wpAny_standAt ?_);rw [hs];refine wpAny_bind (wpAny_pure ?_);rw [if_neg (by decide)];refine wpAny_bind (Tuple_ (thn (ha _ pins s σ H _ I h) λus s1 ⟨vs,H1,I1,r1,q1⟩=>?_));obtain ⟨v,w,v3,e1,q1⟩:=q1;subst e1;obtain ⟨u1,u2,u3,rfl,rv,rw',rz⟩:∃ u1 u2 u3,us=[u1,u2,u3]/\QJ v u1/\QJ w u2/\QJ v3 u3:=by
  cases r1 with
  |cons p q=>
   cases q with
   |cons p' q'=>
    cases q' with
    |cons p2 q2=>
     cases q2;exact ⟨_,_,_,rfl,p,p',p2⟩
 refine wpAny_newObj_type ?_ (by show 3<=sizeLine;decide);have I2:Inv X pins σ H1 { s1 with heap:=s1.heap.push { cls:=.type "tuple",data:=.seq [u1,u2,u3].toArray } }:=I1.kept (t':=s1.toks) λb o e=>Heap.get?_push_of_some _ e;rw [hw];refine wpAny_bind (wpAny_pure ?_);show wpAny (model X.prog X.w) X.A (do rule "assign.swapped-stores";let items←unpackItems (.ref s1.heap.objs.size) 3 none;assignInOrder [λv=>bindName X.env z v,λv=>bindName X.env y v,λv=>bindName X.env x v] items.reverse;pure Flow.next) _ _ _;refine wpAny_bind (wpAny_rule (wpAny_bind (unpackItems_tuple (items:=#[u1,u2,u3]) (I.ok.hd hc) (IsTup.new s1.heap _) λh' hx'=>?_)));have I3:=I2.kept (h':=h') (t':=s1.toks) λb o e=>hx' b o (Nat.ne_of_lt (Heap.lt_size e)) e;show wpAny _ _ (assignInOrder [λv=>bindName X.env z v,λv=>bindName X.env y v,λv=>bindName X.env x v] [u3,u2,u1] >>= λ_=>pure Flow.next) _ _ _;refine wpAny_bind (assignInOrder_cons (wpAny_bindName (YK I3 hN hk (.inl hz) rz (λs2 I4=>?_) (.inr hz))));refine assignInOrder_cons (wpAny_bindName (YK I4 hN hj (.inl hy) rw' (λs3 I5=>?_) (.inr hy)));refine assignInOrder_cons (wpAny_bindName (YK I5 hN hi (.inl hx) rv (λs4 I6=>assignInOrder_nil (wpAny_pure ?_)) (.inr hx)));rw [List.set_comm _ _ (Ne.symm hjk),List.set_comm _ _ (Ne.symm hik),List.set_comm _ _ (Ne.symm hij)] at I6;exact ⟨_,H1,I6,q1⟩
end
end L2
namespace L3
open PySem PySem.Spec PyProof.Rows L2
section
variable {X:Cx} {pos:Pos}
def qfp {i j k:Nat} {x y z:Str} {a b c:Expr} {tt:TA3} {px py pz pt:Pos} {kt k2 pt2} (hc:X.calm=true) (hN:X.N.Nodup) (hi:X.N[i]?=some x) (hj:X.N[j]?=some y) (hk:X.N[k]?=some z) (hij:i≠j) (hik:i≠k) (hjk:j≠k)
  (hx:X.env.scope.names.lookup x=some .local) (hy:X.env.scope.names.lookup y=some .local) (hz:X.env.scope.names.lookup z=some .local) (ha:jA3 X [a,b,c] tt)
  (hw:swappedStores [.Tuple [.Name x px,.Name y py,.Name z pz] kt pt] (.Tuple [a,b,c] k2 pt2) X.env=pure (some [x,y,z]):=by rfl)
  (hs:swapsWithSole [.Tuple [.Name x px,.Name y py,.Name z pz] kt pt] (.Tuple [a,b,c] k2 pt2) pos.line X.env=pure false:=by rfl) :
  jS3 X (.Assign [.Tuple [.Name x px,.Name y py,.Name z pz] kt pt] (.Tuple [a,b,c] k2 pt2) pos) (zw (ju tt) (QK 3 (qC (gn3 i) (qC (gn3 j) (qC (gn3 k) QI))))):=⟨qbR (qgK hc hN hi hj hk hij hik hjk hx hy hz ha.h hw hs) λ_ σ H ⟨τ,G,d,rl,h,af⟩=>
 UF rl h λxs G1 h1 vs H1 rs hr1 k1 rl1=>by
  obtain ⟨_,h3,h1⟩:=h1;obtain ⟨x0,x1,x2,rfl⟩:∃ a b c,xs=[a,b,c]:=match xs,h3 with|[a,b,c],_=>⟨a,b,c,rfl⟩
  cases rs with
  |cons r0 rs=>cases rs with
   |cons r1 rs=>cases rs with
    |cons r2 rs=>
     cases rs;exact ⟨_,_,_,rfl,af.nx _ G1 h1 _ H1 (((rl1.set i r0).set j r1).set k r2) k1⟩⟩
end
end L3
namespace HT
open PySem PyProof.Rows
section
variable {prog:Program} {w:World} {A:Around} {E:Value->Shared->Prop} {s:Shared}
end
end HT
namespace L3
open PySem PySem.Spec PyProof.Rows L2
section
variable {X:Cx}
end
end L3
namespace Tb8
open PySem PySem.SetTable
def gD {xs:Array Nat} {i d e:Nat} (h:i<xs.size):xs.getD i d=xs.getD i e:=by simp [Array.getD,h]
def hd (M i p:Nat):Probe:={ j:=i,more:=runEnd M i-i,i:=i,perturb:=p,dummy:=none }
def lv (M:Nat) (h:Int):Nat->Nat×Nat
 |0=>(bits h%(M+1),bits h)
 |k+1=>leap M (lv M h k).1 (lv M h k).2
def stp (M x:Nat):Nat:=(x*5+1)%(M+1)
def its (M:Nat):Nat->Nat->Nat
 |0,x=>x
 |t+1,x=>stp M (its M t x)
def ins {α:Type} (l:List α) (p:Nat) (x:α):List α:=l.take p++x::l.drop p
end Tb8
namespace Tb8
open PySem PyProof.Rows
section
variable {prog:Program} {w:World} {A:Around} {E:Value->Shared->Prop} {s:Shared}
abbrev hsh (prog:Program) (w:World) (k:List Int):Int:=tupleKeyHash (intKind prog w) k
end
end Tb8
namespace Tb8
open PySem PyProof.Rows PySem.SetTable
section
variable {prog:Program} {w:World} {A:Around} {E:Value->Shared->Prop} {s:Shared}
end
end Tb8
namespace Tb8
open PySem PySem.SetTable
def own (ow:Array (Option Nat)) (j:Nat):Option Nat:=ow.getD j (some 0)
end Tb8
namespace Tb8
open PySem PyProof.Rows PySem.SetTable
section
variable {prog:Program} {w:World} {A:Around} {E:Value->Shared->Prop} {s:Shared}
end
section
variable {prog:Program} {w:World} {A:Around} {R:Result->Shared->Prop} {I:Addr} {fp wr:List Addr} {n:Nat} {P:Nat->Value->Prop} {St:Nat->Heap->Prop}
end
section
variable {prog:Program} {w:World} {A:Around} {E:Value->Shared->Prop} {s:Shared}
end
end Tb8
namespace L3
open PySem PySem.Spec PyProof.Rows L2
section
variable {X:Cx}
end
section
variable {X:Cx} {K:Frg} {w:World} {mg:Str->Option Value}
end
section
variable {X:Cx}
end
open PySem.SeqAt
section
variable {X:Cx} {pins:List (Addr×Obj)} {σ:L2.St} {H:Hp} {s:Shared}
end
end L3
namespace HT
open PySem PySem.Spec PyProof.Rows L2
section
open PySem.SeqAt
open PySem.MeetsSeq PySem.MeetsSeq2 PySem.MeetsSeq3
end
section
variable {prog:Program} {w:World} {A:Around} {E:Value->Shared->Prop} {s:Shared}
end
end HT
namespace L3
open PySem PySem.Spec PyProof.Rows L2
section
variable {X:Cx}
end
end L3
namespace HT
open PySem PyProof.Rows
section
variable {prog:Program} {w:World} {A:Around} {R:Result->Shared->Prop} {I:Addr} {fp wr:List Addr} {n:Nat} {P:Nat->Value->Prop} {St:Nat->Heap->Prop}
end
section
variable {prog:Program} {w:World} {A:Around} {E:Value->Shared->Prop} {s:Shared}
end
end HT
namespace L3
open PySem PySem.Spec PyProof.Rows L2
section
variable {X:Cx}
end
section
variable {X:Cx}
end
section
variable {X:Cx}
end
section
variable {X:Cx} {a b:Expr} {ta tb:TE3} {pos:Pos}
def qbp:R3:=λx y G q=>match x,y with
 |.str c,.str d=>c.length+d.length<=sizeLine/\q (.str (c++d)) G
 |_,_=>False
def qcd {K:Frg}:XT K qbp (λx y H Q=>∃ c d:Str,x=.str c/\y=.str d/\c.length+d.length<=sizeLine/\Q (.str (c++d)) H):=λx y v u G H q Q hr rx ry h af=>by
 cases x<;>try exact h.elim
 cases y<;>try exact h.elim
 cases rx;cases ry;exact ⟨_,_,rfl,rfl,h.1,af _ G h.2 _ H (.str _) hr Kp.refl⟩
def MA (ha:jE3 X a ta) (hb:jE3 X b tb):jE3 X (.BinOp a .Add b pos) (o3 qbp ta tb):=⟨M1 MR qcd ha.h hb.h⟩
end
end L3
namespace L3
open PySem PySem.Spec PyProof.Rows L2 PySem.SeqAt
section
variable {X:Cx} {a b:Expr} {ta tb:TE3} {pos:Pos}
def qfv (hu:X.A.units<cLine):OpR X (compareOp .Eq) (λx y H Q=>∃ (p:Addr) (c:Str),x=.ref p/\y=.str c/\((∃ ys,SqT X.K H p ys)\/∃ ys,SqL X.K H p ys)/\Q (.bl false) H):=by
 intro pins s σ H x y v u Q I rx ry h;obtain ⟨p,c,rfl,rfl,h,q⟩:=h;cases rx;obtain ⟨t,rfl⟩:=ry;rcases h with ⟨ys,h⟩|⟨ys,h⟩
 ·obtain ⟨its,r1,p1,_⟩:=I.tuple h;exact RcAt.tuple_str c t p1 hu X.prog X.w X.xe _ ⟨.bl false,H,I,rfl,q⟩
 ·obtain ⟨its,r1,p1,_⟩:=I.list h;exact RcAt.list_str c t p1.isList hu X.prog X.w X.xe _ ⟨.bl false,H,I,rfl,q⟩
def TJ (hu:X.A.units+64<cLine):OpR X (compareOp .Eq) (λx y H Q=>(rEq x y H Q\/qdn X.K false x y H Q)\/∃ (p:Addr) (c:Str),x=.ref p/\y=.str c/\((∃ ys,SqT X.K H p ys)\/∃ ys,SqL X.K H p ys)/\Q (.bl false) H):=(qJ hu).or (qfv (by omega))
end
def qb5:R3:=λx y G q=>match x,y with
 |.tup _,.str _=>q (.bl false) G
 |.ref a,.str _=>(match G a with|some (.lst _)=>q (.bl false) G|_=>False)
 |x,y=>zF false x y G q
def XA {K:Frg}:XT K qb5 (λx y H Q=>(rEq x y H Q\/qdn K false x y H Q)\/∃ (p:Addr) (c:Str),x=.ref p/\y=.str c/\((∃ ys,SqT K H p ys)\/∃ ys,SqL K H p ys)/\Q (.bl false) H):=λx y v u G H q Q hr rx ry h af=>by
 unfold qb5 at h;split at h
 ·cases rx with
  |tup hs rs=>
   cases ry;exact .inr ⟨_,_,rfl,rfl,.inl ⟨_,hs⟩,af _ G h _ H (.bl _) hr Kp.refl⟩
 ·cases rx;cases ry;split at h
  ·rename_i g;obtain ⟨vs,hv,_⟩:=hr.lst g;exact .inr ⟨_,_,rfl,rfl,.inr ⟨_,.inl (.inl hv)⟩,af _ G h _ H (.bl _) hr Kp.refl⟩
  ·exact h.elim
 ·exact .inl (qs _ _ v u G H q Q hr rx ry h af)
end L3
namespace L3
open PySem PySem.Spec PyProof.Rows L2
section
variable {X:Cx} {a b e:Expr} {ta tb te:TE3} {pos:Pos}
def qbE {v:Value} {o:Option Int} (p:IsPart v o):∃ q:Option (Int×Tok),v=partValue q/\q.map (λx=>x.fst)=o:=by
 cases p with
 |none=>exact ⟨none,rfl,rfl⟩
 |int i t=>exact ⟨some (i,t),rfl,rfl⟩
def qo8:V->Option Int->Option Int->Hp->VK->Prop:=λx lo hi H Q=>∃ z,x=.str z/\(Txt.slice z lo hi).length<=sizeLine/\Q (.str (Txt.slice z lo hi)) H
def qiJ:SlR X qo8:=by
 intro pins s σ H x v vl vu lo hi sl Q I rx hs pl pu h;obtain ⟨z,rfl,hz,q⟩:=h;obtain ⟨t,rfl⟩:=rx;obtain ⟨ql,rfl,rfl⟩:=qbE pl;obtain ⟨qu,rfl,rfl⟩:=qbE pu;refine ⟨"str",_,slot_str_getitem.lookup,typeIs_str s z t,?_⟩;refine wpAny_getItem_str_slice (l:=ql) (u:=qu) (st:=none) hs rfl ?_;have e:Txt.slice z (ql.map (λx=>x.fst)) (qu.map (λx=>x.fst))=if ((Option.map (λx=>x.fst) (none:Option (Int×Tok))).getD 1==1&&(slicePicked z ql qu none).length==z.length)=true then z else { cps:=(List.filterMap (λx_1=>z.cps[x_1]?) (slicePicked z ql qu none)).toArray }:=rfl
 unfold sliceMade;rw [e] at q hz;split
 ·rename_i c;rw [if_pos c] at q;exact ⟨.str z,H,I,⟨_,rfl⟩,q⟩
 ·rename_i c;rw [if_neg c] at q hz;exact ⟨hz,.str _,H,I.tok _,⟨_,rfl⟩,q⟩
def qpt:T->Option Int->Option Int->Gp->Q3->Prop:=λx lo hi G q=>match x with
 |.str z=>(Txt.slice z lo hi).length<=sizeLine/\q (.str (Txt.slice z lo hi)) G
 |_=>False
def qcM (te:TE3) (tl th:TO3):TE3:=λτ G q=>te τ G λx G1=>tl τ G1 λl G2=>th τ G2 λu G3=>qpt x l u G3 q
def S8 {lo hi:Option Expr} {tl th:TO3} {p2:Pos} (he:jE3 X e te) (hl:jP3 X lo tl) (hu:jP3 X hi th):jE3 X (.Subscript e (.Slice lo hi none p2) pos) (qcM te tl th):=
 ⟨WF (RY qiJ he.h hl.h hu.h) λ_ _ _ ⟨τ,G,q,rl,h,af⟩=>jG rl h λx G1 h1 v H1 rx hr1 k1 rl1=>
  ⟨τ,G1,_,rl1,h1,λl G2 h2 H2 hr2 k2=>⟨τ,G2,_,rl1.next hr2 k2,h2,λu G3 h3 H3 hr3 k3=>by
   have kk:=(k1.trans k2).trans k3;have rx3:=(rx.keep hr1 k2).keep hr2 k3;cases x<;>try exact h3.elim
   cases rx3;exact ⟨_,rfl,h3.1,af _ G3 h3.2 _ _ (.str _) hr3 kk⟩⟩⟩⟩
def qcj:R3:=λx y G q=>match x,y with
 |.str c,.int k=>(k=0/\q (.str ⟨#[]⟩) G)\/(k=1/\q (.str c) G)
 |_,_=>False
def NN:OpR X (binaryOp .Mult) (λx y H Q=>∃ c k,x=.str c/\y=.int k/\((k=0/\Q (.str ⟨#[]⟩) H)\/(k=1/\Q (.str c) H))):=by
 intro pins s σ H x y v u Q I rx ry h;obtain ⟨c,k,rfl,rfl,q⟩:=h;obtain ⟨t,rfl⟩:=rx;obtain ⟨t',rfl⟩:=ry;rcases q with ⟨rfl,q⟩|⟨rfl,q⟩
 ·refine PySem.P.mul_str rfl (λh=>absurd (by decide) h) (λh=>absurd (by decide) h) ?_;exact ⟨by decide,.str ⟨#[]⟩,H,I.tok _,⟨_,rfl⟩,q⟩
 ·refine PySem.P.mul_str rfl (λ_ h=>absurd h (by simp)) (λ_ h=>absurd h (by simp)) ?_;exact ⟨.str c,H,I,⟨_,rfl⟩,q⟩
def qcn {K:Frg}:XT K qcj (λx y H Q=>∃ c k,x=.str c/\y=.int k/\((k=0/\Q (.str ⟨#[]⟩) H)\/(k=1/\Q (.str c) H))):=λx y v u G H q Q hr rx ry h af=>by
 cases x<;>try exact h.elim
 cases y<;>try exact h.elim
 cases rx;cases ry;refine ⟨_,_,rfl,rfl,?_⟩;rcases h with ⟨e,h⟩|⟨e,h⟩
 ·exact .inl ⟨e,af _ G h _ H (.str _) hr Kp.refl⟩
 ·exact .inr ⟨e,af _ G h _ H (.str _) hr Kp.refl⟩
def qe9 (ha:jE3 X a ta) (hb:jE3 X b tb):jE3 X (.BinOp a .Mult b pos) (o3 qcj ta tb):=⟨M1 NN qcn ha.h hb.h⟩
def qlN:R3:=λx y G q=>match x,y with
 |.str z,.int i=>z.length<=sizeLine/\(match atI z.cps.toList i with|some c=>q (.str ⟨#[c]⟩) G|none=>False)
 |_,_=>False
def qfe {K:Frg}:XT K qlN ql7:=λx y v u G H q Q hr rx ry h af=>by
 cases x<;>try exact h.elim
 cases y<;>try exact h.elim
 cases rx;cases ry;obtain ⟨h1,h2⟩:=h;split at h2
 ·rename_i c e;exact ⟨_,_,c,rfl,rfl,h1,e,af _ G h2 _ H (.str _) hr Kp.refl⟩
 ·exact h2.elim
def qld (ha:jE3 X a ta) (hb:jE3 X b tb) (hs:R7 b:=by intro _ _;rfl):jE3 X (.Subscript a b pos) (o3 qlN ta tb):=⟨WF (qhs qeb ha.h hb.h hs) λ_ _ _ h=>qa3 qfe h⟩
end
section
variable {X:Cx} {a b:Expr} {ta tb:TE3} {pos:Pos}
def K2 (p:Bool) (b:Int) (u:Tok):Gives (Builtin.«int.__gt__» { pos:=[.bool p,.int b u] }) (Made.val (.bool (decide (b<(if p=true then (1:Int) else 0))))):=
 Gives.of_wp λM A E s Q h=>by
  obtain ⟨hp,g,d,tk,os⟩:=s;have h':∃ v,Fin.done (Flow.ret (Value.bool (decide (b<(if p=true then (1:Int) else 0)))))=Fin.done (Flow.ret v)/\Q v ⟨hp,g,d,tk,os⟩:=⟨_,rfl,h⟩
  refine wpAny_bind ?_;unfold slotArgs;refine wpAny_ite_false rfl (wpAny_ite_false rfl (wpAny_pure ?_));refine wpAny_bind ?_;unfold Builtin.Int.intOfSelf;refine wpAny_bind ?_;unfold asInt?;refine wpAny_pure (wpAny_pure (wpAny_bind ?_));refine wpAny_pure (wpAny_ite_false (by decide) ?_);exact wpAny_pure h'
def KA {prog:Program} {w:World} {A:Around} {E:Value->Shared->Prop} {s:Shared} {p:Bool} {b:Int} {u:Tok} {Q:Value->Shared->Prop} (h:Q (.bool (decide (b<(if p=true then (1:Int) else 0)))) s):wpAny (model prog w) A (compareOp .Gt (.bool p) (.int b u)) Q E s:=
 SeqAt.rc_left_or (op:=.Gt) (typeIs_bool' s p) (typeIs_int s b u) (by decide) F.sub_int_bool F.slot_bool_gt (call_gives F.slot_bool_gt (typeIs_bool' s p) F.entry_int_gt (F.args_int_gt_2 _ _) (K2 p b u) ⟨(λz=>nomatch z),h⟩) (.inl rfl)
def qiX:OpR X (compareOp .Gt) (λx y H Q=>∃ i j,nbV x=some i/\y=.int j/\Q (.bl (decide (j<i))) H):=by
 intro pins s σ H x y v u Q I rx ry h;obtain ⟨i,j,e,rfl,q⟩:=h;obtain ⟨t,rfl⟩:=ry;cases x<;>cases e
 ·cases rx;exact KA (zt I q rfl)
 ·obtain ⟨t',rfl⟩:=rx;exact gt_int (zt I q rfl)
def nG3:R3:=λx y G q=>match nbT x,y with|some i,.int j=>q (.bl (decide (j<i))) G|_,_=>False
def qiE {K:Frg}:XT K nG3 (λx y H Q=>∃ i j,nbV x=some i/\y=.int j/\Q (.bl (decide (j<i))) H):=λx y v u G H q Q hr rx ry h af=>by
 unfold nG3 at h;split at h
 ·rename_i i j e;cases ry;exact ⟨i,j,KO rx e,rfl,af _ G h _ H (.bl _) hr Kp.refl⟩
 ·exact h.elim
def qb2:OpR X (binaryOp .Sub) (λx y H Q=>∃ i j,x=.int i/\nbV y=some j/\Q (.int (i-j)) H):=by
 intro pins s σ H x y v u Q I rx ry h;obtain ⟨i,j,rfl,e,q⟩:=h;obtain ⟨t,rfl⟩:=rx;cases y<;>cases e
 ·cases ry;exact PySem.IntBool.sub_int_bool ⟨.int _,H,I.tok _,⟨_,rfl⟩,q⟩
 ·obtain ⟨t',rfl⟩:=ry;exact sub_int ⟨.int _,H,I.tok _,⟨_,rfl⟩,q⟩
def nR3:R3:=λx y G q=>match x,nbT y with|.int i,some j=>q (.int (i-j)) G|_,_=>False
def qjK {K:Frg}:XT K nR3 (λx y H Q=>∃ i j,x=.int i/\nbV y=some j/\Q (.int (i-j)) H):=λx y v u G H q Q hr rx ry h af=>by
 unfold nR3 at h;split at h
 ·rename_i i j e;cases rx;exact ⟨_,j,rfl,KO ry e,af _ G h _ H (.int _) hr Kp.refl⟩
 ·exact h.elim
def qcH (ha:jE3 X a ta) (hb:jE3 X b tb):jE3 X (.BinOp a .Sub b pos) (o3 nR3 ta tb):=⟨M1 qb2 qjK ha.h hb.h⟩
end
section
variable {X:Cx}
def qa2 (hc:X.calm=true):JU X (.builtin "max") (λxs H Q=>∃ (p:Addr) (ns:List Int),xs=[.ref p]/\SqT X.K H p (ns.map V.int)/\ns≠[]/\∀ m∈ns,(∀ a∈ns,a<=m)->Q (.int m) H):=by
 intro pins s σ H xs us Q I r h;obtain ⟨p,ns,rfl,hq,hne,q⟩:=h;obtain ⟨u,rfl,rp⟩:=WA r;cases (show u=Value.ref p from rp);obtain ⟨its,rv,pl,hz⟩:=I.tuple hq;have hlen:its.length=ns.length:=by have:=rv.length;simp at this;omega
 have hpos:0<ns.length:=List.length_pos_iff.mpr hne;have hp:p<s.heap.objs.size:=by obtain ⟨o,e,_⟩:=id pl;exact Heap.lt_size e
 have ia:=CV rv;have vals:∀ (i:Nat) (v:Value),its.toArray[i]?=some v->∃ t,v=Value.int (ns.getD i 0) t:=λi v hv=>ia.int_at i v (by simpa using hv);refine call_max_walk (wpAny_pyIter_tuple pl ⟨s.heap.objs.size,_,_,_,_,_,_,rfl,Walks.tuple (A:=X.A.in1) (show X.A.in1.handled=none from I.ok.hd hc) s.heap.objs.size p (Nat.ne_of_lt hp) its.toArray,⟨⟨_,Heap.get?_push_size _ rfl,rfl,rfl⟩,?_⟩,λb hb=>?_,by rw [size_toArray];omega,CmpOf.ints_gt (λi=>ns.getD i 0) vals,λv h' tk hP hk=>?_⟩)
 ·exact Heap.IsTuple.push pl _
 ·rw [show (({ s with heap:=s.heap.push _ }:Shared).heap.objs.size)=s.heap.objs.size+1 from Heap.size_push ..];simp only [mem_cons,not_mem_nil,or_false] at hb;rcases hb with rfl|rfl
  ·exact Nat.lt_succ_self _
  ·exact Nat.lt_succ_of_lt hp
 ·obtain ⟨b1,b2⟩:=argBest_gt (λi=>ns.getD i 0) (its.toArray.size-1);obtain ⟨t,rfl⟩:=vals _ _ hP;rw [size_toArray] at b1 b2 ⊢;have gd:∀ j,(hj:j<ns.length)->ns.getD j 0=ns[j]:=λj hj=>by rw [getD_eq_getElem?_getD,getElem?_eq_getElem hj];rfl
  refine ⟨.int _,H,I.kept (h':=h') (t':=tk) λb o e=>hk b o (by simp;exact Nat.ne_of_lt (Heap.lt_size e)) (Heap.get?_push_of_some _ e),⟨_,rfl⟩,q _ ?_ λa ha=>?_⟩
  ·rw [gd _ (by omega)];exact List.getElem_mem _
  ·obtain ⟨j,hj,rfl⟩:=List.mem_iff_getElem.mp ha;have:=b2 j (by omega);simp only [gd j hj] at this;exact this
def qa7:List T->Gp->Q3->Prop:=λxs G q=>match xs with
 |[.tup ys]=>(match T0 ys with|some ns=>ns≠[]/\∀ m∈ns,(∀ a∈ns,a<=m)->q (.int m) G|none=>False)
 |_=>False
def qb7 {K:Frg}:KI K qa7 (λxs H Q=>∃ (p:Addr) (ns:List Int),xs=[.ref p]/\SqT K H p (ns.map V.int)/\ns≠[]/\∀ m∈ns,(∀ a∈ns,a<=m)->Q (.int m) H):=λxs vs G H q Q hr rs h af=>by
 unfold qa7 at h;split at h
 ·rename_i ys;obtain ⟨v,rfl,r⟩:=T7 rs;split at h
  ·rename_i ns e1;have:=LD e1;subst this;cases r with
   |tup hs r2=>
    have:=LW r2;subst this;exact ⟨_,ns,rfl,hs,h.1,λm hm ha=>af _ _ (h.2 m hm ha) _ _ (.int _) hr Kp.refl⟩
  ·exact h.elim
 ·exact h.elim
end
def qbt:Sp3:=λ_ _ _=>False
def YM {P:Program} {w:World} {K:Frg} {mg:Str->Option Value} {base:Heap} {x qual:Str} {st:Stmt} {f:Addr} {fd:FuncData} {ps:List Str} (F:Fun K x qual st f fd) (bd:zX K fd ps []) (hm:mg x=some (.ref f)):Fn3 P w K mg base 0 x qbt:=
 ⟨f,fd,ps,⟨λvs H Q E ⟨_,_,_,_,_,h,_⟩=>h.elim,λA outer s H args us vs Q E _ _ _ _ ⟨_,_,_,_,_,h,_⟩=>h.elim⟩,bd,F.kp,hm⟩
def ixT (xs:List T) (i:Int) (G:Gp) (q:Q3):ix3 (.tup xs) (.int i) G q=(match L2.atI xs i with|some z=>q z G|none=>False):=rfl
def ixR (p:Addr) (i:Int) (G:Gp) (q:Q3):ix3 (.ref p) (.int i) G q=(match getL G p with|some xs=>(match L2.atI xs i with|some z=>q z G|none=>False)|none=>False):=rfl
def cm {i j:Int} (h1:-1000000<j) (h2:j<1000000):V9 i j:=.inr ⟨by omega,by omega⟩
def R6 {stay:Gp->Prop} {g:TG3} {tif:TT3} {te:TE3} {q:Q3} (items:List T) (Pv:Nat->List T->St3->Gp->Prop) {τ:St3} {G:Gp} (h0:Pv 0 [] τ G) (hst:∀ i ys τ G,i<=items.length->Pv i ys τ G->stay G)
  (hs:∀ i x ys τ G (R:List T->St3->Gp->Prop),items[i]?=some x->Pv i ys τ G->(∀ ys' τ' G',Pv (i+1) ys' τ' G'->R ys' τ' G') ->
   g x τ G λτ2 G2=>tif τ2 G2 λk G3=>if k=true then te τ2 G3 λy G4=>ys.length<sizeLine/\R (ys++[y]) τ2 G4 else R ys τ2 G3)
  (hd:∀ ys τ G,Pv items.length ys τ G->∀ p,G p=none->q (.ref p) (gu G p (.lst ys))):CS stay g tif te q items [] τ G:=by
 have key:∀ (r:List T) (i:Nat) ys τ G,items.drop i=r->i<=items.length->Pv i ys τ G->CS stay g tif te q r ys τ G:=by
  intro r;induction r with
  |nil=>
   intro i ys τ G e hi p;have:i=items.length:=by have:=congrArg List.length e;simp at this;omega
   subst this;exact ⟨hst _ ys τ G hi p,hd ys τ G p⟩
  |cons x r ih=>
   intro i ys τ G e hi p;have hl:i<items.length:=by
    apply Classical.byContradiction;intro z;rw [List.drop_eq_nil_of_le (by omega)] at e;cases e
   have e':=List.drop_eq_getElem_cons hl;rw [e] at e';injection e' with e1 e2;exact ⟨hst i ys τ G hi p,hs i x ys τ G _ (by rw [getElem?_eq_getElem hl,e1]) p λys2 τ2 G2 p2=>ih (i+1) ys2 τ2 G2 e2.symm hl p2⟩
 exact key items 0 [] τ G (by simp) (Nat.zero_le _) h0
def LI {stay:Gp->Prop} {g:TG3} {te:TE3} {q:Q3} {G:Gp} (f:T->T) (Ok:St3->Prop) (hst:stay G):∀ (items ys:List T) (τ:St3),Ok τ ->
  (∀ x∈items,∀ τ,Ok τ->∀ R:St3->T->Gp->Prop,(∀ τ',Ok τ'->R τ' (f x) G)->g x τ G λτ2 G2=>te τ2 G2 λy G4=>R τ2 y G4) ->
  ys.length+items.length<sizeLine->(∀ p,G p=none->q (.ref p) (gu G p (.lst (ys++items.map f))))->CS stay g tt3 te q items ys τ G
 |[],ys,τ,_,_,_,h=>⟨hst,by simpa using h⟩
 |x::r,ys,τ,ok,step,len,h=>by
  refine ⟨hst,?_⟩;have e:(λτ2 G2=>tt3 τ2 G2 λk G3=>if k=true then te τ2 G3 λy G4=>ys.length<sizeLine/\CS stay g tt3 te q r (ys++[y]) τ2 G4 else CS stay g tt3 te q r ys τ2 G3)=(λτ2 G2=>te τ2 G2 λy G4=>ys.length<sizeLine/\CS stay g tt3 te q r (ys++[y]) τ2 G4):=by
   funext τ2 G2;simp [tt3]
  rw [e];rw [length_cons] at len;refine step x List.mem_cons_self τ ok _ λτ' ok'=>⟨by omega,LI f Ok hst r (ys++[f x]) τ' ok' (λz hz=>step z (List.mem_cons_of_mem _ hz)) (by rw [length_append,List.length_singleton];omega) λp hp=>?_⟩
  simpa using h p hp
def qar {lo:Int} {n i:Nat} {x:T} (h:(MG lo n)[i]?=some x):i<n/\x=T.int (lo+(i:Int)):=by
 unfold MG at h;rw [getElem?_map] at h;cases e:(List.range n)[i]? with
 |none=>rw [e] at h;cases h
 |some k=>
  rw [e] at h;obtain ⟨hi,hk⟩:=List.getElem?_eq_some_iff.mp e;simp at hi hk;subst hk;exact ⟨hi,by simpa using h.symm⟩
def YO (lo:Int) (n:Nat):(MG lo n).length=n:=by simp [MG]
end L3
namespace Bk
open PySem L2 L3
def YU:TS3:=(qV (ji (J1 (λt=>zA t "int") (v3 0)) (XG (J1 (λt=>zA t "bool") (v3 0)))))
def EG (S_size_of:Sp3):TS3:=(qH (zw (o3 ix3 (v3 0) (c3 (.int 0))) (gn3 1)) (qH (zJ (tb3 (o3 (zF false) (v3 1) (c3 (.str "bits")))) (qV (ju (qc (o3 (iC TW (λi j=>i*2 ^ j.toNat)) (c3 (.int 1)) (o3 ix3 (v3 0) (c3 (.int 1)))) (qc (o3 (iC TW (λi j=>i*2 ^ j.toNat)) (c3 (.int 1)) (o3 ix3 (v3 0) (c3 (.int 2)))) (qc (o3 (iC TW (λi j=>i*2 ^ j.toNat)) (c3 (.int 1)) (cb3 JL (qc (o3 ix3 (v3 0) (c3 (.int 3))) qi))) qi))))) qy) (qH (zJ (tb3 (o3 (zF false) (v3 1) (c3 (.str "table")))) (qV (ju (qc (cb3 JL (qc (o3 ix3 (v3 0) (c3 (.int 2))) qi)) (qc (cb3 JL (qc (o3 ix3 (o3 ix3 (v3 0) (c3 (.int 2))) (c3 (.int 0))) qi)) (qc (o3 ix3 (v3 0) (c3 (.int 1))) qi))))) qy) (qH (zJ (tb3 (o3 (zF false) (v3 1) (c3 (.str "joined")))) (qH (zw (cb3 S_size_of (qc (o3 ix3 (v3 0) (c3 (.int 1))) qi)) (QK 3 (qC (gn3 2) (qC (gn3 3) (qC (gn3 4) QI))))) (qH (zw (cb3 S_size_of (qc (o3 ix3 (v3 0) (c3 (.int 2))) qi)) (QK 3 (qC (gn3 5) (qC (gn3 6) (qC (gn3 7) QI))))) (qV (ju (qc (o3 (iC V9 (·*·)) (v3 2) (v3 5)) (qc (o3 (iC V9 (·*·)) (v3 3) (v3 6)) (qc (o3 (iC V9 (·*·)) (v3 4) (v3 7)) qi))))))) qy) (qV (ju (qc (o3 ix3 (v3 0) (c3 (.int 1))) (qc (o3 ix3 (v3 0) (c3 (.int 2))) (qc (o3 ix3 (v3 0) (c3 (.int 3))) qi)))))))))
def EA:TS3:=(qH (zw (o3 (iC (λ_ j=>0<j) (·%·)) (o3 (iC V9 (·*·)) (o3 j5 (o3 j5 (o3 (iC (λ_ j=>0<j) (·%·)) (v3 0) (c3 (.int 2147483629))) (o3 (iC V9 (·*·)) (o3 (iC V9 (·*·)) (v3 1) (v3 1)) (c3 (.int 7919)))) (c3 (.int 11))) (c3 (.int 48271))) (c3 (.int 2147483647))) (gn3 2)) (qV (o3 (iC (λ_ j=>0<j) (·%·)) (o3 (iC V9 (·*·)) (v3 2) (v3 2)) (c3 (.int 1999999973)))))
def V7:TS3:=(qH (zw (if3 (tb3 (o3 (iB λi j=>decide (i<j)) (v3 1) (cb3 JL (qc (v3 0) qi)))) (o3 ix3 (v3 0) (v3 1)) (c3 (.int 0))) (gn3 2)) (qH (zw (if3 (tb3 (o3 (iB λi j=>decide (j<=i)) (cb3 qbP (qc (v3 2) qi)) (o3 (iC TW (λi j=>i ^ j.toNat)) (c3 (.int 10)) (c3 (.int 18))))) (cb3 qbP (qc (v3 2) qi)) (c3 (.int 0))) (gn3 3)) (qV (VO (qc (v3 3) (qc (o3 j5 (v3 2) (o3 (iC V9 (·*·)) (c3 (.int 1000003)) (v3 1))) (qc (c3 (.int 0)) qi)))))))
def V5 (S_law_mix:Sp3):TS3:=(qH (zw (o3 j5 (o3 ix3 (v3 0) (c3 (.int 2))) (c3 (.int 1))) (U5 (v3 0) (c3 (.int 2)))) (qH (zJ (tb3 (o3 (iB λi j=>decide (j<i)) (o3 ix3 (v3 0) (c3 (.int 0))) (c3 (.int 0)))) (qH (zw (o3 (iC (λ_ j=>0<j) (·%·)) (o3 ix3 (v3 0) (c3 (.int 0))) (v3 1)) (gn3 2)) (qH (zw (o3 (iC qfW (·/·)) (o3 ix3 (v3 0) (c3 (.int 0))) (v3 1)) (U5 (v3 0) (c3 (.int 0)))) (qV (v3 2)))) qy) (qV (o3 (iC (λ_ j=>0<j) (·%·)) (o3 (iC qfW (·/·)) (cb3 S_law_mix (qc (cb3 S_law_mix (qc (o3 ix3 (v3 0) (c3 (.int 1))) (qc (o3 ix3 (v3 0) (c3 (.int 2))) qi))) (qc (o3 j5 (o3 ix3 (v3 0) (c3 (.int 2))) (c3 (.int 64))) qi))) (c3 (.int 64))) (v3 1)))))
def YQ (S_law_pick:Sp3):TS3:=(qH (zw (o3 ix3 (VO (qc (c3 (.int 6)) (qc (c3 (.int 6)) (qc (c3 (.int 6)) (qc (c3 (.int 16)) qi))))) (cb3 S_law_pick (qc (v3 0) (qc (c3 (.int 4)) qi)))) (gn3 1)) (qH (WD 2 3 (qc (o3 j5 (c3 (.int 1)) (cb3 S_law_pick (qc (v3 0) (qc (v3 1) qi)))) (qc (o3 j5 (c3 (.int 1)) (cb3 S_law_pick (qc (v3 0) (qc (v3 1) qi)))) qi))) (qV (o3 ix3 (VO (qc (ju (qc (v3 2) (qc (v3 3) qi))) (qc (ju (qc (v3 2) (qc (v3 3) qi))) (qc (ju (qc (v3 2) (qc (v3 3) qi))) (qc (ju (qc (v3 2) (qc (v3 2) qi))) qi))))) (cb3 S_law_pick (qc (v3 0) (qc (c3 (.int 4)) qi)))))))
def EC:TS3:=(qH (C6 (tb3 (o3 (iB λi j=>decide (j<i)) (v3 1) (c3 (.int 0)))) (WD 0 1 (qc (v3 1) (qc (o3 (iC (λ_ j=>0<j) (·%·)) (v3 0) (v3 1)) qi)))) (qV (v3 0)))
def V0 (S_law_sides:Sp3) (S_law_pick:Sp3):TS3:=(qH (zw (cb3 S_law_sides (qc (v3 0) qi)) (QK 2 (qC (gn3 1) (qC (gn3 2) QI)))) (qH (zw (o3 j5 (c3 (.int 1)) (cb3 S_law_pick (qc (v3 0) (qc (o3 ix3 (VO (qc (c3 (.int 8)) (qc (c3 (.int 8)) (qc (c3 (.int 17)) (qc (c3 (.int 32)) qi))))) (cb3 S_law_pick (qc (v3 0) (qc (c3 (.int 4)) qi)))) qi)))) (gn3 3)) (qH (zw (o3 ix3 (VO (qc (v3 3) (qc (c3 (.int 10)) (qc (c3 (.int 100)) qi)))) (cb3 S_law_pick (qc (v3 0) (qc (c3 (.int 3)) qi)))) (gn3 4)) (qV (ju (qc (c3 (.str "skew")) (qc (v3 1) (qc (v3 2) (qc (v3 3) (qc (cb3 S_law_pick (qc (v3 0) (qc (v3 4) qi))) (qc (cb3 S_law_pick (qc (v3 0) (qc (v3 4) qi))) qi)))))))))))
def YV (S_law_sides:Sp3) (S_law_pick:Sp3) (S_law_gcd:Sp3):TS3:=(qH (zw (cb3 S_law_sides (qc (v3 0) qi)) (QK 2 (qC (gn3 1) (qC (gn3 2) QI)))) (qH (zw (o3 j5 (c3 (.int 1)) (cb3 S_law_pick (qc (v3 0) (qc (o3 ix3 (VO (qc (c3 (.int 8)) (qc (c3 (.int 17)) (qc (c3 (.int 32)) qi)))) (cb3 S_law_pick (qc (v3 0) (qc (c3 (.int 3)) qi)))) qi)))) (gn3 3)) (qH (zw (o3 j5 (u3 XZ (o3 (iC qfW (·/·)) (o3 (iC V9 (·*·)) (u3 XZ (v3 1)) (v3 2)) (v3 3))) (cb3 S_law_pick (qc (v3 0) (qc (c3 (.int 4)) qi)))) (gn3 4)) (qH (LK (ZI (qc (c3 (.int 32)) qi)) (gn3 5) (zJ (tb3 (o3 (iB λi j=>decide (j<i)) (cb3 S_law_gcd (qc (v3 3) (qc (v3 4) qi))) (c3 (.int 1)))) (zw (o3 j5 (v3 4) (c3 (.int 1))) (gn3 4)) qy)) (qV (ju (qc (c3 (.str "rests")) (qc (v3 1) (qc (v3 2) (qc (v3 3) (qc (v3 4) qi)))))))))))
def V2 (S_law_pick:Sp3):TS3:=(qH (WD 2 3 (qc (cb3 S_law_pick (qc (v3 0) (qc (o3 j5 (v3 1) (c3 (.int 1))) qi))) (qc (cb3 S_law_pick (qc (v3 0) (qc (o3 j5 (v3 1) (c3 (.int 1))) qi))) qi))) (qH (zw (lc3 (ZI (qc (cb3 S_law_pick (qc (v3 0) (qc (c3 (.int 6)) qi))) qi)) (gn3 0) tt3 (cb3 S_law_pick (qc (v3 1) (qc (c3 (.int 256)) qi))) [none,some 0]) (gn3 4)) (qH (zw (o3 ix3 (VO (qc (c3 (.int 1)) (qc (c3 (.int 2)) (qc (c3 (.int 4)) (qc (c3 (.int 8)) (qc (c3 (.int 16)) (qc (c3 (.int 32)) (qc (c3 (.int 64)) (qc (c3 (.int 128)) (qc (c3 (.int 256)) qi)))))))))) (o3 j5 (v3 2) (v3 3))) (gn3 5)) (qV (ju (qc (c3 (.str "bits")) (qc (v3 2) (qc (v3 3) (qc (cb3 jE (qc (lc3 (UB (v3 4)) (gn3 0) tt3 (o3 (iC (λ_ j=>0<j) (·%·)) (v3 0) (v3 1)) [none,some 5]) qi)) qi)))))))))
def YH (S_law_sides:Sp3) (S_law_pick:Sp3):TS3:=(qH (zw (cb3 S_law_sides (qc (v3 0) qi)) (QK 2 (qC (gn3 1) (qC (gn3 2) QI)))) (qH (zw (o3 j5 (c3 (.int 1)) (cb3 S_law_pick (qc (v3 0) (qc (o3 ix3 (VO (qc (c3 (.int 4)) (qc (c3 (.int 9)) (qc (c3 (.int 32)) qi)))) (cb3 S_law_pick (qc (v3 0) (qc (c3 (.int 3)) qi)))) qi)))) (gn3 3)) (qH (zw (lc3 (ZI (qc (v3 1) qi)) (gn3 0) tt3 (cb3 jE (qc (lc3 (ZI (qc (v3 3) qi)) (gn3 0) tt3 (cb3 S_law_pick (qc (v3 1) (qc (v3 2) qi))) [none,some 1,some 2]) qi)) [none,some 0,some 3,some 2]) (gn3 4)) (qV (ju (qc (c3 (.str "table")) (qc (v3 3) (qc (cb3 jE (qc (v3 4) qi)) qi))))))))
def YS (S_law_pick:Sp3) (S_law_gcd:Sp3):TS3:=(qH (zw (ju (qc (o3 j5 (c3 (.int 1)) (cb3 S_law_pick (qc (v3 0) (qc (c3 (.int 4)) qi)))) (qc (o3 j5 (c3 (.int 1)) (cb3 S_law_pick (qc (v3 0) (qc (c3 (.int 4)) qi)))) (qc (o3 j5 (c3 (.int 1)) (cb3 S_law_pick (qc (v3 0) (qc (c3 (.int 5)) qi)))) qi)))) (QK 3 (qC (gn3 1) (qC (gn3 2) (qC (gn3 3) QI))))) (qH (zw (cb3 S_law_pick (qc (v3 0) (qc (c3 (.int 4)) qi))) (gn3 4)) (qH (zJ (tb3 (o3 (zF false) (v3 4) (c3 (.int 0)))) (qV (ju (qc (c3 (.str "skew")) (qc (v3 1) (qc (v3 2) (qc (v3 3) (qc (cb3 S_law_pick (qc (v3 0) (qc (v3 3) qi))) (qc (cb3 S_law_pick (qc (v3 0) (qc (c3 (.int 9)) qi))) qi)))))))) qy) (qH (zJ (tb3 (o3 (zF false) (v3 4) (c3 (.int 1)))) (qH (WD 5 6 (qc (cb3 S_law_pick (qc (v3 0) (qc (c3 (.int 3)) qi))) (qc (cb3 S_law_pick (qc (v3 0) (qc (c3 (.int 3)) qi))) qi))) (qH (zw (lc3 (ZI (qc (cb3 S_law_pick (qc (v3 0) (qc (c3 (.int 3)) qi))) qi)) (gn3 0) tt3 (cb3 S_law_pick (qc (v3 1) (qc (c3 (.int 16)) qi))) [none,some 0]) (gn3 7)) (qH (zw (o3 ix3 (VO (qc (c3 (.int 1)) (qc (c3 (.int 2)) (qc (c3 (.int 4)) (qc (c3 (.int 8)) (qc (c3 (.int 16)) qi)))))) (o3 j5 (v3 5) (v3 6))) (gn3 8)) (qV (ju (qc (c3 (.str "bits")) (qc (v3 5) (qc (v3 6) (qc (cb3 jE (qc (lc3 (UB (v3 7)) (gn3 0) tt3 (o3 (iC (λ_ j=>0<j) (·%·)) (v3 0) (v3 1)) [none,some 8]) qi)) qi))))))))) qy) (qH (zJ (tb3 (o3 (zF false) (v3 4) (c3 (.int 2)))) (qH (zw (o3 j5 (u3 XZ (o3 (iC qfW (·/·)) (o3 (iC V9 (·*·)) (u3 XZ (v3 1)) (v3 2)) (v3 3))) (cb3 S_law_pick (qc (v3 0) (qc (c3 (.int 3)) qi)))) (gn3 9)) (qH (LK (ZI (qc (c3 (.int 9)) qi)) (gn3 10) (zJ (tb3 (o3 (iB λi j=>decide (j<i)) (cb3 S_law_gcd (qc (v3 3) (qc (v3 9) qi))) (c3 (.int 1)))) (zw (o3 j5 (v3 9) (c3 (.int 1))) (gn3 9)) qy)) (qV (ju (qc (c3 (.str "rests")) (qc (v3 1) (qc (v3 2) (qc (v3 3) (qc (v3 9) qi))))))))) qy) (qH (zw (lc3 (ZI (qc (v3 1) qi)) (gn3 0) tt3 (cb3 jE (qc (lc3 (ZI (qc (v3 3) qi)) (gn3 0) tt3 (cb3 S_law_pick (qc (v3 1) (qc (v3 2) qi))) [none,some 1,some 2]) qi)) [none,some 0,some 3,some 2]) (gn3 11)) (qV (ju (qc (c3 (.str "table")) (qc (v3 3) (qc (cb3 jE (qc (v3 11) qi)) qi)))))))))))
def ZU (S_law_pick:Sp3) (S_law_skew:Sp3) (S_law_rests:Sp3) (S_law_bits:Sp3) (S_law_table:Sp3) (S_law_small:Sp3):TS3:=(qH (zw (cb3 S_law_pick (qc (v3 0) (qc (c3 (.int 8)) qi))) (gn3 1)) (qH (zJ (tb3 (o3 (iB λi j=>decide (i<j)) (v3 1) (c3 (.int 2)))) (qV (cb3 S_law_skew (qc (v3 0) qi))) qy) (qH (zJ (tb3 (o3 (zF false) (v3 1) (c3 (.int 2)))) (qV (cb3 S_law_rests (qc (v3 0) qi))) qy) (qH (zJ (tb3 (o3 (zF false) (v3 1) (c3 (.int 3)))) (qV (cb3 S_law_bits (qc (v3 0) (qc (c3 (.int 4)) qi)))) qy) (qH (zJ (tb3 (o3 (zF false) (v3 1) (c3 (.int 4)))) (qV (cb3 S_law_table (qc (v3 0) qi))) qy) (qH (zJ (tb3 (o3 (zF false) (v3 1) (c3 (.int 5)))) (qH (zw (ju (qc (c3 (.str "joined")) (qc (ju (qc (c3 (.str "skew")) (qc (o3 j5 (c3 (.int 1)) (cb3 S_law_pick (qc (v3 0) (qc (c3 (.int 2)) qi)))) (qc (c3 (.int 1)) (qc (c3 (.int 2)) (qc (c3 (.int 1)) (qc (c3 (.int 1)) qi))))))) (qc (ju (qc (c3 (.str "table")) (qc (c3 (.int 2)) (qc (ju (qc (ju (qc (c3 (.int 1)) (qc (c3 (.int 0)) qi))) qi)) qi)))) qi)))) (gn3 2)) (qH (zw (VO (qc (ju (qc (c3 (.str "joined")) (qc (v3 2) (qc (cb3 S_law_small (qc (v3 0) qi)) qi)))) (qc (ju (qc (c3 (.str "joined")) (qc (cb3 S_law_small (qc (v3 0) qi)) (qc (v3 2) qi)))) qi))) (gn3 3)) (qH (CD (bm3 NT (v3 3) (qc (ju (qc (c3 (.str "joined")) (qc (ju (qc (c3 (.str "skew")) (qc (c3 (.int 8)) (qc (c3 (.int 1)) (qc (c3 (.int 3)) (qc (c3 (.int 1)) (qc (c3 (.int 1)) qi))))))) (qc (ju (qc (c3 (.str "rests")) (qc (c3 (.int 2)) (qc (c3 (.int 16)) (qc (c3 (.int 5)) (qc (c3 (.int 7)) qi)))))) qi)))) qi))) (qH (CD (bm3 NT (v3 3) (qc (ju (qc (c3 (.str "joined")) (qc (ju (qc (c3 (.str "rests")) (qc (c3 (.int 1)) (qc (c3 (.int 8)) (qc (c3 (.int 3)) (qc (c3 (.int 4)) qi)))))) (qc (ju (qc (c3 (.str "skew")) (qc (c3 (.int 16)) (qc (c3 (.int 2)) (qc (c3 (.int 5)) (qc (c3 (.int 2)) (qc (c3 (.int 1)) qi))))))) qi)))) qi))) (qV (o3 ix3 (v3 3) (cb3 S_law_pick (qc (v3 0) (qc (c3 (.int 4)) qi))))))))) qy) (qV (ju (qc (c3 (.str "joined")) (qc (cb3 S_law_small (qc (v3 0) qi)) (qc (cb3 S_law_small (qc (v3 0) qi)) qi)))))))))))
def UA (S_law_size:Sp3):TS3:=(qH (zJ (tb3 (o3 (in3 false) (o3 ix3 (v3 0) (c3 (.int 0))) (ju (qc (c3 (.str "skew")) (qc (c3 (.str "rests")) qi))))) (qV (CA (v3 0) (sp3 (c3 (.int 1))) (sp3 (c3 (.int 4))))) qy) (qH (zJ (tb3 (o3 (zF false) (o3 ix3 (v3 0) (c3 (.int 0))) (c3 (.str "bits")))) (qH (zw (VO (qc (c3 (.int 1)) (qc (c3 (.int 2)) (qc (c3 (.int 4)) (qc (c3 (.int 8)) (qc (c3 (.int 16)) (qc (c3 (.int 32)) (qc (c3 (.int 64)) (qc (c3 (.int 128)) (qc (c3 (.int 256)) (qc (c3 (.int 512)) qi))))))))))) (gn3 1)) (qV (ju (qc (o3 ix3 (v3 1) (o3 ix3 (v3 0) (c3 (.int 1)))) (qc (o3 ix3 (v3 1) (o3 ix3 (v3 0) (c3 (.int 2)))) (qc (o3 ix3 (v3 1) (cb3 JL (qc (o3 ix3 (v3 0) (c3 (.int 3))) qi))) qi)))))) qy) (qH (zJ (tb3 (o3 (zF false) (o3 ix3 (v3 0) (c3 (.int 0))) (c3 (.str "table")))) (qV (ju (qc (cb3 JL (qc (o3 ix3 (v3 0) (c3 (.int 2))) qi)) (qc (cb3 JL (qc (o3 ix3 (o3 ix3 (v3 0) (c3 (.int 2))) (c3 (.int 0))) qi)) (qc (o3 ix3 (v3 0) (c3 (.int 1))) qi))))) qy) (qH (WD 2 3 (qc (cb3 S_law_size (qc (o3 ix3 (v3 0) (c3 (.int 1))) qi)) (qc (cb3 S_law_size (qc (o3 ix3 (v3 0) (c3 (.int 2))) qi)) qi))) (qV (cb3 jE (qc (lc3 (MT (qc (v3 2) (qc (v3 3) qi))) (QK 2 (qC (gn3 0) (qC (gn3 1) QI))) tt3 (o3 (iC V9 (·*·)) (v3 0) (v3 1)) [none,none]) qi)))))))
def EZ (S_law_same:Sp3):TS3:=(qH (zJ (tb3 (J1 (λt=>zA t "list" || zA t "tuple") (v3 1))) (qH (zJ (or3 (tb3 (o3 (zF true) (J1 (λt=>zA t "list") (v3 0)) (J1 (λt=>zA t "list") (v3 1)))) (tb3 (o3 (zF true) (J1 (λt=>zA t "tuple") (v3 0)) (J1 (λt=>zA t "tuple") (v3 1))))) (qV (c3 (.bl false))) qy) (qV (ji (o3 (zF false) (cb3 JL (qc (v3 0) qi)) (cb3 JL (qc (v3 1) qi))) (cb3 X2 (qc (lc3 (MT (qc (v3 0) (qc (v3 1) qi))) (QK 2 (qC (gn3 0) (qC (gn3 1) QI))) tt3 (cb3 S_law_same (qc (v3 0) (qc (v3 1) qi))) [none,none]) qi))))) qy) (qH (zJ (or3 (tb3 (o3 (qcm false) (v3 1) (c3 .non))) (tb3 (J1 (λt=>zA t "str" || zA t "bool") (v3 1)))) (qV (ji (o3 (zF false) (v3 0) (v3 1)) (ji (o3 (zF false) (J1 (λt=>zA t "bool") (v3 0)) (J1 (λt=>zA t "bool") (v3 1))) (o3 (zF false) (o3 (qcm false) (v3 0) (c3 .non)) (o3 (qcm false) (v3 1) (c3 .non)))))) qy) (qV (ji (J1 (λt=>zA t "int") (v3 0)) (ji (XG (J1 (λt=>zA t "bool") (v3 0))) (o3 (zF false) (v3 0) (v3 1)))))))
inductive Dl where
 |skew (r c b x y:Int)
 |rests (r c b p:Int)
 |bits (h l:Nat) (ms:List Int)
 |table (b:Int) (cells:List (List Int))
 |joined (d e:Dl)
def qji (r:List Int):T:=.tup (r.map T.int)
def Dl.t:Dl->T
 |.skew r c b x y=>.tup [.str "skew",.int r,.int c,.int b,.int x,.int y]
 |.rests r c b p=>.tup [.str "rests",.int r,.int c,.int b,.int p]
 |.bits h l ms=>.tup [.str "bits",.int h,.int l,.tup (ms.map T.int)]
 |.table b cells=>.tup [.str "table",.int b,.tup (cells.map qji)]
 |.joined d e=>.tup [.str "joined",d.t,e.t]
def Dl.R:Dl->Int
 |.skew r _ _ _ _=>r
 |.rests r _ _ _=>r
 |.bits h _ _=>2 ^ h
 |.table _ cells=>cells.length
 |.joined d e=>d.R*e.R
def Dl.C:Dl->Int
 |.skew _ c _ _ _=>c
 |.rests _ c _ _=>c
 |.bits _ l _=>2 ^ l
 |.table _ cells=>((cells[0]?).getD []).length
 |.joined d e=>d.C*e.C
def Dl.B:Dl->Int
 |.skew _ _ b _ _=>b
 |.rests _ _ b _=>b
 |.bits _ _ ms=>2 ^ ms.length
 |.table b _=>b
 |.joined d e=>d.B*e.B
def Dl.Ok:Dl->Prop
 |.skew r c b x y=>1<=r/\r<=60/\1<=c/\c<=60/\1<=b/\b<=1000/\0<=x/\x<=1000/\0<=y/\y<=1000
 |.rests r c b p=>1<=r/\r<=60/\1<=c/\c<=60/\1<=b/\b<=1000/\1<=p/\p<=100000/\Int.gcd b p=1/\r*c<=b*p
 |.bits h l ms=>h<=4/\l<=4/\ms.length<=5/\∀ m∈ms,0<=m/\m<2 ^ (h+l)
 |.table b cells=>1<=b/\b<=1000/\1<=cells.length/\cells.length<=60/\∃ c,1<=c/\c<=60/\∀ row∈cells,row.length=c/\∀ x∈row,0<=x/\x<b
 |.joined d e=>d.Ok/\e.Ok/\d.R*e.R<=4096/\d.C*e.C<=4096/\d.B*e.B<=4096
def Dl.dep:Dl->Nat
 |.joined d e=>max d.dep e.dep+1
 |_=>0
def p2 (n:Nat):((2:Int) ^ n)=((2 ^ n:Nat):Int):=by simp
def S7 (n:Nat):(1:Int)<=2 ^ n:=by
 rw [p2];have:=Nat.one_le_two_pow (n:=n);omega
def RV {n k:Nat} (h:n<=k):(2:Int) ^ n<=2 ^ k:=by
 rw [p2,p2];have:=Nat.pow_le_pow_right (n:=2) (by omega) h;omega
structure Lims (d:Dl):Prop where
 r1:1<=d.R
 r2:d.R<=4096
 c1:1<=d.C
 c2:d.C<=4096
 b1:1<=d.B
 b2:d.B<=4096
def V3 {a b:Int} (h1:1<=a) (h2:1<=b):1<=a*b:=by
 have:=Int.mul_le_mul (a:=1) (b:=1) (c:=a) (d:=b) h1 h2 (by omega) (by omega);omega
def Dl.lims:∀ {d:Dl},d.Ok->Lims d
 |.skew r c b x y,⟨h1,h2,h3,h4,h5,h6,_⟩=>⟨h1,by simp [Dl.R];omega,h3,by simp [Dl.C];omega,h5,by simp [Dl.B];omega⟩
 |.rests r c b x,⟨h1,h2,h3,h4,h5,h6,_⟩=>⟨h1,by simp [Dl.R];omega,h3,by simp [Dl.C];omega,h5,by simp [Dl.B];omega⟩
 |.bits h l ms,⟨h1,h2,h3,_⟩=>by
  have e1:=RV h1;have e2:=RV h2;have e3:=RV h3;refine ⟨S7 _,?_,S7 _,?_,S7 _,?_⟩<;>simp [Dl.R,Dl.C,Dl.B]<;>omega
 |.table b cells,⟨h1,h2,h3,h4,c,h5,h6,h7⟩=>by
  have e0:cells[0]?=some cells[0]:=getElem?_eq_getElem (by omega);have e1:=(h7 cells[0] (List.getElem_mem _)).1;have e2:(Dl.table b cells).C=c:=by simp [Dl.C,e0,e1]
  exact ⟨by simp [Dl.R];omega,by simp [Dl.R];omega,by rw [e2];omega,by rw [e2];omega,h1,by simp [Dl.B];omega⟩
 |.joined d e,⟨h1,h2,h3,h4,h5⟩=>by
  have a:=Dl.lims h1;have b:=Dl.lims h2;exact ⟨V3 a.r1 b.r1,h3,V3 a.c1 b.c1,h4,V3 a.b1 b.b1,h5⟩
abbrev NW (q:Q3):Ends3:={ nx:=λ_ G'=>q .non G',rt:=q }
def QN {A B:TS3} {d:Ends3} {τ:St3} {G:Gp} (h:∀ nx,nx=B d->A { d with nx:=nx } τ G):qH A B d τ G:=h _ rfl
def Lf (G:Gp) (a:Addr) (n:Int):Prop:=∃ o c m,G a=some (.lst [.int o,.int c,.int m])/\0<=o/\0<=m/\m<=n
def Ext (a:Addr) (G G':Gp):Prop:=∀ b o,b≠a->G b=some o->G' b=some o
def Lf.ne {G:Gp} {a p:Addr} {n:Int} (h:Lf G a n) (hp:G p=none):p≠a:=by
 rintro rfl;obtain ⟨o,c,m,e,_⟩:=h;rw [hp] at e;cases e
def Lf.new {G:Gp} {a p:Addr} {n:Int} {ob:O} (h:Lf G a n) (hp:p≠a):Lf (gu G p ob) a n:=by
 obtain ⟨o,c,m,e,r⟩:=h;exact ⟨o,c,m,by rw [ZW (Ne.symm hp)];exact e,r⟩
def Lf.mono {G:Gp} {a:Addr} {n k:Int} (h:Lf G a n) (hk:n<=k):Lf G a k:=by
 obtain ⟨o,c,m,e,h1,h2,h3⟩:=h;exact ⟨o,c,m,e,h1,h2,by omega⟩
def Lf.ex {G G':Gp} {a:Addr} {n:Int} (h:Lf G a n) (e:Ex G G'):Lf G' a n:=by
 obtain ⟨o,c,m,e1,h1⟩:=h;exact ⟨o,c,m,e _ _ e1,h1⟩
def Ext.refl {a:Addr} {G:Gp}:Ext a G G:=λ_ _ _ e=>e
def Ext.trans {a:Addr} {G G1 G2:Gp} (x:Ext a G G1) (y:Ext a G1 G2):Ext a G G2:=λb o hb e=>y b o hb (x b o hb e)
def jQ {a p:Addr} {G:Gp} {ob:O} (hp:G p=none):Ext a G (gu G p ob):=λb o _ e=>by
 rw [ZW (by rintro rfl;rw [hp] at e;cases e)];exact e
def TM {a:Addr} {G G':Gp} (h:Ex G G'):Ext a G G':=λb o _ e=>h b o e
def CW:Sp3:=λts G q=>∃ c k,ts=[.int c,.int k]/\0<=k/\k<4294967296/\∀ m,0<=m->m<1999999973->q (.int m) G
def Y0:Sp3:=λts G q=>∃ (a:Addr) (k:Int) (ns:List Int),ts=[.ref a,.int k]/\G a=some (.frz (ns.map T.int))/\ns.length<=63/\0<=k/\k<=63/\∀ p o c,G p=none->0<=o->q (.ref p) (gu G p (.lst [.int o,.int c,.int 0]))
def qA:Sp3:=λts G q=>∃ a n many,ts=[.ref a,.int many]/\1<=many/\many<1073741824/\Lf G a n/\n<1073741824/\∀ d G',0<=d->d<many->Lf G' a (n+1)->Ext a G G'->q (.int d) G'
def JM:Sp3:=λts G q=>∃ a n,ts=[.ref a]/\Lf G a n/\n<100000000/\∀ r c G',1<=r->r<=16->1<=c->c<=16->Lf G' a (n+4)->Ext a G G'->q (.tup [.int r,.int c]) G'
def ZX:Sp3:=λts G q=>∃ x y:Int,ts=[.int x,.int y]/\0<=x/\0<=y/\q (.int (Int.gcd x y:Nat)) G
structure Dr (d:Dl) (r c b:Int):Prop where
 ok:d.Ok
 r2:d.R<=r
 c2:d.C<=c
 b2:d.B<=b
def XV:Sp3:=λts G q=>∃ a n,ts=[.ref a]/\Lf G a n/\n<10000000/\∀ r c b x y G',Dr (.skew r c b x y) 16 16 32->Lf G' a (n+10)->Ext a G G'->q (Dl.skew r c b x y).t G'
def D4:Sp3:=λts G q=>∃ a n,ts=[.ref a]/\Lf G a n/\n<10000000/\∀ r c b p G',Dr (.rests r c b p) 16 16 32->Lf G' a (n+10)->Ext a G G'->q (Dl.rests r c b p).t G'
def zE {a:Addr} {n many:Int} {G:Gp} {q:Q3} (hL:Lf G a n) (h1:1<=many) (h2:many<1073741824) (hn:n<1073741824) (h:∀ d G',0<=d->d<many->Lf G' a (n+1)->Ext a G G'->q (.int d) G'):qA [.ref a,.int many] G q:=⟨a,n,many,rfl,h1,h2,hL,hn,h⟩
def NL:∀ ts G q,CW ts G q->ts.length=2/\EA (NW q) (qt ["_law_cell","_law_k","_law_m"] ts) G:=by
 rintro ts G q ⟨c,k,rfl,h1,h2,h⟩;refine ⟨rfl,?_⟩;simp only [EA,qH,zw,o3,v3,qt,map_cons,List.map_nil,length_cons,length_nil,Nat.zero_add,Nat.reduceAdd,Nat.reduceSub,List.replicate_one,cons_append,List.nil_append,Nat.zero_lt_succ,getElem?_pos,getElem_cons_zero,c3,iC,Int.reduceLT,Nat.reduceLT,getElem_cons_succ,j5,gn3,qV,set_cons_succ,set_cons_zero,Nat.lt_add_one,true_and];exact ⟨.inl ⟨by omega,by omega⟩,cm (by omega) (by omega),cm (by omega) (by omega),.inl ⟨by omega,by omega⟩,h _ (Int.emod_nonneg _ (by omega)) (Int.emod_lt_of_pos _ (by omega))⟩
def cp:TW 10 18:=⟨by decide,by decide,by decide⟩
def KT:∀ ts G q,Y0 ts G q->ts.length=2/\V7 (NW q) (qt ["_law_script","_law_k","_law_cell","_law_own"] ts) G:=by
 rintro ts G q ⟨a,k,ns,rfl,hG,hl,h1,h2,h⟩;refine ⟨rfl,?_⟩;simp only [V7,qH,zw,if3,tb3,o3,v3,qt,map_cons,List.map_nil,length_cons,length_nil,Nat.zero_add,Nat.reduceAdd,Nat.reduceSub,List.reduceReplicate,cons_append,List.nil_append,Nat.reduceLT,getElem?_pos,getElem_cons_succ,getElem_cons_zero,cb3,qc,Nat.zero_lt_succ,qi,JL,getL,hG,iB,length_map,decide_eq_true_eq,gn3,set_cons_succ,set_cons_zero,qbP,c3,iC,Int.reduceToNat,Int.reducePow,qV,VO,Nat.lt_add_one,j5,ne_eq,sizeLine_eq,Nat.reduceLeDiff,true_and,gu,ixR,atI,ixN,getElem?_map,Int.lt_irrefl,↓reduceIte,Int.reduceLE,decide_false,Bool.false_eq_true,Int.zero_add];have ck:V9 1000003 k:=cm (by omega) (by omega);by_cases hk:k<ns.length
 ·have hk':k.toNat<ns.length:=by omega
  simp [hk,h1,hk',cp,ck];split
  ·split
   ·exact λp hp=>h p (-ns[k.toNat]) _ hp (by omega)
   ·exact λp hp=>h p 0 _ hp (by omega)
  ·split
   ·exact λp hp=>h p ns[k.toNat] _ hp (by omega)
   ·exact λp hp=>h p 0 _ hp (by omega)
 ·simp [hk,cp,ck];exact λp hp=>h p 0 _ hp (by omega)
def T5:∀ ts G q,qA ts G q->ts.length=2/\V5 CW (NW q) (qt ["_law_left_here","_law_many","_law_digit"] ts) G:=by
 rintro ts G q ⟨a,n,many,rfl,m1,m2,⟨o,c,m,hG,ho,hm,hn⟩,h3,h⟩;refine ⟨rfl,?_⟩;unfold V5;refine QN λnx1 q1=>?_;simp only [zw,o3,v3,qt,map_cons,List.map_nil,length_cons,length_nil,Nat.zero_add,Nat.reduceAdd,Nat.reduceSub,List.replicate_one,cons_append,List.nil_append,Nat.zero_lt_succ,getElem?_pos,getElem_cons_zero,c3,j5,ne_eq,sizeLine_eq,U5,NX,ixN,Int.zero_le_ofNat,↓reduceIte,Int.reduceToNat,tb3,iB,decide_eq_true_eq,Nat.reduceLT,getElem_cons_succ,iC,gn3,set_cons_succ,set_cons_zero,Std.le_refl,Int.natCast_pos,Int.toNat_zero,qV,Nat.lt_add_one,ixR,getL,atI,qy,cb3,qc,qi,Int.toNat_one,List.length_set,hG,Int.cast_ofNat_Int,Int.reduceLT,Option.bind_some,qL];rw [q1];clear q1;refine QN λnx2 q2=>?_;simp only [zJ,zw,o3,v3,qt,map_cons,List.map_nil,length_cons,length_nil,Nat.zero_add,Nat.reduceAdd,Nat.reduceSub,List.replicate_one,cons_append,List.nil_append,Nat.zero_lt_succ,getElem?_pos,getElem_cons_zero,c3,j5,ne_eq,sizeLine_eq,U5,NX,ixN,Int.zero_le_ofNat,↓reduceIte,Int.reduceToNat,tb3,iB,decide_eq_true_eq,Nat.reduceLT,getElem_cons_succ,iC,gn3,set_cons_succ,set_cons_zero,Std.le_refl,Int.natCast_pos,Int.toNat_zero,qV,Nat.lt_add_one,ixR,getL,atI,qy,cb3,qc,qi,Int.toNat_one,List.length_set,hG,Int.cast_ofNat_Int,Int.reduceLT,Option.bind_some,qL];split
 ·simp only [qH,zw,o3,v3,length_cons,length_nil,Nat.zero_add,Nat.reduceAdd,Nat.zero_lt_succ,getElem?_pos,getElem_cons_zero,c3,Nat.reduceLT,getElem_cons_succ,iC,gn3,set_cons_succ,set_cons_zero,U5,NX,ixN,Std.le_refl,↓reduceIte,Int.natCast_pos,Int.toNat_zero,qV,Nat.lt_add_one,ixR,getL,atI,qL,Int.cast_ofNat_Int,Int.reduceLT,Option.bind_some];refine ⟨by omega,⟨by omega,m2⟩,h _ _ (Int.emod_nonneg _ (by omega)) (Int.emod_lt_of_pos _ (by omega)) ⟨o/many,c,m+1,qL,Int.ediv_nonneg ho (by omega),by omega,by omega⟩ λb ob hb e=>?_⟩;rw [ZW hb,ZW hb];exact e
 ·rw [q2];clear q2;simp only [zw,o3,v3,qt,map_cons,List.map_nil,length_cons,length_nil,Nat.zero_add,Nat.reduceAdd,Nat.reduceSub,List.replicate_one,cons_append,List.nil_append,Nat.zero_lt_succ,getElem?_pos,getElem_cons_zero,c3,j5,ne_eq,sizeLine_eq,U5,NX,ixN,Int.zero_le_ofNat,↓reduceIte,Int.reduceToNat,tb3,iB,decide_eq_true_eq,Nat.reduceLT,getElem_cons_succ,iC,gn3,set_cons_succ,set_cons_zero,Std.le_refl,Int.natCast_pos,Int.toNat_zero,qV,Nat.lt_add_one,ixR,getL,atI,qy,cb3,qc,qi,Int.toNat_one,List.length_set,hG,Int.cast_ofNat_Int,Int.reduceLT,Option.bind_some,qL];refine ⟨c,m+1,rfl,by omega,by omega,λu u1 u2=>?_⟩;simp only [zw,o3,v3,qt,map_cons,List.map_nil,length_cons,length_nil,Nat.zero_add,Nat.reduceAdd,Nat.reduceSub,List.replicate_one,cons_append,List.nil_append,Nat.zero_lt_succ,getElem?_pos,getElem_cons_zero,c3,j5,ne_eq,sizeLine_eq,U5,NX,ixN,Int.zero_le_ofNat,↓reduceIte,Int.reduceToNat,tb3,iB,decide_eq_true_eq,Nat.reduceLT,getElem_cons_succ,iC,gn3,set_cons_succ,set_cons_zero,Std.le_refl,Int.natCast_pos,Int.toNat_zero,qV,Nat.lt_add_one,ixR,getL,atI,qy,cb3,qc,qi,Int.toNat_one,List.length_set,hG,Int.cast_ofNat_Int,Int.reduceLT,Option.bind_some,qL];refine ⟨u,m+1+64,rfl,by omega,by omega,λv v1 v2=>?_⟩;refine ⟨⟨by omega,by omega⟩,by omega,h _ _ (Int.emod_nonneg _ (by omega)) (Int.emod_lt_of_pos _ (by omega)) ⟨o,c,m+1,qL,ho,by omega,by omega⟩ λb ob hb e=>?_⟩;rw [ZW hb];exact e
def qci {x y:Int} (hy:0<y):Int.gcd y (x%y)=Int.gcd x y:=by
 rw [Int.emod_def,Int.gcd_comm x y];simp
def NC:∀ ts G q,ZX ts G q->ts.length=2/\EC (NW q) (qt ["_law_one","_law_other"] ts) G:=by
 rintro ts G q ⟨x,y,rfl,hx,hy,h⟩;refine ⟨rfl,?_⟩;simp only [EC,qH,C6,qt,map_cons,List.map_nil,length_cons,length_nil,Nat.zero_add,Nat.reduceAdd,Nat.sub_self,List.replicate_zero,List.append_nil,tb3,o3,v3,c3,iB,decide_eq_true_eq,WD,qc,iC,qi,qV];refine ⟨λn τ G'=>G'=G/\∃ u v:Int,τ=[some (.int u),some (.int v)]/\n=v.toNat/\0<=u/\0<=v/\Int.gcd u v=Int.gcd x y,⟨_,rfl,x,y,rfl,rfl,hx,hy,rfl⟩,?_⟩;rintro n τ G' ⟨eG,u,v,rfl,rfl,hu,hv,e⟩;simp;by_cases h0:0<v
 ·simp [h0];refine ⟨λτ' G'=>G'=G/\∃ x' y':Int,τ'=[some (.int x'),some (.int y')]/\y'.toNat<v.toNat/\0<=x'/\0<=y'/\Int.gcd x' y'=Int.gcd x y,λτ' G' ⟨e1,x',y',e2,e3,e4,e5,e6⟩=>⟨y'.toNat,by omega,e1,x',y',e2,rfl,e4,e5,e6⟩,eG,v,u%v,rfl,?_,hv,Int.emod_nonneg _ (by omega),by rw [qci h0,e]⟩;have:=Int.emod_lt_of_pos u h0;omega
 ·have:v=0:=by omega
  subst this;simp at e;simp [eG];have:u=(Int.gcd x y:Nat):=by omega
  rw [this];exact h
def qlF {d:Int} (h1:0<=d) (h2:d<4) {x0 x1 x2 x3:T} {P:T->Prop} (p0:P x0) (p1:P x1) (p2:P x2) (p3:P x3):∃ x,L2.atI [x0,x1,x2,x3] d=some x/\P x:=by
 have:d=0\/d=1\/d=2\/d=3:=by omega
 rcases this with rfl|rfl|rfl|rfl
 ·exact ⟨x0,rfl,p0⟩
 ·exact ⟨x1,rfl,p1⟩
 ·exact ⟨x2,rfl,p2⟩
 ·exact ⟨x3,rfl,p3⟩
def qmh {d:Int} (h1:0<=d) (h2:d<3) {x0 x1 x2:T} {P:T->Prop} (p0:P x0) (p1:P x1) (p2:P x2):∃ x,L2.atI [x0,x1,x2] d=some x/\P x:=by
 have:d=0\/d=1\/d=2:=by omega
 rcases this with rfl|rfl|rfl
 ·exact ⟨x0,rfl,p0⟩
 ·exact ⟨x1,rfl,p1⟩
 ·exact ⟨x2,rfl,p2⟩
def SF:∀ ts G q,JM ts G q->ts.length=1/\YQ qA (NW q) (qt ["_law_left_here","_law_wide","_law_rows","_law_columns"] ts) G:=by
 rintro ts G q ⟨a,n,rfl,hL,hn,h⟩;refine ⟨rfl,?_⟩;unfold YQ;refine QN λnx1 q1=>?_;simp only [zw,o3,VO,qc,c3,qi,length_cons,length_nil,Nat.zero_add,Nat.reduceAdd,sizeLine_eq,Nat.reduceLeDiff,cb3,v3,qt,map_cons,List.map_nil,Nat.add_one_sub_one,List.reduceReplicate,cons_append,List.nil_append,Nat.zero_lt_succ,getElem?_pos,getElem_cons_zero,gn3,set_cons_succ,set_cons_zero,true_and];intro p hp;have hpa:=hL.ne hp;refine zE (hL.new hpa) (by decide) (by decide) (by omega) λd G1 d1 d2 L1 E1=>?_;have g1:=E1 p _ hpa qL;obtain ⟨w,hw,w',rfl,w1,w2⟩:=qlF d1 d2 (P:=λt=>∃ w,t=T.int w/\1<=w/\w<=16) ⟨6,rfl,by decide⟩ ⟨6,rfl,by decide⟩ ⟨6,rfl,by decide⟩ ⟨16,rfl,by decide⟩;simp only [ixR,getL,g1,hw];rw [q1];clear q1;refine QN λnx2 q2=>?_;simp only [WD,qc,o3,c3,cb3,v3,length_cons,length_nil,Nat.zero_add,Nat.reduceAdd,Nat.zero_lt_succ,getElem?_pos,getElem_cons_zero,Nat.reduceLT,getElem_cons_succ,qi,j5,ne_eq,sizeLine_eq,set_cons_succ,set_cons_zero];refine zE L1 w1 (by omega) (by omega) λr G2 r1 r2 L2' E2=>?_;simp only [iI,qH,zw,o3,VO,qc,c3,qi,length_cons,length_nil,Nat.zero_add,Nat.reduceAdd,sizeLine_eq,Nat.reduceLeDiff,cb3,v3,qt,map_cons,List.map_nil,Nat.add_one_sub_one,List.reduceReplicate,cons_append,List.nil_append,Nat.zero_lt_succ,getElem?_pos,getElem_cons_zero,gn3,WD,set_cons_succ,set_cons_zero,Nat.reduceLT,getElem_cons_succ,j5,ne_eq,qV,ju,Nat.lt_add_one,true_and,gu];refine zE L2' w1 (by omega) (by omega) λc G3 c1 c2 L3' E3=>?_;simp only [iI,qH,zw,o3,VO,qc,c3,qi,length_cons,length_nil,Nat.zero_add,Nat.reduceAdd,sizeLine_eq,Nat.reduceLeDiff,cb3,v3,qt,map_cons,List.map_nil,Nat.add_one_sub_one,List.reduceReplicate,cons_append,List.nil_append,Nat.zero_lt_succ,getElem?_pos,getElem_cons_zero,gn3,WD,set_cons_succ,set_cons_zero,Nat.reduceLT,getElem_cons_succ,j5,ne_eq,qV,ju,Nat.lt_add_one,true_and,gu];rw [q2];clear q2;simp only [qV,o3,VO,qc,ju,v3,length_cons,length_nil,Nat.zero_add,Nat.reduceAdd,Nat.reduceLT,getElem?_pos,getElem_cons_succ,getElem_cons_zero,Nat.lt_add_one,qi,sizeLine_eq,Nat.reduceLeDiff,cb3,Nat.zero_lt_succ,c3,true_and];intro p2 hp2;have hpa2:=L3'.ne hp2;refine zE (L3'.new hpa2) (by decide) (by decide) (by omega) λe G4 e1 e2 L4 E4=>?_;have g4:=E4 p2 _ hpa2 qL;have x1:1<=1+r:=by omega
 have x2:1+r<=16:=by omega
 have x3:1<=1+c:=by omega
 have x4:1+c<=16:=by omega
 obtain ⟨t,ht,r',c',rfl,z1,z2,z3,z4⟩:=qlF e1 e2 (P:=λt=>∃ r' c',t=T.tup [.int r',.int c']/\1<=r'/\r'<=16/\1<=c'/\c'<=16) ⟨1+r,1+c,rfl,x1,x2,x3,x4⟩ ⟨1+r,1+c,rfl,x1,x2,x3,x4⟩ ⟨1+r,1+c,rfl,x1,x2,x3,x4⟩ ⟨1+r,1+r,rfl,x1,x2,x1,x2⟩;simp only [ixR,getL,g4,ht];exact h r' c' G4 z1 z2 z3 z4 (L4.mono (by omega)) ((((jQ hp).trans E1).trans (E2.trans E3)).trans ((jQ hp2).trans E4))
def T4:∀ ts G q,XV ts G q->ts.length=1/\V0 JM qA (NW q) (qt ["_law_left_here","_law_rows","_law_columns","_law_banks","_law_wide"] ts) G:=by
 rintro ts G q ⟨a,n,rfl,hL,hn,h⟩;refine ⟨rfl,?_⟩;unfold V0;refine QN λnx1 q1=>?_;simp only [zw,cb3,qc,v3,qt,map_cons,List.map_nil,length_cons,length_nil,Nat.zero_add,Nat.reduceAdd,Nat.add_one_sub_one,List.reduceReplicate,cons_append,List.nil_append,Nat.zero_lt_succ,getElem?_pos,getElem_cons_zero,qi,QK,qC,gn3,QI,set_cons_succ,set_cons_zero];refine ⟨a,n,rfl,hL,by omega,λr c G1 r1 r2 c1 c2 L1 E1=>?_⟩;simp only [length_cons,length_nil,Nat.zero_add,Nat.reduceAdd,true_and];rw [q1];clear q1;refine QN λnx2 q2=>?_;simp only [zw,o3,c3,cb3,qc,v3,length_cons,length_nil,Nat.zero_add,Nat.reduceAdd,Nat.zero_lt_succ,getElem?_pos,getElem_cons_zero,VO,qi,sizeLine_eq,Nat.reduceLeDiff,j5,ne_eq,gn3,set_cons_succ,set_cons_zero,true_and];intro p hp;have hpa:=L1.ne hp;refine zE (L1.new hpa) (by decide) (by decide) (by omega) λd G2 d1 d2 L2' E2=>?_;have g2:=E2 p _ hpa qL;obtain ⟨w,hw,w',rfl,w1,w2⟩:=qlF d1 d2 (P:=λt=>∃ w,t=T.int w/\1<=w/\w<=32) ⟨8,rfl,by decide⟩ ⟨8,rfl,by decide⟩ ⟨17,rfl,by decide⟩ ⟨32,rfl,by decide⟩;simp only [ixR,getL,g2,hw];refine zE L2' w1 (by omega) (by omega) λb G3 b1 b2 L3' E3=>?_;simp [qH,zw,gn3,qV,qaT,zJ,CD,qjP,qy,v3,c3,o3,u3,XZ,L3.ixT,L3.ixR,j5,iI,iC,iB,zF,jU,qcm,tb3,TB,or3,UE,ji,qht,XG,if3,ch3,cb3,qc,qi,J1,tyT,zA,ju,VO,CA,np3,sp3,QK,qC,QI,U5,NX,WD,qt,bm3,NT,qkw,JL,qbP,NS,qcS,qbV,jE,CK,X2,qli,qkh,EJ,HT.sIx,getL,in3,UC,eqF,gu,sizeLine_eq,getElem?_cons_zero,getElem?_cons_succ];rw [q2];clear q2;refine QN λnx3 q3=>?_;simp only [zw,o3,VO,qc,v3,length_cons,length_nil,Nat.zero_add,Nat.reduceAdd,Nat.reduceLT,getElem?_pos,getElem_cons_succ,getElem_cons_zero,c3,qi,sizeLine_eq,Nat.reduceLeDiff,cb3,Nat.zero_lt_succ,gn3,set_cons_succ,set_cons_zero,true_and];intro p2 hp2;have hpa2:=L3'.ne hp2;refine zE (L3'.new hpa2) (by decide) (by decide) (by omega) λe G4 e1 e2 L4 E4=>?_;have g4:=E4 p2 _ hpa2 qL;obtain ⟨u,hu,u',rfl,u1,u2⟩:=qmh e1 e2 (P:=λt=>∃ w,t=T.int w/\1<=w/\w<=100) ⟨1+b,rfl,by omega,by omega⟩ ⟨10,rfl,by decide⟩ ⟨100,rfl,by decide⟩;simp only [ixR,getL,g4,hu];rw [q3];clear q3;simp only [qV,ju,qc,c3,v3,length_cons,length_nil,Nat.zero_add,Nat.reduceAdd,Nat.reduceLT,getElem?_pos,getElem_cons_succ,getElem_cons_zero,cb3,Nat.zero_lt_succ,Nat.lt_add_one,qi,sizeLine_eq,Nat.reduceLeDiff,true_and];refine zE L4 u1 (by omega) (by omega) λx G5 x1 x2 L5 E5=>?_
 try simp [qH,zw,gn3,qV,qaT,zJ,CD,qjP,qy,v3,c3,o3,u3,XZ,L3.ixT,L3.ixR,j5,iI,iC,iB,zF,jU,qcm,tb3,TB,or3,UE,ji,qht,XG,if3,ch3,cb3,qc,qi,J1,tyT,zA,ju,VO,CA,np3,sp3,QK,qC,QI,U5,NX,WD,qt,bm3,NT,qkw,JL,qbP,NS,qcS,qbV,jE,CK,X2,qli,qkh,EJ,HT.sIx,getL,in3,UC,eqF,gu,sizeLine_eq,getElem?_cons_zero,getElem?_cons_succ]
 refine zE L5 u1 (by omega) (by omega) λy G6 y1 y2 L6 E6=>?_
 try simp [qH,zw,gn3,qV,qaT,zJ,CD,qjP,qy,v3,c3,o3,u3,XZ,L3.ixT,L3.ixR,j5,iI,iC,iB,zF,jU,qcm,tb3,TB,or3,UE,ji,qht,XG,if3,ch3,cb3,qc,qi,J1,tyT,zA,ju,VO,CA,np3,sp3,QK,qC,QI,U5,NX,WD,qt,bm3,NT,qkw,JL,qbP,NS,qcS,qbV,jE,CK,X2,qli,qkh,EJ,HT.sIx,getL,in3,UC,eqF,gu,sizeLine_eq,getElem?_cons_zero,getElem?_cons_succ]
 exact h r c (1+b) x y G6 ⟨⟨r1,by omega,c1,by omega,by omega,by omega,x1,by omega,y1,by omega⟩,r2,c2,by show 1+b<=32;omega⟩ (L6.mono (by omega)) (E1.trans (((jQ hp).trans E2).trans (E3.trans (((jQ hp2).trans E4).trans (E5.trans E6)))))
def cop {b p:Int} (hb:1<=b):∃ k:Nat,(k:Int)<b/\Int.gcd b (p+k)=1:=by
 refine ⟨((1-p)%b).toNat,?_,?_⟩
 ·have:=Int.emod_nonneg (1-p) (show b≠0 by omega);have:=Int.emod_lt_of_pos (1-p) (show 0<b by omega);omega
 ·have h1:=Int.emod_nonneg (1-p) (show b≠0 by omega);have h2:=Int.emod_add_mul_ediv (1-p) b;have e:p+(((1-p)%b).toNat:Int)=1+b*(-((1-p)/b)):=by
   rw [Int.toNat_of_nonneg h1,Int.mul_neg];omega
  rw [e];simp
structure Plc (b p0 pl:Int) (i:Nat):Prop where
 lo:p0<=pl
 hi:pl<=p0+i
 at_:Int.gcd b pl=1\/(pl=p0+i/\∀ k:Nat,k<i->Int.gcd b (p0+k)≠1)
def Plc.done {b p0 pl:Int} {n:Nat} (h:Plc b p0 pl n) (hb:1<=b) (hn:b<=n):Int.gcd b pl=1:=by
 rcases h.at_ with h|⟨_,h⟩
 ·exact h
 ·obtain ⟨k,h1,h2⟩:=cop (p:=p0) hb;exact absurd h2 (h k (by omega))
def Plc.next {b p0 pl:Int} {i:Nat} (h:Plc b p0 pl i) (hb:1<=b) (hp:1<=p0) (hg:(1:Int)<(Int.gcd b pl:Nat)):Plc b p0 (pl+1) (i+1):=by
 rcases h.at_ with z|⟨z1,z2⟩
 ·rw [z] at hg;simp at hg
 ·refine ⟨by have:=h.lo;omega,by omega,.inr ⟨by omega,λk hk=>?_⟩⟩;rcases Nat.lt_or_ge k i with q|q
  ·exact z2 k q
  ·have:k=i:=by omega
   subst this;rw [← z1];omega
def Plc.stay {b p0 pl:Int} {i:Nat} (h:Plc b p0 pl i) (hb:1<=b) (hp:1<=p0) (hg:¬ (1:Int)<(Int.gcd b pl:Nat)):Plc b p0 pl (i+1):=by
 have g0:0<Int.gcd b pl:=Int.gcd_pos_of_ne_zero_left _ (by omega);exact ⟨h.lo,by have:=h.hi;omega,.inl (by omega)⟩
def qdT {r c b:Int} (hr:1<=r) (hc:1<=c) (hb:1<=b):1<=-(-r*c/b)/\r*c<=b*-(-r*c/b)/\-(-r*c/b)<=r*c:=by
 have h1:=V3 hr hc;have e:-r*c=-(r*c):=Int.neg_mul ..;rw [e];have h2:=Int.ediv_neg_of_neg_of_pos (a:=-(r*c)) (b:=b) (by omega) (by omega);have h3:=Int.mul_ediv_self_le (x:=-(r*c)) (k:=b) (by omega);have h4:-(r*c)<=-(r*c)/b:=by
  have:=Int.le_ediv_of_mul_le (a:=-(r*c)) (b:=-(r*c)) (c:=b) (by omega) (by
   have:=Int.mul_le_mul_of_nonneg_left hb (show (0:Int)<=r*c by omega);rw [Int.neg_mul];omega)
  exact this
 rw [Int.mul_neg];omega
def SN:∀ ts G q,D4 ts G q->ts.length=1/\YV JM qA ZX (NW q) (qt ["_law_left_here","_law_rows","_law_columns","_law_banks","_law_places","_law_turn"] ts) G:=by
 rintro ts G q ⟨a,n,rfl,hL,hn,h⟩;refine ⟨rfl,?_⟩;unfold YV;refine QN λnx1 q1=>?_;simp only [zw,cb3,qc,v3,qt,map_cons,List.map_nil,length_cons,length_nil,Nat.zero_add,Nat.reduceAdd,Nat.add_one_sub_one,List.reduceReplicate,cons_append,List.nil_append,Nat.zero_lt_succ,getElem?_pos,getElem_cons_zero,qi,QK,qC,gn3,QI,set_cons_succ,set_cons_zero];refine ⟨a,n,rfl,hL,by omega,λr c G1 r1 r2 c1 c2 L1 E1=>?_⟩;simp only [length_cons,length_nil,Nat.zero_add,Nat.reduceAdd,true_and];rw [q1];clear q1;refine QN λnx2 q2=>?_;simp only [zw,o3,c3,cb3,qc,v3,length_cons,length_nil,Nat.zero_add,Nat.reduceAdd,Nat.zero_lt_succ,getElem?_pos,getElem_cons_zero,VO,qi,sizeLine_eq,Nat.reduceLeDiff,j5,ne_eq,gn3,set_cons_succ,set_cons_zero,true_and];intro p hp;have hpa:=L1.ne hp;refine zE (L1.new hpa) (by decide) (by decide) (by omega) λd G2 d1 d2 L2' E2=>?_;have g2:=E2 p _ hpa qL;obtain ⟨w,hw,w',rfl,w1,w2⟩:=qmh d1 d2 (P:=λt=>∃ w,t=T.int w/\1<=w/\w<=32) ⟨8,rfl,by decide⟩ ⟨17,rfl,by decide⟩ ⟨32,rfl,by decide⟩;simp only [ixR,getL,g2,hw];refine zE L2' w1 (by omega) (by omega) λb G3 b1 b2 L3' E3=>?_;simp [qH,zw,gn3,qV,qaT,zJ,CD,qjP,qy,v3,c3,o3,u3,XZ,L3.ixT,L3.ixR,j5,iI,iC,iB,zF,jU,qcm,tb3,TB,or3,UE,ji,qht,XG,if3,ch3,cb3,qc,qi,J1,tyT,zA,ju,VO,CA,np3,sp3,QK,qC,QI,U5,NX,WD,qt,bm3,NT,qkw,JL,qbP,NS,qcS,qbV,jE,CK,X2,qli,qkh,EJ,HT.sIx,getL,in3,UC,eqF,gu,sizeLine_eq,getElem?_cons_zero,getElem?_cons_succ];rw [q2];clear q2;refine QN λnx3 q3=>?_;simp only [zw,o3,u3,v3,length_cons,length_nil,Nat.zero_add,Nat.reduceAdd,Nat.reduceLT,getElem?_pos,getElem_cons_succ,getElem_cons_zero,XZ,iC,cb3,qc,Nat.zero_lt_succ,c3,qi,j5,ne_eq,sizeLine_eq,gn3,set_cons_succ,set_cons_zero];refine ⟨cm (by omega) (by omega),⟨by omega,by omega⟩,zE L3' (by omega) (by omega) (by omega) λe G4 e1 e2 L4 E4=>?_⟩;obtain ⟨u1,u2,u3⟩:=qdT r1 c1 (show 1<=1+b by omega);have rc:r*c<=16*16:=Int.mul_le_mul r2 c2 (by omega) (by omega);simp [qH,zw,gn3,qV,qaT,zJ,CD,qjP,qy,v3,c3,o3,u3,XZ,L3.ixT,L3.ixR,j5,iI,iC,iB,zF,jU,qcm,tb3,TB,or3,UE,ji,qht,XG,if3,ch3,cb3,qc,qi,J1,tyT,zA,ju,VO,CA,np3,sp3,QK,qC,QI,U5,NX,WD,qt,bm3,NT,qkw,JL,qbP,NS,qcS,qbV,jE,CK,X2,qli,qkh,EJ,HT.sIx,getL,in3,UC,eqF,gu,sizeLine_eq,getElem?_cons_zero,getElem?_cons_succ];rw [q3];clear q3;simp only [qH,LK,ZI,qc,c3,qi,Int.reducePow,Int.reduceNeg,Int.neg_ofNat_le_ofNat,Int.reduceLT,and_self,Int.reduceToNat,true_and];obtain ⟨p0,hp0⟩:∃ p0,p0=-(-r*c/(1+b))+e:=⟨_,rfl⟩
 refine W9 _ (λi τ G'=>G'=G4/\∃ (pl:Int) (x:Option T),τ=[some (.ref a),some (.int r),some (.int c),some (.int (1+b)),some (.int pl),x]/\Plc (1+b) p0 pl i) ⟨rfl,_,none,by rw [← hp0],⟨by omega,by omega,.inr ⟨by omega,by omega⟩⟩⟩ (λ_ _ _ _ _=>True.intro) ?_ ?_
 ·rintro i x τ G' nx hx ⟨rfl,pl,y,rfl,P⟩ hn;simp only [gn3,zJ,tb3,o3,cb3,qc,v3,set_cons_succ,set_cons_zero,length_cons,length_nil,Nat.zero_add,Nat.reduceAdd,Nat.reduceLT,getElem?_pos,getElem_cons_succ,getElem_cons_zero,qi,c3,iB,decide_eq_true_eq,zw,j5,qy];refine ⟨1+b,pl,rfl,by omega,by have:=P.lo;omega,?_⟩;simp;split
  ·rename_i hg;exact hn _ _ ⟨rfl,_,_,rfl,P.next (by omega) (by omega) (by omega)⟩
  ·rename_i hg;exact hn _ _ ⟨rfl,_,_,rfl,P.stay (by omega) (by omega) (by omega)⟩
 ·rintro τ G' ⟨rfl,pl,x,rfl,P⟩;simp only [qV,ju,qc,c3,v3,length_cons,length_nil,Nat.zero_add,Nat.reduceAdd,Nat.reduceLT,getElem?_pos,getElem_cons_succ,getElem_cons_zero,qi,sizeLine_eq,Nat.reduceLeDiff,true_and];rw [YO] at P;have lo:=P.lo;have hi:=P.hi;have m1:(1+b)*-(-r*c/(1+b))<=(1+b)*pl:=Int.mul_le_mul_of_nonneg_left (by omega) (by omega);exact h r c (1+b) pl G' ⟨⟨r1,by omega,c1,by omega,by omega,by omega,by omega,by omega,P.done (by omega) (by omega),by omega⟩,r2,c2,by show 1+b<=32;omega⟩ (L4.mono (by omega)) (E1.trans (((jQ hp).trans E2).trans (E3.trans E4)))
def X8:Nat->PyData->Prop
 |_,.none=>True
 |_,.bool _=>True
 |_,.int _=>True
 |_,.str _=>True
 |n+1,.list ds=>ds.length<=1000000/\∀ d∈ds,X8 n d
 |n+1,.tuple ds=>ds.length<=1000000/\∀ d∈ds,X8 n d
 |_,_=>False
def QQ:Nat->Sp3
 |0=>qbt
 |n+1=>λts G q=>∃ (x y:T) (d:PyData),ts=[x,y]/\Dp G x d/\Dp G y d/\X8 n d/\∀ G',Ex G G'->q (.bl true) G'
def LM {G G':Gp} (e:Ex G G') {x:T} {us:List T} (h:JS G x=some us):JS G' x=some us:=by
 cases x<;>simp [JS] at h ⊢
 ·exact h
 ·exact e.getL h
def qcc (n:Nat):qdv (List.replicate n (.bl true))=some true:=by
 induction n with
 |zero=>rfl
 |succ n ih=>rw [List.replicate_succ];simp [qdv,ih]
def MI {G:Gp} {n:Nat} {x y:T} {us vs:List T} {ds:List PyData} {q:Q3} (hx:JS G x=some us) (hy:JS G y=some vs) (du:Dps G us ds) (dv:Dps G vs ds) (hl:us.length<=1000000) (hd:∀ d∈ds,∃ m,n=m+1/\X8 m d) (h:∀ G',Ex G G'->q (.bl true) G') :
  CS (λG=>JS G x=some us/\JS G y=some vs) (QK 2 (qC (gn3 0) (qC (gn3 1) QI))) tt3 (cb3 (QQ n) (qc (v3 0) (qc (v3 1) qi))) (λx G1=>X2 [x] G1 q) (qbQ us vs) [] [none,none] G:=by
 have e1:=du.length;have e2:=dv.length;refine R6 _ (λi ys τ G'=>Ex G G'/\ys=List.replicate i (.bl true)/\∃ x0 x1,τ=[x0,x1]) ⟨Ex.refl,rfl,none,none,rfl⟩ (λi ys τ G' _ hp=>⟨LM hp.1 hx,LM hp.1 hy⟩) ?_ ?_
 ·rintro i z ys τ G' R hz ⟨E,rfl,x0,x1,rfl⟩ hR;obtain ⟨a,b,ha,hb,rfl⟩:=RE hz;obtain ⟨d,hd1,da⟩:=du.get ha;obtain ⟨d',hd2,db⟩:=dv.get hb;rw [hd1] at hd2;cases hd2;obtain ⟨m,rfl,dl⟩:=hd d (mem_of_getElem? hd1);have hi:=(List.getElem?_eq_some_iff.mp ha).1;simp only [QK,length_cons,length_nil,Nat.zero_add,Nat.reduceAdd,qC,gn3,QI,tt3,↓reduceIte,cb3,qc,v3,set_cons_zero,set_cons_succ,Nat.zero_lt_succ,getElem?_pos,getElem_cons_zero,Nat.lt_add_one,getElem_cons_succ,qi,List.length_replicate,sizeLine_eq,true_and];refine ⟨a,b,d,rfl,da.up E,db.up E,dl,λG2 E2=>⟨by omega,hR _ _ _ ⟨E.trans E2,?_,_,_,rfl⟩⟩⟩;rw [List.replicate_succ']
 ·rintro ys τ G' ⟨E,rfl,x0,x1,rfl⟩ p hp;simp [X2,getL,qL,qcc];exact h _ (E.trans (VE hp))
def qbZ {n:Nat} {ds:List PyData} (h:X8 n (.list ds)):ds.length<=1000000/\∀ d∈ds,∃ m,n=m+1/\X8 m d:=by
 cases n with
 |zero=>exact h.elim
 |succ n=>exact ⟨h.1,λd hd=>⟨n,rfl,h.2 d hd⟩⟩
def qaH {n:Nat} {ds:List PyData} (h:X8 n (.tuple ds)):ds.length<=1000000/\∀ d∈ds,∃ m,n=m+1/\X8 m d:=by
 cases n with
 |zero=>exact h.elim
 |succ n=>exact ⟨h.1,λd hd=>⟨n,rfl,h.2 d hd⟩⟩
def qkT {x:T} {G:Gp} {q:Q3} (h:jU x x=some true) (k:q (.bl true) G):zF false x x G q:=by
 unfold zF;rw [h];exact k
def qbz {ta tb:TE3} {e:Ends3} {τ:St3} {G:Gp} {x:T} (h:∀ q',q' x G->ta τ G q') (k:x=.bl true) (h2:tb τ G e.rt):qV (ji ta tb) e τ G:=h _ (by subst k;exact h2)
def qn2 {ta tb:TE3} {τ:St3} {G:Gp} {x:T} (ha:∀ q',q' x G->ta τ G q') (hb:∀ q',q' x G->tb τ G q') (h:jU x x=some true):∀ q',q' (.bl true) G->o3 (zF false) ta tb τ G q':=λq' k=>ha _ (hb _ (qkT h k))
def MX {c:TT3} {a b:TS3} {e:Ends3} {τ:St3} {G:Gp} (h:∀ A,A=a->zJ c A b e τ G):zJ c a b e τ G:=h _ rfl
def Y8 (n:Nat):∀ ts G q,QQ (n+1) ts G q->ts.length=2/\EZ (QQ n) (NW q) (qt ["_law_found","_law_due"] ts) G:=by
 rintro ts G q ⟨x,y,d,rfl,hx,hy,hd,h⟩;refine ⟨rfl,?_⟩;have h0:=h G Ex.refl;cases hx with
 |non=>cases hy;exact h0
 |bl b=>cases hy;cases b<;>exact h0
 |int i=>cases hy;exact qkT (x:=.int i) (by simp [jU]) h0
 |str s=>
  cases hy;refine QN λnx1 q1=>?_;refine MX λA1 hA=>?_;clear hA;show nx1 _ _;rw [q1];clear q1;refine QN λnx2 q2=>?_;refine MX λA2 hA=>?_;show A2 _ _ _;rw [hA];exact qbz (qn2 (x:=.str s) (λ_ k=>k) (λ_ k=>k) (by simp [jU])) rfl h0
 |tup dx=>
  cases hy with
  |tup dy=>
   rename_i xs ds ys;have e1:=dx.length;have e2:=dy.length;obtain ⟨l1,l2⟩:=qaH hd;have key:=MI (n:=n) (x:=.tup xs) (y:=.tup ys) (us:=xs) (vs:=ys) (q:=q) rfl rfl dx dy (by omega) l2 h;have e3:xs.length=ys.length:=by omega
   refine QN λnx1 q1=>?_;clear q1;refine MX λA1 hA=>?_;show A1 _ _ _;rw [hA];clear hA;refine QN λnx2 q2=>?_;refine MX λA2 hA=>?_;show nx2 _ _;rw [q2];clear q2;exact qbz (qn2 (x:=.int ys.length) (λ_ k=>by rw [← e3] at k;exact k) (λ_ k=>k) (by simp [jU])) rfl key
 |lst gx dx=>
  cases hy with
  |lst gy dy=>
   rename_i p1 xs ds p2 ys;have e1:=dx.length;have e2:=dy.length;obtain ⟨l1,l2⟩:=qbZ hd;have key:=MI (n:=n) (x:=.ref p1) (y:=.ref p2) (us:=xs) (vs:=ys) (q:=q) gx gy dx dy (by omega) l2 h;have e3:xs.length=ys.length:=by omega
   refine QN λnx1 q1=>?_;clear q1;refine MX λA1 hA=>?_;simp only [zJ,tb3,J1,v3,qt,map_cons,List.map_nil,length_cons,length_nil,Nat.zero_add,Nat.reduceAdd,Nat.sub_self,List.replicate_zero,List.append_nil,Nat.lt_add_one,getElem?_pos,getElem_cons_succ,getElem_cons_zero,tyT,gx,gy,Option.isSome_some,↓reduceIte,zA,BEq.rfl,String.reduceBEq,Bool.and_self,Bool.or_false,Bool.or_self,or3,o3,Nat.zero_lt_succ,zF,jU,decide_true,Bool.not_true,Bool.false_eq_true,qy];rw [hA];clear hA;refine QN λnx2 q2=>?_;refine MX λA2 hA=>?_;clear hA;simp only [zJ,tb3,J1,v3,qt,map_cons,List.map_nil,length_cons,length_nil,Nat.zero_add,Nat.reduceAdd,Nat.sub_self,List.replicate_zero,List.append_nil,Nat.lt_add_one,getElem?_pos,getElem_cons_succ,getElem_cons_zero,tyT,gx,gy,Option.isSome_some,↓reduceIte,zA,BEq.rfl,String.reduceBEq,Bool.and_self,Bool.or_false,Bool.or_self,or3,o3,Nat.zero_lt_succ,zF,jU,decide_true,Bool.not_true,Bool.false_eq_true,qy];rw [q2];clear q2;simp only [JS,X2,qt,map_cons,List.map_nil,length_cons,length_nil,Nat.zero_add,Nat.reduceAdd,Nat.sub_self,List.replicate_zero,List.append_nil,Nat.lt_add_one,getElem?_pos,getElem_cons_succ,getElem_cons_zero,gy,↓reduceIte,o3,v3,Nat.zero_lt_succ,gx,zF,jU,decide_true,Bool.false_eq_true,qV,ji,cb3,qc,qi,JL,e3,lc3,MT,cap] at key ⊢;exact key
def qcu:∀ {d:Nat},d<=8->L2.atI [T.int 1,.int 2,.int 4,.int 8,.int 16,.int 32,.int 64,.int 128,.int 256] (d:Int)=some (.int (2 ^ d))
 |0,_=>rfl
 |1,_=>rfl
 |2,_=>rfl
 |3,_=>rfl
 |4,_=>rfl
 |5,_=>rfl
 |6,_=>rfl
 |7,_=>rfl
 |8,_=>rfl
 |k+9,h=>absurd h (Nat.not_le.mpr (Nat.lt_of_lt_of_le (Nat.lt_succ_self _) (Nat.le_add_left _ _)))
def qcA:∀ {d:Nat},d<=4->L2.atI [T.int 1,.int 2,.int 4,.int 8,.int 16] (d:Int)=some (.int (2 ^ d))
 |0,_=>rfl
 |1,_=>rfl
 |2,_=>rfl
 |3,_=>rfl
 |4,_=>rfl
 |k+5,h=>absurd h (Nat.not_le.mpr (Nat.lt_of_lt_of_le (Nat.lt_succ_self _) (Nat.le_add_left _ _)))
def RZ {te:TE3} {q:Q3} {a:Addr} {n many:Int} {J0:St3} {items:List T} {x0:Option T} {G:Gp} (hte:∀ x0 G3 (Q:T->Gp->Prop),qA [.ref a,.int many] G3 Q->te (x0::J0) G3 Q) (hL:Lf G a n) (m1:1<=many) (m2:many<1073741824) (hl:items.length<=1000) (hn:n<1000000000)
  (h:∀ (ds:List Int) G' p,ds.length=items.length->(∀ d∈ds,0<=d/\d<many)->Lf G' a (n+items.length)->Ext a G G'->G' p=none->q (.ref p) (gu G' p (.lst (ds.map T.int)))) :
  CS (λ_=>True) (gn3 0) tt3 te q items [] (x0::J0) G:=by
 refine R6 _ (λi ys τ G'=>∃ (ds:List Int) (x0:Option T),τ=x0::J0/\ys=ds.map T.int/\ds.length=i/\(∀ d∈ds,0<=d/\d<many)/\Lf G' a (n+i)/\Ext a G G') ⟨[],x0,rfl,rfl,rfl,by simp,by simpa using hL,Ext.refl⟩ (λ_ _ _ _ _ _=>True.intro) ?_ ?_
 ·rintro i z ys τ G' R hz ⟨ds,x0,rfl,rfl,e,hd,hL',E⟩ hR;have hi:=(List.getElem?_eq_some_iff.mp hz).1;simp only [gn3,tt3,set_cons_zero,if_true];refine hte _ _ _ (zE hL' m1 m2 (by omega) λd G2 d1 d2 L2 E2=>⟨by simp [sizeLine_eq];omega,hR _ _ _ ⟨ds++[d],_,rfl,by simp,by simp [e],λx hx=>?_,L2.mono (by omega),E.trans E2⟩⟩);rcases List.mem_append.mp hx with hx|hx
  ·exact hd x hx
  ·simp at hx;subst hx;exact ⟨d1,d2⟩
 ·rintro ys τ G' ⟨ds,x0,rfl,rfl,e,hd,hL',E⟩ p hp;exact h ds G' p e hd hL' E hp
def XR:Sp3:=λts G q=>∃ a n most,ts=[.ref a,.int most]/\Lf G a n/\n<10000000/\0<=most/\most<=4/\∀ (h l:Nat) (ms:List Int) G',(h:Int)<=most->(l:Int)<=most->(Dl.bits h l ms).Ok->Lf G' a (n+10)->Ext a G G'->q (Dl.bits h l ms).t G'
def LQ {wide:Int} {p:Addr} {ds:List Int} {x0:Option T} {G:Gp} {q:Q3} (hw:0<wide) (hl:ds.length<=1000) (hG:getL G p=some (ds.map T.int)) (h:∀ p2,G p2=none->q (.ref p2) (gu G p2 (.lst ((ds.map (·%wide)).map T.int)))) :
  CS (λG=>getL G p=some (ds.map T.int)) (gn3 0) tt3 (o3 (iC (λ_ j=>0<j) (·%·)) (v3 0) (v3 1)) q (ds.map T.int) [] [x0,some (.int wide)] G:=by
 refine LI (λt=>match t with|.int m=>T.int (m%wide)|t=>t) (λτ=>∃ x0,τ=[x0,some (.int wide)]) hG _ _ _ ⟨_,rfl⟩ ?_ (by simp [sizeLine_eq];omega) λp2 hp2=>?_
 ·rintro z hz τ ⟨x0,rfl⟩ R hR;rw [mem_map] at hz;obtain ⟨m,_,rfl⟩:=hz;simp [gn3,o3,v3,iC];exact ⟨hw,hR _ ⟨_,rfl⟩⟩
 ·have:=h p2 hp2;simpa [map_map,Function.comp_def] using this
def KU:∀ ts G q,XR ts G q->ts.length=2/\V2 qA (NW q) (qt ["_law_left_here","_law_most","_law_high","_law_low","_law_masks","_law_wide"] ts) G:=by
 rintro ts G q ⟨a,n,most,rfl,hL,hn,m1,m2,h⟩;refine ⟨rfl,?_⟩;simp only [V2,qH,WD,qc,cb3,v3,qt,map_cons,List.map_nil,length_cons,length_nil,Nat.zero_add,Nat.reduceAdd,Nat.reduceSub,List.reduceReplicate,cons_append,List.nil_append,Nat.zero_lt_succ,getElem?_pos,getElem_cons_zero,o3,Nat.reduceLT,getElem_cons_succ,c3,j5,qi,zw,set_cons_succ,set_cons_zero,gn3,VO,sizeLine_eq,Nat.reduceLeDiff,ne_eq,qV,ju,jE,true_and,getL,gu,ixR,↓reduceIte];refine zE hL (by omega) (by omega) (by omega) λhi G1 h1 h2 L1 E1=>?_
 try simp
 refine zE L1 (by omega) (by omega) (by omega) λlo G2 l1 l2 L2' E2=>?_;simp only [lc3,ZI,qc,cb3,v3,length_cons,length_nil,Nat.zero_add,Nat.reduceAdd,Nat.zero_lt_succ,getElem?_pos,getElem_cons_zero,c3,qi,Int.reducePow,Int.reduceNeg,cap,map_cons,Nat.lt_add_one,getElem_cons_succ,Option.join_some,List.map_nil];refine zE L2' (by omega) (by omega) (by omega) λk G3 k1 k2 L3' E3=>?_;refine ⟨⟨by omega,by omega⟩,RZ (many:=256) (λx0 G3 Q hq=>by simpa [cb3,qc,v3,c3,qi] using hq) L3' (by omega) (by omega) (by rw [YO];omega) (by omega) λds G4 p e1 e2 L4 E4 hp=>?_⟩;rw [YO] at e1 L4;obtain ⟨H,rfl⟩:=Int.eq_ofNat_of_zero_le h1;obtain ⟨W,rfl⟩:=Int.eq_ofNat_of_zero_le l1;have hpa:=L4.ne hp
 try simp
 intro p2 hp2;have pp:p≠p2:=by rintro rfl;rw [qL] at hp2;cases hp2
 have e3:((H:Int)+(W:Int))=((H+W:Nat):Int):=by omega
 have w1:=S7 (H+W);have hG:∀ B,getL (gu (gu G4 p (.lst (ds.map T.int))) p2 B) p=some (ds.map T.int):=λB=>by simp only [getL,ZW pp,qL]
 rw [e3,qcu (d:=H+W) (by omega)];simp only [UB,v3,getElem?_cons_zero,getElem?_cons_succ,hG];refine LQ (by omega) (by omega) (hG _) λp3 hp3=>?_;simp only [qL];refine h H W _ _ (by omega) (by omega) ⟨by omega,by omega,by simp;omega,λm hm=>?_⟩ ((((L4.new hpa).new ((L4.new hpa).ne hp2)).new (((L4.new hpa).new ((L4.new hpa).ne hp2)).ne hp3)).mono (by omega)) (((E1.trans E2).trans (E3.trans E4)).trans (((jQ hp).trans (jQ hp2)).trans (jQ hp3)));rw [mem_map] at hm;obtain ⟨x,_,rfl⟩:=hm;exact ⟨Int.emod_nonneg _ (by omega),Int.emod_lt_of_pos _ (by omega)⟩
structure Cells (cells:List (List Int)) (r c b:Int):Prop where
 r:(cells.length:Int)=r
 c:∀ row∈cells,(row.length:Int)=c/\∀ x∈row,0<=x/\x<b
def MC {q:Q3} {a:Addr} {n r c b:Int} {x0:Option T} {G:Gp} (hL:Lf G a n) (hn:n<100000000) (r1:1<=r) (r2:r<=16) (c1:1<=c) (c2:c<=16) (b1:1<=b) (b2:b<=1000)
  (h:∀ cells G' p,Cells cells r c b->Lf G' a (n+256)->Ext a G G'->G' p=none->q (.ref p) (gu G' p (.lst (cells.map qji)))) :
  CS (λ_=>True) (gn3 0) tt3 (cb3 jE (qc (lc3 (ZI (qc (v3 3) qi)) (gn3 0) tt3 (cb3 qA (qc (v3 1) (qc (v3 2) qi))) [none,some 1,some 2]) qi)) q (MG 0 r.toNat) [] [x0,some (.ref a),some (.int b),some (.int c)] G:=by
 refine R6 _ (λi ys τ G'=>∃ (cells:List (List Int)) (x0:Option T),τ=[x0,some (.ref a),some (.int b),some (.int c)]/\ys=cells.map qji/\Cells cells i c b/\Lf G' a (n+16*i)/\Ext a G G') ⟨[],x0,rfl,rfl,⟨rfl,by simp⟩,by simpa using hL,Ext.refl⟩ (λ_ _ _ _ _ _=>True.intro) ?_ ?_
 ·rintro i z ys τ G' R hz ⟨cells,x0,rfl,rfl,C,hL',E⟩ hR;obtain ⟨hi,rfl⟩:=qar hz;have hc:=C.r;simp only [gn3,tt3,↓reduceIte,cb3,qc,lc3,ZI,v3,Int.zero_add,set_cons_zero,length_cons,length_nil,Nat.zero_add,Nat.reduceAdd,Nat.lt_add_one,getElem?_pos,getElem_cons_succ,getElem_cons_zero,qi,Int.reducePow,Int.reduceNeg,jE,length_map,sizeLine_eq,getL,cap,map_cons,Nat.reduceLT,Option.join_some,List.map_nil];refine ⟨⟨by omega,by omega⟩,RZ (many:=b) (λx0 G3 Q hq=>by simpa [cb3,qc,v3,c3,qi] using hq) hL' (by omega) (by omega) (by rw [YO];omega) (by omega) λds G4 p e1 e2 L4 E4 hp=>?_⟩;rw [YO] at e1 L4;simp only [qL];refine ⟨by omega,hR _ _ _ ⟨cells++[ds],_,rfl,by simp [qji],⟨by simp;omega,λrow hrow=>?_⟩,((L4.new (L4.ne hp)).mono (by omega)),(E.trans E4).trans (jQ hp)⟩⟩;rcases List.mem_append.mp hrow with hr|hr
  ·exact C.c row hr
  ·simp at hr;subst hr;exact ⟨by omega,e2⟩
 ·rintro ys τ G' ⟨cells,x0,rfl,rfl,C,hL',E⟩ p hp;rw [YO] at C hL';exact h cells G' p ⟨by have:=C.r;omega,C.c⟩ (hL'.mono (by omega)) E hp
def Cells.ok {cells:List (List Int)} {r c b:Int} (C:Cells cells r c b) (r1:1<=r) (r2:r<=60) (c1:1<=c) (c2:c<=60) (b1:1<=b) (b2:b<=1000):(Dl.table b cells).Ok/\(Dl.table b cells).R=r/\(Dl.table b cells).C=c:=by
 have hl:=C.r;have ok:(Dl.table b cells).Ok:=⟨b1,b2,by omega,by omega,c.toNat,by omega,by omega,λrow hr=>⟨by have:=(C.c row hr).1;omega,(C.c row hr).2⟩⟩
 have e0:cells[0]?=some cells[0]:=getElem?_eq_getElem (by omega);exact ⟨ok,hl,by simp [Dl.C,e0];exact (C.c cells[0] (List.getElem_mem _)).1⟩
def D5:Sp3:=λts G q=>∃ a n,ts=[.ref a]/\Lf G a n/\n<10000000/\∀ (d:Dl) G',Dr d 4 4 5->d.dep=0->Lf G' a (n+300)->Ext a G G'->q d.t G'
def SG:∀ ts G q,D5 ts G q->ts.length=1/\YS qA ZX (NW q) (qt ["_law_left_here","_law_rows","_law_columns","_law_banks","_law_way","_law_high","_law_low","_law_masks","_law_wide","_law_places","_law_turn","_law_cells"] ts) G:=by
 rintro ts G q ⟨a,n,rfl,hL,hn,h⟩;refine ⟨rfl,?_⟩;unfold YS;refine QN λnx1 q1=>?_;simp only [zw,ju,qc,o3,c3,cb3,v3,qt,map_cons,List.map_nil,length_cons,length_nil,Nat.zero_add,Nat.reduceAdd,Nat.add_one_sub_one,List.reduceReplicate,cons_append,List.nil_append,Nat.zero_lt_succ,getElem?_pos,getElem_cons_zero,qi,j5,ne_eq,sizeLine_eq,Nat.reduceLeDiff,QK,qC,gn3,QI,set_cons_succ,set_cons_zero,true_and];refine zE hL (by omega) (by omega) (by omega) λr G1 r1 r2 L1 E1=>?_
 try simp
 refine zE L1 (by omega) (by omega) (by omega) λc G2 c1 c2 L2' E2=>?_
 try simp
 refine zE L2' (by omega) (by omega) (by omega) λb G3 b1 b2 L3' E3=>?_
 try simp
 rw [q1];refine QN λnx2 q2=>?_;simp only [zw,cb3,qc,v3,length_cons,length_nil,Nat.zero_add,Nat.reduceAdd,Nat.zero_lt_succ,getElem?_pos,getElem_cons_zero,c3,qi,gn3,set_cons_succ,set_cons_zero];refine zE L3' (by omega) (by omega) (by omega) λway G4 w1 w2 L4 E4=>?_;have EE:=(E1.trans E2).trans (E3.trans E4);rw [q2];refine QN λnx3 q3=>?_;by_cases k0:way=0
 ·subst k0;simp only [zJ,tb3,o3,v3,length_cons,length_nil,Nat.zero_add,Nat.reduceAdd,Nat.reduceLT,getElem?_pos,getElem_cons_succ,getElem_cons_zero,c3,zF,jU,decide_true,Bool.false_eq_true,↓reduceIte,qV,ju,qc,cb3,Nat.zero_lt_succ,qi,sizeLine_eq,Nat.reduceLeDiff,true_and];refine zE L4 (by omega) (by omega) (by omega) λx G5 x1 x2 L5 E5=>?_
  try simp
  refine zE L5 (by omega) (by omega) (by omega) λy G6 y1 y2 L6 E6=>?_
  try simp
  exact h (.skew (1+r) (1+c) (1+b) x y) G6 ⟨⟨by omega,by omega,by omega,by omega,by omega,by omega,by omega,by omega,by omega,by omega⟩,by show 1+r<=4;omega,by show 1+c<=4;omega,by show 1+b<=5;omega⟩ rfl (L6.mono (by omega)) (EE.trans (E5.trans E6))
 simp only [zJ,tb3,o3,v3,c3,zF,jU,getElem?_cons_zero,getElem?_cons_succ,k0,decide_false,Bool.false_eq_true,if_false,qy];rw [q3];refine QN λnx4 q4=>?_;by_cases k1:way=1
 ·subst k1;simp only [zJ,tb3,o3,v3,length_cons,length_nil,Nat.zero_add,Nat.reduceAdd,Nat.reduceLT,getElem?_pos,getElem_cons_succ,getElem_cons_zero,c3,zF,jU,decide_true,Bool.false_eq_true,↓reduceIte,qH,WD,qc,cb3,Nat.zero_lt_succ,qi,zw,set_cons_succ,set_cons_zero,gn3,VO,sizeLine_eq,Nat.reduceLeDiff,j5,ne_eq,qV,ju,jE,true_and,getL,gu,ixR];refine zE L4 (by omega) (by omega) (by omega) λhi G5 h1 h2 L5 E5=>?_
  try simp
  refine zE L5 (by omega) (by omega) (by omega) λlo G6 l1 l2 L6 E6=>?_;simp only [lc3,ZI,qc,cb3,v3,length_cons,length_nil,Nat.zero_add,Nat.reduceAdd,Nat.zero_lt_succ,getElem?_pos,getElem_cons_zero,c3,qi,Int.reducePow,Int.reduceNeg,cap,map_cons,Nat.reduceLT,getElem_cons_succ,Option.join_some,List.map_nil];refine zE L6 (by omega) (by omega) (by omega) λk G7 k1 k2 L7 E7=>?_;refine ⟨⟨by omega,by omega⟩,RZ (many:=16) (λx0 G3 Q hq=>by simpa [cb3,qc,v3,c3,qi] using hq) L7 (by omega) (by omega) (by rw [YO];omega) (by omega) λds G8 p e1 e2 L8 E8 hp=>?_⟩;rw [YO] at e1 L8;obtain ⟨H,rfl⟩:=Int.eq_ofNat_of_zero_le h1;obtain ⟨W,rfl⟩:=Int.eq_ofNat_of_zero_le l1;have hpa:=L8.ne hp
  try simp
  intro p2 hp2;have pp:p≠p2:=by rintro rfl;rw [qL] at hp2;cases hp2
  have e3:((H:Int)+(W:Int))=((H+W:Nat):Int):=by omega
  have w1:=S7 (H+W);have hG:∀ B,getL (gu (gu G8 p (.lst (ds.map T.int))) p2 B) p=some (ds.map T.int):=λB=>by simp only [getL,ZW pp,qL]
  rw [e3,qcA (d:=H+W) (by omega)];simp only [UB,v3,getElem?_cons_zero,getElem?_cons_succ,hG];refine LQ (by omega) (by omega) (hG _) λp3 hp3=>?_;simp only [qL];have bl:(Dl.bits H W (ds.map (·%2 ^ (H+W)))).Ok:=⟨by omega,by omega,by simp;omega,λm hm=>by
   rw [mem_map] at hm;obtain ⟨x,_,rfl⟩:=hm;exact ⟨Int.emod_nonneg _ (by omega),Int.emod_lt_of_pos _ (by omega)⟩⟩
  have q1:=RV (n:=H) (k:=2) (by omega);have q2:=RV (n:=W) (k:=2) (by omega);have q3:=RV (n:=ds.length) (k:=2) (by omega);exact h (.bits H W _) _ ⟨bl,by show (2:Int) ^ H<=4;omega,by show (2:Int) ^ W<=4;omega,by simp [Dl.B];omega⟩ rfl ((((L8.new hpa).new ((L8.new hpa).ne hp2)).new (((L8.new hpa).new ((L8.new hpa).ne hp2)).ne hp3)).mono (by omega)) (EE.trans (((E5.trans E6).trans (E7.trans E8)).trans (((jQ hp).trans (jQ hp2)).trans (jQ hp3))))
 simp only [zJ,tb3,o3,v3,c3,zF,jU,getElem?_cons_zero,getElem?_cons_succ,k1,decide_false,Bool.false_eq_true,if_false,qy];rw [q4];refine QN λnx5 q5=>?_;by_cases k2:way=2
 ·subst k2;simp only [zJ,tb3,o3,v3,length_cons,length_nil,Nat.zero_add,Nat.reduceAdd,Nat.reduceLT,getElem?_pos,getElem_cons_succ,getElem_cons_zero,c3,zF,jU,decide_true,Bool.false_eq_true,↓reduceIte,qH,zw,u3,XZ,iC,cb3,qc,Nat.zero_lt_succ,qi,j5,ne_eq,sizeLine_eq,gn3,set_cons_succ,set_cons_zero];refine ⟨cm (by omega) (by omega),⟨by omega,by omega⟩,zE L4 (by omega) (by omega) (by omega) λe G5 e1 e2 L5 E5=>?_⟩;obtain ⟨u1,u2,u3⟩:=qdT (show 1<=1+r by omega) (show 1<=1+c by omega) (show 1<=1+b by omega);have rc:(1+r)*(1+c)<=4*4:=Int.mul_le_mul (by omega) (by omega) (by omega) (by omega);simp only [LK,ZI,qc,c3,qi,Int.reducePow,Int.reduceNeg,Int.neg_ofNat_le_ofNat,Int.reduceLT,and_self,Int.reduceToNat,true_and];obtain ⟨p0,hp0⟩:∃ p0,p0=-(-(1+r)*(1+c)/(1+b))+e:=⟨_,rfl⟩
  refine W9 _ (λi τ G'=>G'=G5/\∃ (pl:Int) (x:Option T),τ=[some (.ref a),some (.int (1+r)),some (.int (1+c)),some (.int (1+b)),some (.int 2),none,none,none,none,some (.int pl),x,none]/\Plc (1+b) p0 pl i) ⟨rfl,_,none,by rw [← hp0],⟨by omega,by omega,.inr ⟨by omega,by omega⟩⟩⟩ (λ_ _ _ _ _=>True.intro) ?_ ?_
  ·rintro i x τ G' nx hx ⟨rfl,pl,y,rfl,P⟩ hn;simp only [gn3,zJ,tb3,o3,cb3,qc,v3,set_cons_succ,set_cons_zero,length_cons,length_nil,Nat.zero_add,Nat.reduceAdd,Nat.reduceLT,getElem?_pos,getElem_cons_succ,getElem_cons_zero,qi,c3,iB,decide_eq_true_eq,zw,j5,qy];refine ⟨1+b,pl,rfl,by omega,by have:=P.lo;omega,?_⟩;simp;split
   ·exact hn _ _ ⟨rfl,_,_,rfl,P.next (by omega) (by omega) (by omega)⟩
   ·exact hn _ _ ⟨rfl,_,_,rfl,P.stay (by omega) (by omega) (by omega)⟩
  ·rintro τ G' ⟨rfl,pl,x,rfl,P⟩;simp only [qV,ju,qc,c3,v3,length_cons,length_nil,Nat.zero_add,Nat.reduceAdd,Nat.reduceLT,getElem?_pos,getElem_cons_succ,getElem_cons_zero,qi,sizeLine_eq,Nat.reduceLeDiff,true_and];rw [YO] at P;have lo:=P.lo;have hi:=P.hi;have m1:(1+b)*-(-(1+r)*(1+c)/(1+b))<=(1+b)*pl:=Int.mul_le_mul_of_nonneg_left (by omega) (by omega);exact h (.rests (1+r) (1+c) (1+b) pl) G' ⟨⟨by omega,by omega,by omega,by omega,by omega,by omega,by omega,by omega,P.done (by omega) (by omega),by omega⟩,by show 1+r<=4;omega,by show 1+c<=4;omega,by show 1+b<=5;omega⟩ rfl (L5.mono (by omega)) (EE.trans E5)
 ·simp only [zJ,tb3,o3,v3,c3,zF,jU,getElem?_cons_zero,getElem?_cons_succ,k2,decide_false,Bool.false_eq_true,if_false,qy];rw [q5];simp only [qH,zw,lc3,ZI,qc,v3,length_cons,length_nil,Nat.zero_add,Nat.reduceAdd,Nat.reduceLT,getElem?_pos,getElem_cons_succ,getElem_cons_zero,qi,Int.reducePow,Int.reduceNeg,gn3,qV,ju,c3,set_cons_succ,set_cons_zero,cb3,Nat.lt_add_one,jE,sizeLine_eq,Nat.reduceLeDiff,true_and,getL,cap,map_cons,Nat.zero_lt_succ,Option.join_some,List.map_nil];refine ⟨⟨by omega,by omega⟩,MC L4 (by omega) (by omega) (by omega) (by omega) (by omega) (by omega) (by omega) λcells G5 p C L5 E5 hp=>?_⟩;obtain ⟨ok,eR,eC⟩:=C.ok (by omega) (by omega) (by omega) (by omega) (by omega) (by omega);simp only [qL];exact h (.table (1+b) cells) _ ⟨ok,by omega,by omega,by show 1+b<=5;omega⟩ rfl ((L5.new (L5.ne hp)).mono (by omega)) (EE.trans (E5.trans (jQ hp)))
def D0:Sp3:=λts G q=>∃ a n,ts=[.ref a]/\Lf G a n/\n<10000000/\∀ (b:Int) cells r c G',Cells cells r c b->Dr (.table b cells) 16 16 32->(Dl.table b cells).R=r->(Dl.table b cells).C=c->Lf G' a (n+300)->Ext a G G'->q (Dl.table b cells).t G'
def SO:∀ ts G q,D0 ts G q->ts.length=1/\YH JM qA (NW q) (qt ["_law_left_here","_law_rows","_law_columns","_law_banks","_law_cells"] ts) G:=by
 rintro ts G q ⟨a,n,rfl,hL,hn,h⟩;refine ⟨rfl,?_⟩;simp only [YH,qH,zw,cb3,qc,v3,qt,map_cons,List.map_nil,length_cons,length_nil,Nat.zero_add,Nat.reduceAdd,Nat.add_one_sub_one,List.reduceReplicate,cons_append,List.nil_append,Nat.zero_lt_succ,getElem?_pos,getElem_cons_zero,qi,QK,qC,gn3,QI,o3,c3,set_cons_succ,set_cons_zero,VO,sizeLine_eq,Nat.reduceLeDiff,j5,ne_eq,qV,ju,Nat.reduceLT,getElem_cons_succ,Nat.lt_add_one,jE,true_and,getL];refine ⟨a,n,rfl,hL,by omega,λr c G1 r1 r2 c1 c2 L1 E1=>?_⟩;simp;intro p hp;have hpa:=L1.ne hp;refine zE (L1.new hpa) (by omega) (by omega) (by omega) λd G2 d1 d2 L2' E2=>?_;have g2:=E2 p _ hpa qL;obtain ⟨w,hw,w',rfl,w1,w2⟩:=qmh d1 d2 (P:=λt=>∃ w,t=T.int w/\1<=w/\w<=32) ⟨4,rfl,by omega,by omega⟩ ⟨9,rfl,by omega,by omega⟩ ⟨32,rfl,by omega,by omega⟩;simp only [ixR,getL,g2,hw];refine zE L2' w1 (by omega) (by omega) λb G3 b1 b2 L3' E3=>?_;simp only [lc3,ZI,qc,v3,length_cons,length_nil,Nat.zero_add,Nat.reduceAdd,Nat.reduceLT,getElem?_pos,getElem_cons_succ,getElem_cons_zero,qi,Int.reducePow,Int.reduceNeg,cap,map_cons,Nat.zero_lt_succ,Option.join_some,List.map_nil];refine ⟨⟨by omega,by omega⟩,MC L3' (by omega) (by omega) (by omega) (by omega) (by omega) (by omega) (by omega) λcells G5 p C L5 E5 hp5=>?_⟩;obtain ⟨ok,eR,eC⟩:=C.ok (by omega) (by omega) (by omega) (by omega) (by omega) (by omega);simp only [qL];exact h (1+b) cells r c _ C ⟨ok,by omega,by omega,by show 1+b<=32;omega⟩ eR eC ((L5.new (L5.ne hp5)).mono (by omega)) (E1.trans (((jQ hp).trans E2).trans (E3.trans (E5.trans (jQ hp5)))))
def KH {a b x y:Int} (h0:1<=a) (h1:a<=x) (h2:1<=b) (h3:b<=y):a*b<=x*y:=Int.mul_le_mul h1 h3 (by omega) (by omega)
def Dr.join {d e:Dl} {r c b r' c' b':Int} (D:Dr d r c b) (E:Dr e r' c' b') (h1:r*r'<=4096) (h2:c*c'<=4096) (h3:b*b'<=4096):Dr (.joined d e) (r*r') (c*c') (b*b'):=by
 have Ld:=Dl.lims D.ok;have Le:=Dl.lims E.ok;have a1:=KH Ld.r1 D.r2 Le.r1 E.r2;have a2:=KH Ld.c1 D.c2 Le.c1 E.c2;have a3:=KH Ld.b1 D.b2 Le.b1 E.b2;exact ⟨⟨D.ok,E.ok,by omega,by omega,by omega⟩,a1,a2,a3⟩
def Dr.mono {d:Dl} {r c b r' c' b':Int} (D:Dr d r c b) (h1:r<=r') (h2:c<=c') (h3:b<=b'):Dr d r' c' b':=⟨D.ok,by have:=D.r2;omega,by have:=D.c2;omega,by have:=D.b2;omega⟩
def QS:Sp3:=λts G q=>∃ a n,ts=[.ref a]/\Lf G a n/\n<1000000/\∀ (d:Dl) G',Dr d 16 16 32->d.dep<=2->Lf G' a (n+1000)->Ext a G G'->q d.t G'
def qcF {x:Int} (h0:0<=x) (h1:x<2):Dr (.joined (.skew (1+x) 1 2 1 1) (.table 2 [[1,0]])) 2 2 4:=by
 have a:Dr (.skew (1+x) 1 2 1 1) 2 1 2:=⟨⟨by omega,by omega,by omega,by omega,by omega,by omega,by omega,by omega,by omega,by omega⟩,by show 1+x<=2;omega,Int.le_refl 1,Int.le_refl 2⟩
 have b:Dr (.table 2 [[1,0]]) 1 2 2:=⟨⟨by decide,by decide,by decide,by decide,2,by decide,by decide,by simp⟩,by decide,by decide,by decide⟩
 exact (a.join b (by decide) (by decide) (by decide)).mono (by decide) (by decide) (by decide)
def qoT:Dr (.joined (.skew 8 1 3 1 1) (.rests 2 16 5 7)) 16 16 15:=by
 have a:Dr (.skew 8 1 3 1 1) 8 1 3:=⟨⟨by decide,by decide,by decide,by decide,by decide,by decide,by decide,by decide,by decide,by decide⟩,by decide,by decide,by decide⟩
 have b:Dr (.rests 2 16 5 7) 2 16 5:=⟨⟨by decide,by decide,by decide,by decide,by decide,by decide,by decide,by decide,by decide,by decide⟩,by decide,by decide,by decide⟩
 exact (a.join b (by decide) (by decide) (by decide)).mono (by decide) (by decide) (by decide)
def qoK:Dr (.joined (.rests 1 8 3 4) (.skew 16 2 5 2 1)) 16 16 15:=by
 have a:Dr (.rests 1 8 3 4) 1 8 3:=⟨⟨by decide,by decide,by decide,by decide,by decide,by decide,by decide,by decide,by decide,by decide⟩,by decide,by decide,by decide⟩
 have b:Dr (.skew 16 2 5 2 1) 16 2 5:=⟨⟨by decide,by decide,by decide,by decide,by decide,by decide,by decide,by decide,by decide,by decide⟩,by decide,by decide,by decide⟩
 exact (a.join b (by decide) (by decide) (by decide)).mono (by decide) (by decide) (by decide)
def CL:∀ ts G q,QS ts G q->ts.length=1/\ZU qA XV D4 XR D0 D5 (NW q) (qt ["_law_left_here","_law_way","_law_inner","_law_some"] ts) G:=by
 rintro ts G q ⟨a,n,rfl,hL,hn,h⟩;refine ⟨rfl,?_⟩;unfold ZU;refine QN λnx1 q1=>?_;simp only [zw,cb3,qc,v3,qt,map_cons,List.map_nil,length_cons,length_nil,Nat.zero_add,Nat.reduceAdd,Nat.add_one_sub_one,List.reduceReplicate,cons_append,List.nil_append,Nat.zero_lt_succ,getElem?_pos,getElem_cons_zero,c3,qi,gn3,set_cons_succ,set_cons_zero];refine zE hL (by omega) (by omega) (by omega) λw G1 w1 w2 L1 E1=>?_
 try simp
 rw [q1];clear q1;refine QN λnx2 q2=>?_;by_cases k0:w<2
 ·simp only [zJ,tb3,o3,v3,length_cons,length_nil,Nat.zero_add,Nat.reduceAdd,Nat.reduceLT,getElem?_pos,getElem_cons_succ,getElem_cons_zero,c3,iB,k0,decide_true,↓reduceIte,qV,cb3,qc,Nat.zero_lt_succ,qi];exact ⟨a,n+1,rfl,L1,by omega,λr c b x y G2 D L2' E2=>h _ G2 D (Nat.zero_le _) (L2'.mono (by omega)) (E1.trans E2)⟩
 simp only [zJ,tb3,o3,v3,c3,iB,getElem?_cons_zero,getElem?_cons_succ,k0,decide_false,Bool.false_eq_true,if_false,qy];rw [q2];clear q2;refine QN λnx3 q3=>?_;by_cases k1:w=2
 ·subst k1;simp only [zJ,tb3,o3,v3,length_cons,length_nil,Nat.zero_add,Nat.reduceAdd,Nat.reduceLT,getElem?_pos,getElem_cons_succ,getElem_cons_zero,c3,zF,jU,decide_true,Bool.false_eq_true,↓reduceIte,qV,cb3,qc,Nat.zero_lt_succ,qi];exact ⟨a,n+1,rfl,L1,by omega,λr c b p G2 D L2' E2=>h _ G2 D (Nat.zero_le _) (L2'.mono (by omega)) (E1.trans E2)⟩
 simp only [zJ,tb3,o3,v3,c3,zF,jU,getElem?_cons_zero,getElem?_cons_succ,k1,decide_false,Bool.false_eq_true,if_false,qy];rw [q3];clear q3;refine QN λnx4 q4=>?_;by_cases k2:w=3
 ·subst k2;simp only [zJ,tb3,o3,v3,length_cons,length_nil,Nat.zero_add,Nat.reduceAdd,Nat.reduceLT,getElem?_pos,getElem_cons_succ,getElem_cons_zero,c3,zF,jU,decide_true,Bool.false_eq_true,↓reduceIte,qV,cb3,qc,Nat.zero_lt_succ,qi];refine ⟨a,n+1,4,rfl,L1,by omega,by omega,by omega,λhh l ms G2 h1 h2 ok L2' E2=>h _ G2 ⟨ok,?_,?_,?_⟩ (Nat.zero_le _) (L2'.mono (by omega)) (E1.trans E2)⟩
  ·have:=RV (n:=hh) (k:=4) (by omega);show (2:Int) ^ hh<=16;omega
  ·have:=RV (n:=l) (k:=4) (by omega);show (2:Int) ^ l<=16;omega
  ·have:=RV ok.2.2.1;show (2:Int) ^ ms.length<=32;omega
 simp only [zJ,tb3,o3,v3,c3,zF,jU,getElem?_cons_zero,getElem?_cons_succ,k2,decide_false,Bool.false_eq_true,if_false,qy];rw [q4];clear q4;refine QN λnx5 q5=>?_;by_cases k3:w=4
 ·subst k3;simp only [zJ,tb3,o3,v3,length_cons,length_nil,Nat.zero_add,Nat.reduceAdd,Nat.reduceLT,getElem?_pos,getElem_cons_succ,getElem_cons_zero,c3,zF,jU,decide_true,Bool.false_eq_true,↓reduceIte,qV,cb3,qc,Nat.zero_lt_succ,qi];exact ⟨a,n+1,rfl,L1,by omega,λb cells r c G2 C D eR eC L2' E2=>h _ G2 D (Nat.zero_le _) (L2'.mono (by omega)) (E1.trans E2)⟩
 simp only [zJ,tb3,o3,v3,c3,zF,jU,getElem?_cons_zero,getElem?_cons_succ,k3,decide_false,Bool.false_eq_true,if_false,qy];rw [q5];clear q5;refine QN λnx6 q6=>?_;by_cases k4:w=5
 ·subst k4;simp only [zJ,tb3,o3,v3,length_cons,length_nil,Nat.zero_add,Nat.reduceAdd,Nat.reduceLT,getElem?_pos,getElem_cons_succ,getElem_cons_zero,c3,zF,jU,decide_true,Bool.false_eq_true,↓reduceIte,qH,zw,ju,qc,cb3,Nat.zero_lt_succ,qi,j5,ne_eq,sizeLine_eq,Nat.reduceLeDiff,gn3,VO,set_cons_succ,set_cons_zero,CD,bm3,Nat.lt_add_one,getL,gu,Option.isSome_some,NT,cons_append,List.nil_append,qV,true_and];refine zE L1 (by omega) (by omega) (by omega) λx G2 x1 x2 L2' E2=>?_;have I:=qcF x1 x2
  try simp
  refine ⟨a,n+1+1,rfl,L2',by omega,λd G3 Dd dd L3' E3=>?_⟩
  try simp
  refine ⟨a,n+1+1+300,rfl,L3',by omega,λe G4 De de L4 E4=>?_⟩
  try simp
  intro p hp;have hpa:=L4.ne hp;refine zE (((L4.new hpa).new hpa).new hpa) (by omega) (by omega) (by omega) λk G5 k1 k2 L5 E5=>?_;have g5:=E5 p _ hpa qL;have EE:Ext a G G5:=(E1.trans E2).trans ((E3.trans E4).trans (Ext.trans (λb o hb e=>by
   have hbp:b≠p:=by rintro rfl;rw [hp] at e;cases e
   rw [ZW hbp,ZW hbp,ZW hbp];exact e) E5))
  have P1:∃ d':Dl,(Dl.joined (.joined (.skew (1+x) 1 2 1 1) (.table 2 [[1,0]])) d).t=d'.t/\Dr d' 16 16 32/\d'.dep<=2:=⟨_,rfl,(I.join Dd (by decide) (by decide) (by decide)).mono (by decide) (by decide) (by decide),by simp [Dl.dep,dd]⟩
  have P2:∃ d':Dl,(Dl.joined e (.joined (.skew (1+x) 1 2 1 1) (.table 2 [[1,0]]))).t=d'.t/\Dr d' 16 16 32/\d'.dep<=2:=⟨_,rfl,(De.join I (by decide) (by decide) (by decide)).mono (by decide) (by decide) (by decide),by simp [Dl.dep,de]⟩
  have P3:∃ d':Dl,(Dl.joined (.skew 8 1 3 1 1) (.rests 2 16 5 7)).t=d'.t/\Dr d' 16 16 32/\d'.dep<=2:=⟨_,rfl,qoT.mono (by decide) (by decide) (by decide),by simp [Dl.dep]⟩
  have P4:∃ d':Dl,(Dl.joined (.rests 1 8 3 4) (.skew 16 2 5 2 1)).t=d'.t/\Dr d' 16 16 32/\d'.dep<=2:=⟨_,rfl,qoK.mono (by decide) (by decide) (by decide),by simp [Dl.dep]⟩
  obtain ⟨t,ht,d',rfl,D',dl⟩:=qlF k1 k2 (P:=λt=>∃ d':Dl,t=d'.t/\Dr d' 16 16 32/\d'.dep<=2) P1 P2 P3 P4;have hg:getL G5 p=some [(Dl.joined (.joined (.skew (1+x) 1 2 1 1) (.table 2 [[1,0]])) d).t,(Dl.joined e (.joined (.skew (1+x) 1 2 1 1) (.table 2 [[1,0]]))).t,(Dl.joined (.skew 8 1 3 1 1) (.rests 2 16 5 7)).t,(Dl.joined (.rests 1 8 3 4) (.skew 16 2 5 2 1)).t]:=by
   unfold getL;rw [g5];rfl
  rw [L3.ixR,hg];simp only [ht];exact h d' G5 D' dl (L5.mono (by omega)) EE
 ·simp only [zJ,tb3,o3,v3,c3,zF,jU,getElem?_cons_zero,getElem?_cons_succ,k4,decide_false,Bool.false_eq_true,if_false,qy];rw [q6];simp only [qV,ju,qc,c3,cb3,v3,length_cons,length_nil,Nat.zero_add,Nat.reduceAdd,Nat.zero_lt_succ,getElem?_pos,getElem_cons_zero,qi,sizeLine_eq,Nat.reduceLeDiff,true_and];refine ⟨a,n+1,rfl,L1,by omega,λd G3 Dd dd L3' E3=>?_⟩;refine ⟨a,n+1+300,rfl,L3',by omega,λe G4 De de L4 E4=>?_⟩
  try simp
  exact h (.joined d e) G4 ((Dd.join De (by decide) (by decide) (by decide)).mono (by decide) (by decide) (by decide)) (by simp [Dl.dep];omega) (L4.mono (by omega)) (E1.trans (E3.trans E4))
structure SD (k n:Nat) (d:PyData):Prop where
 sh:d.showable=true
 nd:d.hasDict=false
 dp:d.depth<=k
 lv:d.leavesShort 13=true
 bk:d.bulk<=n
def SD.ok {k n:Nat} {d:PyData} (h:SD k n d) (hk:k<=40) (hn:n<=2 ^ 20):ShOk d:=⟨h.sh,h.nd,Nat.le_trans h.dp hk,h.lv,Nat.le_trans h.bk hn⟩
def SD.w {k n:Nat} {d:PyData} (h:SD k n d) (hk:k<=40) (hn:n<=2 ^ 20):ShW d:=(h.ok hk hn).w
def SD.mono {k n k' n':Nat} {d:PyData} (h:SD k n d) (hk:k<=k') (hn:n<=n'):SD k' n' d:=⟨h.sh,h.nd,Nat.le_trans h.dp hk,h.lv,Nat.le_trans h.bk hn⟩
def qbd (k n:Nat):SD k n .none:=⟨rfl,rfl,Nat.zero_le _,rfl,Nat.zero_le _⟩
def qa4 (k n:Nat) (b:Bool):SD k n (.bool b):=⟨rfl,rfl,Nat.zero_le _,rfl,Nat.zero_le _⟩
def ZK (k n:Nat) {i:Int} (h:-1000000<=i/\i<=1000000):SD k n (.int i):=by
 refine ⟨?_,rfl,Nat.zero_le _,?_,Nat.zero_le _⟩
 ·simp only [PyData.showable];have:i.natAbs<2 ^ 20:=by omega
  have h2:i.natAbs.log2<20\/i.natAbs=0:=by
   rcases Nat.eq_zero_or_pos i.natAbs with z|z
   ·exact .inr z
   ·exact .inl ((Nat.log2_lt (by omega)).mpr this)
  rcases h2 with h2|h2
  ·simp;omega
  ·simp [h2]
 ·have:=PyProof.Rows.intsShortAll_ints2 [i] (by intro n hn;simp at hn;subst hn;omega);simpa [PyData.intsShortAll,PyData.intsShort,PyData.leavesShort] using this
def EU (k n:Nat) {x:Str} (h:x.cps.size<=n) (hc:(x.cps.toList.all λc=>decide (c<16 ^ 8))=true):SD k n (.str x):=⟨rfl,rfl,Nat.zero_le _,hc,h⟩
structure SDs (k n:Nat) (ds:List PyData):Prop where
 sh:PyData.showableAll ds=true
 nd:PyData.hasDictAll ds=false
 dp:PyData.depthAll ds<=k
 lv:PyData.leavesShortAll 13 ds=true
 bk:PyData.bulkAll ds<=n
def UW (k n:Nat):SDs k n []:=⟨rfl,rfl,Nat.zero_le _,rfl,Nat.zero_le _⟩
def qY {k n m s:Nat} {d:PyData} {ds:List PyData} (h:SD k n d) (t:SDs k m ds) (hs:n+1+m<=s):SDs k s (d::ds):=by
 refine ⟨?_,?_,?_,?_,?_⟩
 ·simp [PyData.showableAll,h.sh,t.sh]
 ·simp [PyData.hasDictAll,h.nd,t.nd]
 ·simp only [PyData.depthAll];exact Nat.max_le.mpr ⟨h.dp,t.dp⟩
 ·simp [PyData.leavesShortAll,h.lv,t.lv]
 ·simp only [PyData.bulkAll];have:=h.bk;have:=t.bk;omega
def j6 {k n:Nat} {ds:List PyData} (t:SDs k n ds):SD (k+1) n (.tuple ds):=by
 refine ⟨?_,?_,?_,?_,?_⟩
 ·simpa [PyData.showable] using t.sh
 ·simpa [PyData.hasDict] using t.nd
 ·simp only [PyData.depth];have:=t.dp;omega
 ·simpa [PyData.leavesShort] using t.lv
 ·simp only [PyData.bulk];exact t.bk
def KK {k n:Nat} {ds:List PyData} (t:SDs k n ds):SD (k+1) n (.list ds):=by
 refine ⟨?_,?_,?_,?_,?_⟩
 ·simpa [PyData.showable] using t.sh
 ·simpa [PyData.hasDict] using t.nd
 ·simp only [PyData.depth];have:=t.dp;omega
 ·simpa [PyData.leavesShort] using t.lv
 ·simp only [PyData.bulk];exact t.bk
def DJ {k n:Nat}:∀ {ds:List PyData},(∀ d∈ds,SD k n d)->SDs k (ds.length*(n+1)) ds
 |[],_=>UW _ _
 |d::ds,h=>qY (h d (by simp)) (DJ λx hx=>h x (by simp [hx])) (by rw [length_cons,Nat.succ_mul];omega)
def RT {k:Nat} {ns:List Int} (h:∀ n∈ns,-1000000<=n/\n<=1000000):SDs k ns.length (ns.map PyData.int):=by
 have:=DJ (k:=k) (n:=0) (ds:=ns.map PyData.int) (by intro d hd;obtain ⟨i,hi,rfl⟩:=mem_map.mp hd;exact ZK _ _ (h i hi));simpa using this
def _root_.L3.Dps.append {G:Gp}:∀ {xs ys:List T} {ds es:List PyData},Dps G xs ds->Dps G ys es->Dps G (xs++ys) (ds++es)
 |_,_,_,_,.nil,b=>b
 |_,_,_,_,.cons a t,b=>.cons a (L3.Dps.append t b)
def _root_.L3.Dps.take {G:Gp}:∀ {xs:List T} {ds:List PyData} (i:Nat),Dps G xs ds->Dps G (xs.take i) (ds.take i)
 |_,_,0,_=>.nil
 |_,_,_+1,.nil=>.nil
 |_,_,i+1,.cons a t=>.cons a (L3.Dps.take i t)
def _root_.L3.Dps.drop {G:Gp}:∀ {xs:List T} {ds:List PyData} (i:Nat),Dps G xs ds->Dps G (xs.drop i) (ds.drop i)
 |_,_,0,h=>h
 |_,_,_+1,.nil=>.nil
 |_,_,i+1,.cons a t=>L3.Dps.drop i t
def al (cs:List (Int×Int)):List Int:=cs.map (·.2)
end Bk
namespace Pu
open PySem L2 L3
def cif {α:Type} (P:Prop) (a b:α):α:=@ite α P (Classical.propDecidable P) a b
def zn {α:Type} {P:Prop} {a b:α} (h:P):cif P a b=a:=@if_pos P (Classical.propDecidable P) h α a b
def jV {α:Type} {P:Prop} {a b:α} (h:¬ P):cif P a b=b:=@if_neg P (Classical.propDecidable P) h α a b
structure Tru (b:Bool):Prop where
 h:b=true
mutual
inductive Dq (G:Gp):T->PyData->Prop
 |non:Dq G .non .none
 |bl (b:Bool):Dq G (.bl b) (.bool b)
 |int (i:Int):Dq G (.int i) (.int i)
 |str (x:Str):Dq G (.str x) (.str x)
 |tup {xs:List T} {ds:List PyData}:Dqs G xs ds->Dq G (.tup xs) (.tuple ds)
 |lst {p:Addr} {xs:List T} {ds:List PyData}:G p=some (.lst xs)->Dqs G xs ds->Dq G (.ref p) (.list ds)
inductive Dqs (G:Gp):List T->List PyData->Prop
 |nil:Dqs G [] []
 |cons {x:T} {d:PyData} {xs:List T} {ds:List PyData}:Dq G x d->Dqs G xs ds->Dqs G (x::xs) (d::ds)
end
mutual
def Dq.up {G G':Gp} (e:Ex G G'):∀ {x:T} {d:PyData},Dq G x d->Dq G' x d
 |_,_,.non=>.non
 |_,_,.bl b=>.bl b
 |_,_,.int i=>.int i
 |_,_,.str x=>.str x
 |_,_,.tup h=>.tup (Dqs.up e h)
 |_,_,.lst h1 h2=>.lst (e _ _ h1) (Dqs.up e h2)
def Dqs.up {G G':Gp} (e:Ex G G'):∀ {x:List T} {d:List PyData},Dqs G x d->Dqs G' x d
 |_,_,.nil=>.nil
 |_,_,.cons a b=>.cons (Dq.up e a) (Dqs.up e b)
end
def QE {G:Gp} {p:Addr} {xs:List T} (h:G p=some (.lst xs)):getL G p=some xs:=by unfold getL;rw [h]
mutual
def Dq.dp {G:Gp}:∀ {x:T} {d:PyData},Dq G x d->Dp G x d
 |_,_,.non=>.non
 |_,_,.bl b=>.bl b
 |_,_,.int i=>.int i
 |_,_,.str x=>.str x
 |_,_,.tup h=>.tup (Dqs.dp h)
 |_,_,.lst h1 h2=>.lst (QE h1) (Dqs.dp h2)
def Dqs.dp {G:Gp}:∀ {x:List T} {d:List PyData},Dqs G x d->Dps G x d
 |_,_,.nil=>.nil
 |_,_,.cons a b=>.cons (Dq.dp a) (Dqs.dp b)
end
def Dqs.length {G:Gp}:∀ {xs:List T} {ds:List PyData},Dqs G xs ds->xs.length=ds.length
 |_,_,.nil=>rfl
 |_,_,.cons _ b=>by simp [Dqs.length b]
def Dqs.get {G:Gp}:∀ {xs:List T} {ds:List PyData} {i:Nat} {d:PyData},Dqs G xs ds->ds[i]?=some d->∃ x,xs[i]?=some x/\Dq G x d
 |_,_,_,_,.nil,e=>by simp at e
 |_,_,0,_,.cons r _,e=>by simp at e;subst e;exact ⟨_,rfl,r⟩
 |_,_,i+1,d,.cons _ t,e=>by
  obtain ⟨u,h1,h2⟩:=Dqs.get (i:=i) (d:=d) t (by simpa using e);exact ⟨u,by simpa using h1,h2⟩
def Dqs.append {G:Gp}:∀ {xs:List T} {ds:List PyData} {ys:List T} {es:List PyData},Dqs G xs ds->Dqs G ys es->Dqs G (xs++ys) (ds++es)
 |_,_,_,_,.nil,h=>h
 |_,_,_,_,.cons a b,h=>.cons a (Dqs.append b h)
def Dqs.drop {G:Gp}:∀ {xs:List T} {ds:List PyData} (n:Nat),Dqs G xs ds->Dqs G (xs.drop n) (ds.drop n)
 |_,_,0,h=>h
 |_,_,_+1,.nil=>.nil
 |_,_,n+1,.cons _ b=>Dqs.drop n b
def Dqs.take {G:Gp}:∀ {xs:List T} {ds:List PyData} (n:Nat),Dqs G xs ds->Dqs G (xs.take n) (ds.take n)
 |_,_,0,h=>by simp;exact .nil
 |_,_,_+1,.nil=>.nil
 |_,_,n+1,.cons a b=>.cons a (Dqs.take n b)
def Dqs.rev {G:Gp}:∀ {xs:List T} {ds:List PyData},Dqs G xs ds->Dqs G xs.reverse ds.reverse
 |_,_,.nil=>.nil
 |_,_,.cons a b=>by simp only [List.reverse_cons];exact (Dqs.rev b).append (.cons a .nil)
def Dqs.ints {G:Gp}:∀ {ns:List Int} {xs:List T},Dqs G xs (ns.map PyData.int)->xs=ns.map T.int
 |[],_,.nil=>rfl
 |n::ns,_,.cons a b=>by cases a;rw [Dqs.ints b];rfl
def Dqs.ofInts {G:Gp}:∀ (ns:List Int),Dqs G (ns.map T.int) (ns.map PyData.int)
 |[]=>.nil
 |n::r=>.cons (.int n) (Dqs.ofInts r)
def rs (D:Addr->Prop) (G:Gp):Gp:=λb=>cif (D b) none (G b)
def zd {D:Addr->Prop} {G:Gp} {b:Addr} {o:O} (h:rs D G b=some o):¬ D b/\G b=some o:=by
 unfold rs cif at h;split at h
 ·cases h
 ·rename_i n;exact ⟨n,h⟩
def YA {D:Addr->Prop} {G:Gp} {b:Addr} (n:¬ D b):rs D G b=G b:=by unfold rs;exact jV n
def DA {D:Addr->Prop} {G:Gp}:Ex (rs D G) G:=λb o h=>(zd h).2
def VJ {D:Addr->Prop} {G G':Gp} (e:Ex G G'):Ex (rs D G) (rs D G'):=λb o h=>by
 obtain ⟨n,h⟩:=zd h;rw [YA n];exact e _ _ h
def JT {D D':Addr->Prop} {G:Gp} (h:∀ b,D' b->D b):Ex (rs D G) (rs D' G):=λb o e=>by
 obtain ⟨n,e⟩:=zd e;rw [YA λz=>n (h b z)];exact e
def Dom (D:Addr->Prop) (G:Gp):Prop:=∀ b,D b->G b≠none
def Dom.up {D:Addr->Prop} {G G':Gp} (h:Dom D G) (e:Ex G G'):Dom D G':=λb d z=>by
 cases g:G b with
 |none=>exact h b d g
 |some o=>rw [e _ _ g] at z;cases z
def qjF {D:Addr->Prop} {G:Gp} {p:Addr} {o:O} (hd:Dom D G) (hp:G p=none):rs D (gu G p o) p=some o:=by
 rw [YA λz=>hd p z hp,qL]
inductive Sl where
 |un|sh (d:PyData)|ow (ds:List PyData)
abbrev Rho:=List Sl
def Sl.d:Sl->Option PyData
 |.un=>none|.sh d=>some d|.ow ds=>some (.list ds)
def vw (ρ:Rho) (i:Nat):Option PyData:=(ρ[i]?).bind Sl.d
def CT (fv:List Nat) (D:Addr->Prop) (G:Gp) (τ:St3) (ρ:Rho):Prop:=∀ i∈fv,∀ d,vw ρ i=some d->∃ t,τ[i]?=some (some t)/\Dq (rs D G) t d
def CT.up {fv:List Nat} {D:Addr->Prop} {G G':Gp} {τ:St3} {ρ:Rho} (h:CT fv D G τ ρ) (e:Ex G G'):CT fv D G' τ ρ:=λi hi d hd=>
 let ⟨t,a,b⟩:=h i hi d hd;⟨t,a,b.up (VJ e)⟩
def CT.l {fv gv:List Nat} {D:Addr->Prop} {G:Gp} {τ:St3} {ρ:Rho} (h:CT (fv++gv) D G τ ρ):CT fv D G τ ρ:=λi hi=>h i (by simp [hi])
def CT.r {fv gv:List Nat} {D:Addr->Prop} {G:Gp} {τ:St3} {ρ:Rho} (h:CT (fv++gv) D G τ ρ):CT gv D G τ ρ:=λi hi=>h i (by simp [hi])
def Nw (D:Addr->Prop) (G G':Gp) (x:T) (d:PyData):Prop:=d=.none\/∃ p xs ds,x=.ref p/\d=.list ds/\G p=none/\G' p=some (.lst xs)/\Dqs (rs (λb=>D b\/b=p) G') xs ds
def Nw.back {D:Addr->Prop} {G0 G G':Gp} {x:T} {d:PyData} (h:Nw D G G' x d) (e:Ex G0 G):Nw D G0 G' x d:=by
 rcases h with h|⟨p,xs,ds,a,b,c,r⟩
 ·exact .inl h
 refine .inr ⟨p,xs,ds,a,b,?_,r⟩;cases z:G0 p with
 |none=>rfl
 |some o=>rw [e _ _ z] at c;cases c
structure PuE (t:TE3) where
 f:Rho->Option PyData
 fv:List Nat
 nw:Bool
 ok:∀ {D τ ρ G} {q:Q3} {d},CT fv D G τ ρ->Dom D G->f ρ=some d->(∀ x G',Ex G G'->Dq (rs D G') x d->(nw=true->Nw D G G' x d)->q x G')->t τ G q
structure PuC (t:TT3) where
 f:Rho->Option Bool
 fv:List Nat
 ok:∀ {D τ ρ G} {q:Bool->Gp->Prop} {k},CT fv D G τ ρ->Dom D G->f ρ=some k->(∀ G',Ex G G'->q k G')->t τ G q
structure PuA (t:TA3) where
 f:Rho->Option (List PyData)
 fv:List Nat
 n:Nat
 ln:∀ {ρ d},f ρ=some d->d.length=n
 ok:∀ {D τ ρ G} {q:List T->Gp->Prop} {d},CT fv D G τ ρ->Dom D G->f ρ=some d->(∀ x G',Ex G G'->Dqs (rs D G') x d->q x G')->t τ G q
structure PuO (t:TO3) where
 f:Rho->Option (Option Int)
 fv:List Nat
 ok:∀ {D τ ρ G} {q:Option Int->Gp->Prop} {k},CT fv D G τ ρ->Dom D G->f ρ=some k->(∀ G',Ex G G'->q k G')->t τ G q
structure PuI (t:TI3) where
 f:Rho->Option (List PyData)
 fv:List Nat
 /-- numbers alone -/
 nm:Bool
 ok:∀ {D τ ρ G} {r:List T->(Gp->Prop)->Gp->Prop} {ds},CT fv D G τ ρ->Dom D G->f ρ=some ds ->
  (∀ items stay G',Ex G G'->Dqs (rs D G') items ds->(∀ G'',(nm=true\/Ex (rs D G') G'')->stay G'')->(nm=true->∃ ns:List Int,ds=ns.map PyData.int)->r items stay G')->t τ G r
structure OpD (r:R3) where
 f:PyData->PyData->Option PyData
 nw:Bool
 ok:∀ {D G x y d e v} {q:Q3},Dq (rs D G) x d->Dq (rs D G) y e->Dom D G->f d e=some v->(∀ z G',Ex G G'->Dq (rs D G') z v->(nw=true->Nw D G G' z v)->q z G')->r x y G q
structure FnD (r:List T->Gp->Q3->Prop) where
 f:List PyData->Option PyData
 nw:Bool
 ok:∀ {D G xs ds v} {q:Q3},Dqs (rs D G) xs ds->Dom D G->f ds=some v->(∀ z G',Ex G G'->Dq (rs D G') z v->(nw=true->Nw D G G' z v)->q z G')->r xs G q
def bV (i:Nat):PuE (v3 i):=⟨λρ=>vw ρ i,[i],false,λhv hd hf k=>by
 obtain ⟨t,e,h⟩:=hv i (by simp) _ hf;unfold v3;rw [e];exact k t _ Ex.refl h (λz=>by cases z)⟩
def qw (i:Int):PuE (c3 (.int i)):=⟨λ_=>some (.int i),[],false,λhv hd hf k=>by cases hf;exact k _ _ Ex.refl (.int i) (λz=>by cases z)⟩
def bBl (i:Bool):PuE (c3 (.bl i)):=⟨λ_=>some (.bool i),[],false,λhv hd hf k=>by cases hf;exact k _ _ Ex.refl (.bl i) (λz=>by cases z)⟩
def U3 (i:Str):PuE (c3 (.str i)):=⟨λ_=>some (.str i),[],false,λhv hd hf k=>by cases hf;exact k _ _ Ex.refl (.str i) (λz=>by cases z)⟩
def qkq:PuE (c3 .non):=⟨λ_=>some .none,[],false,λhv hd hf k=>by cases hf;exact k _ _ Ex.refl .non (λz=>by cases z)⟩
def bO {r:R3} {ta tb:TE3} (R:OpD r) (a:PuE ta) (b:PuE tb):PuE (o3 r ta tb):=
 ⟨λρ=>(a.f ρ).bind λx=>(b.f ρ).bind λy=>R.f x y,a.fv++b.fv,R.nw,λhv hd hf k=>by
  obtain ⟨x,e1,hf⟩:=obb hf;obtain ⟨y,e2,hf⟩:=obb hf;exact a.ok hv.l hd e1 λx' G1 E1 D1 _=>b.ok (hv.r.up E1) (hd.up E1) e2 λy' G2 E2 D2 _=>R.ok (D1.up (VJ E2)) D2 ((hd.up E1).up E2) hf λz G3 E3 D3 N3=>k z G3 ((E1.trans E2).trans E3) D3 λh=>(N3 h).back (E1.trans E2)⟩
def qE:PuA qi:=⟨λ_=>some [],[],0,(λh=>by cases h;rfl),λhv hd hf k=>by cases hf;exact k _ _ Ex.refl .nil⟩
def qg {ta:TE3} {tr:TA3} (a:PuE ta) (r:PuA tr):PuA (qc ta tr):=
 ⟨λρ=>(a.f ρ).bind λx=>(r.f ρ).bind λxs=>some (x::xs),a.fv++r.fv,r.n+1,(λhf=>by
  obtain ⟨x,e1,hf⟩:=obb hf;obtain ⟨xs,e2,hf⟩:=obb hf;cases hf;simp [r.ln e2]),λhv hd hf k=>by
  obtain ⟨x,e1,hf⟩:=obb hf;obtain ⟨xs,e2,hf⟩:=obb hf;cases hf;exact a.ok hv.l hd e1 λx' G1 E1 D1 _=>r.ok (hv.r.up E1) (hd.up E1) e2 λy' G2 E2 D2=>k _ G2 (E1.trans E2) (.cons (D1.up (VJ E2)) D2)⟩
def few {n:Nat} (h:Tru (Nat.ble n 1000)):n<=sizeLine:=Nat.le_trans (Nat.le_of_ble_eq_true h.h) (by rw [sizeLine_eq];omega)
def WM {t:TA3} (a:PuA t) (hn:Tru (Nat.ble a.n 1000)):PuE (ju t):=⟨λρ=>(a.f ρ).map .tuple,a.fv,false,λhv hd hf k=>by
 obtain ⟨xs,e1,rfl⟩:=Option.map_eq_some_iff.mp hf;exact a.ok hv hd e1 λx G1 E1 D1=>⟨by rw [D1.length,a.ln e1];exact few hn,k _ _ E1 (.tup D1) (λz=>by cases z)⟩⟩
def MK {D:Addr->Prop} {G:Gp} {p:Addr} {xs:List T} {ds:List PyData} (hp:G p=none) (h:Dqs (rs D G) xs ds):Nw D G (gu G p (.lst xs)) (.ref p) (.list ds):=
 .inr ⟨p,xs,ds,rfl,rfl,hp,qL,h.up λb o e=>by
  obtain ⟨n,e⟩:=zd e;have:b≠p:=by rintro rfl;rw [hp] at e;cases e
  rw [YA (by rintro (z|z);exact n z;exact this z),ZW this];exact e⟩
def U9 {D:Addr->Prop} {G:Gp} {p:Addr} {xs:List T} {ds:List PyData} (hd:Dom D G) (hp:G p=none) (h:Dqs (rs D G) xs ds):Dq (rs D (gu G p (.lst xs))) (.ref p) (.list ds):=
 .lst (qjF hd hp) (h.up (VJ (VE hp)))
def qaC {t:TA3} (a:PuA t) (hn:Tru (Nat.ble a.n 1000)):PuE (VO t):=⟨λρ=>(a.f ρ).map .list,a.fv,true,λhv hd hf k=>by
 obtain ⟨xs,e1,rfl⟩:=Option.map_eq_some_iff.mp hf;exact a.ok hv hd e1 λx G1 E1 D1=>⟨by rw [D1.length,a.ln e1];exact few hn,λp hp=>k _ _ (E1.trans (VE hp)) (U9 (hd.up E1) hp D1) λ_=>(MK hp D1).back E1⟩⟩
def qv {r:List T->Gp->Q3->Prop} {t:TA3} (R:FnD r) (a:PuA t):PuE (cb3 r t):=
 ⟨λρ=>(a.f ρ).bind R.f,a.fv,R.nw,λhv hd hf k=>by
  obtain ⟨x,e1,hf⟩:=obb hf;exact a.ok hv hd e1 λx' G1 E1 D1=>R.ok D1 (hd.up E1) hf λz G3 E3 D3 N3=>k z G3 (E1.trans E3) D3 λh=>(N3 h).back E1⟩
def asB:PyData->Option Bool
 |.bool b=>some b
 |_=>none
def asI:PyData->Option Int
 |.int b=>some b
 |_=>none
def L9 {d:PyData} {b:Bool} (h:asB d=some b):d=.bool b:=by cases d<;>simp [asB] at h;subst h;rfl
def qa5 {d:PyData} {b:Int} (h:asI d=some b):d=.int b:=by cases d<;>simp [asI] at h;subst h;rfl
def bTb {t:TE3} (a:PuE t):PuC (tb3 t):=⟨λρ=>(a.f ρ).bind asB,a.fv,λhv hd hf k=>by
 obtain ⟨x,e1,hf⟩:=obb hf;have:=L9 hf;subst this;exact a.ok hv hd e1 λx' G1 E1 D1 _=>by cases D1;exact k G1 E1⟩
def qej {t u:TT3} (a:PuC t) (b:PuC u):PuC (TB t u):=⟨λρ=>(a.f ρ).bind λk=>if k then b.f ρ else some false,a.fv++b.fv,λhv hd hf k=>by
 obtain ⟨x,e1,hf⟩:=obb hf;refine a.ok hv.l hd e1 λG1 E1=>?_;cases x with
 |true=>exact b.ok (hv.r.up E1) (hd.up E1) hf λG2 E2=>k G2 (E1.trans E2)
 |false=>cases hf;exact k G1 E1⟩
def bOr {t u:TT3} (a:PuC t) (b:PuC u):PuC (or3 t u):=⟨λρ=>(a.f ρ).bind λk=>if k then some true else b.f ρ,a.fv++b.fv,λhv hd hf k=>by
 obtain ⟨x,e1,hf⟩:=obb hf;refine a.ok hv.l hd e1 λG1 E1=>?_;cases x with
 |false=>exact b.ok (hv.r.up E1) (hd.up E1) hf λG2 E2=>k G2 (E1.trans E2)
 |true=>cases hf;exact k G1 E1⟩
def WG {t:TT3} (a:PuC t):PuC (UE t):=⟨λρ=>(a.f ρ).map (! ·),a.fv,λhv hd hf k=>by
 obtain ⟨x,e1,hf⟩:=Option.map_eq_some_iff.mp hf;subst hf;exact a.ok hv hd e1 λG1 E1=>k G1 E1⟩
def bTt:PuC tt3:=⟨λ_=>some true,[],λhv hd hf k=>by cases hf;exact k _ Ex.refl⟩
def ZQ {ta tb:TE3} (a:PuE ta) (b:PuE tb):PuE (ji ta tb):=⟨λρ=>((a.f ρ).bind asB).bind λk=>if k then b.f ρ else some (.bool false),a.fv++b.fv,false,λhv hd hf k=>by
 obtain ⟨x,e1,hf⟩:=obb hf;obtain ⟨y,e1,e2⟩:=obb e1;have:=L9 e2;subst this;refine a.ok hv.l hd e1 λx' G1 E1 D1 _=>?_;cases D1;cases x with
 |true=>exact b.ok (hv.r.up E1) (hd.up E1) hf λz G2 E2 D2 _=>k z G2 (E1.trans E2) D2 (λz=>by cases z)
 |false=>cases hf;exact k _ G1 E1 (.bl false) (λz=>by cases z)⟩
def qgp {ta:TE3} (a:PuE ta):PuE (XG ta):=⟨λρ=>((a.f ρ).bind asB).map λk=>.bool (!k),a.fv,false,λhv hd hf k=>by
 obtain ⟨x,e1,hf⟩:=Option.map_eq_some_iff.mp hf;obtain ⟨y,e1,e2⟩:=obb e1;have:=L9 e2;subst this;subst hf;refine a.ok hv hd e1 λx' G1 E1 D1 _=>?_;cases D1;exact k _ G1 E1 (.bl _) (λz=>by cases z)⟩
def bIf {t:TT3} {ta tb:TE3} (c:PuC t) (a:PuE ta) (b:PuE tb):PuE (if3 t ta tb):=⟨λρ=>(c.f ρ).bind λk=>if k then a.f ρ else b.f ρ,c.fv++(a.fv++b.fv),false,λhv hd hf k=>by
 obtain ⟨x,e1,hf⟩:=obb hf;refine c.ok hv.l hd e1 λG1 E1=>?_;cases x with
 |true=>exact a.ok (hv.r.l.up E1) (hd.up E1) hf λz G2 E2 D2 _=>k z G2 (E1.trans E2) D2 (λz=>by cases z)
 |false=>exact b.ok (hv.r.r.up E1) (hd.up E1) hf λz G2 E2 D2 _=>k z G2 (E1.trans E2) D2 (λz=>by cases z)⟩
def qln {ta:TE3} (a:PuE ta):PuE (u3 XZ ta):=⟨λρ=>((a.f ρ).bind asI).map λi=>.int (-i),a.fv,false,λhv hd hf k=>by
 obtain ⟨x,e1,hf⟩:=Option.map_eq_some_iff.mp hf;obtain ⟨y,e1,e2⟩:=obb e1;have:=qa5 e2;subst this;subst hf;refine a.ok hv hd e1 λx' G1 E1 D1 _=>?_;cases D1;exact k _ G1 E1 (.int _) (λz=>by cases z)⟩
def qok {ta:TE3} (a:PuE ta):PuE (bl3 ta):=⟨λρ=>((a.f ρ).bind asI).map λi=>.int (Builtin.Int.intBits i),a.fv,false,λhv hd hf k=>by
 obtain ⟨x,e1,hf⟩:=Option.map_eq_some_iff.mp hf;obtain ⟨y,e1,e2⟩:=obb e1;have:=qa5 e2;subst this;subst hf;refine a.ok hv hd e1 λx' G1 E1 D1 _=>?_;cases D1;exact k _ G1 E1 (.int _) (λz=>by cases z)⟩
def tyD:PyData->Option String
 |.none=>some "NoneType" |.bool _=>some "bool" |.int _=>some "int" |.str _=>some "str" |.tuple _=>some "tuple" |.list _=>some "list" |.dict _=>none
def WT {ta:TE3} (g:String->Bool) (a:PuE ta):PuE (J1 g ta):=⟨λρ=>(a.f ρ).bind λd=>(tyD d).map λt=>.bool (g t),a.fv,false,λhv hd hf k=>by
 obtain ⟨x,e1,hf⟩:=obb hf;obtain ⟨y,e2,hf⟩:=Option.map_eq_some_iff.mp hf;subst hf;refine a.ok hv hd e1 λx' G1 E1 D1 _=>?_;have:tyT G1 x'=some y:=by
  cases D1 with
  |lst h _=>have g:=QE (zd h).2;simp [tyT,g];simpa [tyD] using e2
  |_=>simpa [tyT,tyD] using e2
 simp only [this];exact k _ G1 E1 (.bl _) (λz=>by cases z)⟩
def bNp:PuO np3:=⟨λ_=>some none,[],λhv hd hf k=>by cases hf;exact k _ Ex.refl⟩
def bSp {t:TE3} (a:PuE t):PuO (sp3 t):=⟨λρ=>((a.f ρ).bind asI).map some,a.fv,λhv hd hf k=>by
 obtain ⟨x,e1,hf⟩:=Option.map_eq_some_iff.mp hf;obtain ⟨y,e1,e2⟩:=obb e1;have:=qa5 e2;subst this;subst hf;refine a.ok hv hd e1 λx' G1 E1 D1 _=>?_;cases D1;exact k G1 E1⟩
def Dqs.cut {G:Gp} {xs:List T} {ds:List PyData} (h:Dqs G xs ds) (lo hi:Option Int):Dqs G (EJ xs lo hi) (EJ ds lo hi):=by
 unfold EJ;rw [h.length];exact (h.drop _).take _
def slD (d:PyData) (lo hi:Option Int):Option PyData:=match d with
 |.tuple xs=>cif (HT.sIx xs.length 0 lo=0/\HT.sIx xs.length xs.length hi=xs.length) none (some (.tuple (EJ xs lo hi)))
 |.list xs=>some (.list (EJ xs lo hi))
 |_=>none
def bSl {te:TE3} {tl th:TO3} (a:PuE te) (l:PuO tl) (h:PuO th):PuE (CA te tl th):=⟨λρ=>(a.f ρ).bind λd=>(l.f ρ).bind λlo=>(h.f ρ).bind λhi=>slD d lo hi,a.fv++(l.fv++h.fv),false,λhv hd hf k=>by
 obtain ⟨d,e1,hf⟩:=obb hf;obtain ⟨lo,e2,hf⟩:=obb hf;obtain ⟨hi,e3,hf⟩:=obb hf;refine a.ok hv.l hd e1 λx' G1 E1 D1 _=>l.ok (hv.r.l.up E1) (hd.up E1) e2 λG2 E2=>h.ok (hv.r.r.up (E1.trans E2)) (hd.up (E1.trans E2)) e3 λG3 E3=>?_;have E:=(E1.trans E2).trans E3;have D3:=(D1.up (VJ E2)).up (VJ E3);unfold slD at hf;cases D3 with
 |tup hs=>
  simp only [cif] at hf;split at hf
  ·cases hf
  ·rename_i n;cases hf;exact ⟨by rw [hs.length];exact n,k _ _ E (.tup (hs.cut _ _)) (λz=>by cases z)⟩
 |lst g hs=>
  simp only at hf;cases hf;simp only [sl3,QE (zd g).2];intro p hp;exact k _ _ (E.trans (VE hp)) (U9 (hd.up E) hp (hs.cut _ _)) (λz=>by cases z)
 |_=>simp at hf⟩
def EY:List PyData->Option (List Int)
 |[]=>some []
 |.int i::r=>(EY r).map (i::·)
 |_=>none
def qan (ns:List Int):EY (ns.map PyData.int)=some ns:=by
 induction ns with
 |nil=>rfl
 |cons n r ih=>simp [EY,ih]
def MJ:∀ {xs:List PyData} {ns:List Int},EY xs=some ns->xs=ns.map PyData.int
 |[],_,h=>by simp [EY] at h;subst h;rfl
 |.int i::r,ns,h=>by
  simp only [EY] at h;obtain ⟨ms,e,rfl⟩:=Option.map_eq_some_iff.mp h;rw [MJ e];rfl
 |.none::r,ns,h=>by simp [EY] at h
 |.bool _::r,ns,h=>by simp [EY] at h
 |.str _::r,ns,h=>by simp [EY] at h
 |.list _::r,ns,h=>by simp [EY] at h
 |.tuple _::r,ns,h=>by simp [EY] at h
 |.dict _::r,ns,h=>by simp [EY] at h
def opI (g:Int->Int->Int):OpD (iI g):=⟨λd e=>match d,e with|.int i,.int j=>some (.int (g i j))|_,_=>none,false,λ{D G x y d e v q} hx hy hd hf k=>by
 cases hx<;>try (simp at hf;done)
 cases hy<;>try (simp at hf;done)
 cases hf;exact k _ _ Ex.refl (.int _) (λz=>by cases z)⟩
def cI (C:Int->Int->Prop) (g:Int->Int->Int) (d e:PyData):Option PyData:=match d,e with|.int i,.int j=>cif (C i j) (some (.int (g i j))) none|_,_=>none
def opC (C:Int->Int->Prop) (g:Int->Int->Int):OpD (iC C g):=⟨cI C g,false,λ{D G x y d e v q} hx hy hd hf k=>by
 unfold cI at hf;cases hx<;>try (simp at hf;done)
 cases hy<;>try (simp at hf;done)
 simp only [cif] at hf;split at hf
 ·rename_i c;cases hf;exact ⟨c,k _ _ Ex.refl (.int _) (λz=>by cases z)⟩
 ·cases hf⟩
def opB (g:Int->Int->Bool):OpD (iB g):=⟨λd e=>match d,e with|.int i,.int j=>some (.bool (g i j))|_,_=>none,false,λ{D G x y d e v q} hx hy hd hf k=>by
 cases hx<;>try (simp at hf;done)
 cases hy<;>try (simp at hf;done)
 cases hf;exact k _ _ Ex.refl (.bl _) (λz=>by cases z)⟩
def qcY:PyData->PyData->Option Bool
 |.none,.none=>some true|.none,.int _=>some false|.int _,.none=>some false|.none,.bool _=>some false|.bool _,.none=>some false|.none,.str _=>some false|.str _,.none=>some false
 |.int i,.int j=>some (decide (i=j))|.bool i,.bool j=>some (decide (i=j))|.str i,.str j=>some (decide (i=j))
 |.int _,.str _=>some false|.str _,.int _=>some false|.bool _,.str _=>some false|.str _,.bool _=>some false
 |_,_=>none
def qa8 {G:Gp} {x y:T} {d e:PyData} (hx:Dq G x d) (hy:Dq G y e):jU x y=qcY d e:=by
 cases hx<;>cases hy<;>rfl
def eqD (neg:Bool) (d e:PyData):Option PyData:=match qcY d e with
 |some k=>some (.bool (if neg then !k else k))
 |none=>cif (dpt d<=40/\dpt d≠0) ((VI d e).map λb=>.bool (if neg then !b else b)) none
def ZN (neg:Bool):OpD (zF neg):=⟨eqD neg,false,λ{D G x y d e v q} hx hy hd hf k=>by
 unfold zF;rw [qa8 hx hy];unfold eqD at hf;cases h:qcY d e with
 |some b=>rw [h] at hf;cases hf;exact k _ _ Ex.refl (.bl _) (λz=>by cases z)
 |none=>
  rw [h] at hf;simp only [cif] at hf ⊢;split at hf
  ·rename_i c;obtain ⟨b,e1,rfl⟩:=Option.map_eq_some_iff.mp hf;exact ⟨d,e,b,(hx.up DA).dp,(hy.up DA).dp,e1,c.1,c.2,k _ _ Ex.refl (.bl _) (λz=>by cases z)⟩
  ·cases hf⟩
def ixD (d e:PyData):Option PyData:=match d,e with
 |.tuple xs,.int i=>atI xs i
 |.list xs,.int i=>atI xs i
 |_,_=>none
def Dqs.atI {G:Gp} {xs:List T} {ds:List PyData} {i:Int} {d:PyData} (h:Dqs G xs ds) (e:L2.atI ds i=some d):∃ x,L2.atI xs i=some x/\Dq G x d:=by
 unfold L2.atI at e ⊢;rw [h.length];obtain ⟨j,e1,e2⟩:=obb e;obtain ⟨x,hx,r⟩:=h.get e2;exact ⟨x,by rw [e1];exact hx,r⟩
def jF:OpD ix3:=⟨ixD,false,λ{D G x y d e v q} hx hy hd hf k=>by
 unfold ixD at hf;cases hx with
 |tup hs=>
  cases hy<;>try (simp at hf;done)
  obtain ⟨x,e1,r⟩:=hs.atI hf;simp only [ix3,e1];exact k _ _ Ex.refl r (λz=>by cases z)
 |lst g hs=>
  cases hy<;>try (simp at hf;done)
  obtain ⟨x,e1,r⟩:=hs.atI hf;simp only [ix3,QE (zd g).2,e1];exact k _ _ Ex.refl r (λz=>by cases z)
 |_=>simp at hf⟩
def qlI (d e:PyData):Option PyData:=match d,e with
 |.tuple xs,.tuple ys=>cif (xs≠[]/\xs.length+ys.length<=sizeLine) (some (.tuple (xs++ys))) none
 |.list xs,.list ys=>cif (xs.length+ys.length<=sizeLine) (some (.list (xs++ys))) none
 |.int i,.int j=>some (.int (i+j))
 |_,_=>none
def qbK:OpD j5:=⟨qlI,false,λ{D G x y d e v q} hx hy hd hf k=>by
  unfold qlI at hf;cases hx with
  | int i => cases hy <;> try (simp at hf;done)
             cases hf;exact k _ _ Ex.refl (.int _) (λz=>by cases z)
  |tup hs=>
    cases hy<;>try (simp at hf;done)
    rename_i hs2;simp only [cif] at hf;split at hf
    · rename_i c;cases hf;refine ⟨?_,by rw [hs.length,hs2.length];exact c.2,k _ _ Ex.refl (.tup (hs.append hs2)) (λz=>by cases z)⟩;rintro rfl;cases hs;exact c.1 rfl
    · cases hf
  |lst g hs=>
    cases hy<;>try (simp at hf;done)
    rename_i g2 hs2;simp only [cif] at hf;split at hf
    · rename_i c;cases hf;simp only [j5,(zd g).2,(zd g2).2];exact ⟨by rw [hs.length,hs2.length];exact c,λp hp=>k _ _ (VE hp) (U9 hd hp (hs.append hs2)) (λz=>by cases z)⟩
    · cases hf
  |_=>simp at hf⟩
def W7:PyData->Bool
 |.none=>true|.bool _=>true|.int _=>true|.str _=>true|_=>false
def qg3:PyData->PyData->Bool
 |.none,.none=>true
 |.bool a,.bool b=>a==b
 |.bool a,.int b=>(if a then 1 else 0)==b
 |.int a,.bool b=>a==(if b then 1 else 0)
 |.int a,.int b=>a==b
 |.str a,.str b=>a==b
 |_,_=>false
def XQ {G:Gp} {x:T} {d:PyData} (h:Dq G x d):UC x=W7 d:=by cases h<;>rfl
def DI {G:Gp}:∀ {x:List T} {d:List PyData},Dqs G x d->x.all UC=d.all W7
 |_,_,.nil=>rfl
 |_,_,.cons a b=>by rw [List.all_cons,List.all_cons,XQ a,DI b]
def qcL {G:Gp} {x y:T} {d e:PyData} (h:Dq G x d) (h':Dq G y e):eqF x y=qg3 d e:=by cases h<;>cases h'<;>rfl
def W4 {G:Gp} {x:T} {d:PyData} (h:Dq G x d):∀ {ys:List T} {es:List PyData},Dqs G ys es->(ys.any λy=>eqF y x)=es.any λy=>qg3 y d
 |_,_,.nil=>rfl
 |_,_,.cons a b=>by rw [List.any_cons,List.any_cons,qcL a h,W4 h b]
def inD (neg:Bool) (d e:PyData):Option PyData:=match e with
 |.tuple ys=>cif (W7 d=true/\ys.all W7=true) (some (.bool (if neg then !(ys.any λy=>qg3 y d) else (ys.any λy=>qg3 y d)))) none
 |.list ys=>cif (W7 d=true/\ys.all W7=true) (some (.bool (if neg then !(ys.any λy=>qg3 y d) else (ys.any λy=>qg3 y d)))) none
 |_=>none
def qog (neg:Bool):OpD (in3 neg):=⟨inD neg,false,λ{D G x y d e v q} hx hy hd hf k=>by
 unfold inD at hf;cases hy with
 |tup hs=>
  simp only [cif] at hf;split at hf
  ·rename_i c;cases hf;refine ⟨by rw [XQ hx];exact c.1,by rw [DI hs];exact c.2,?_⟩;rw [W4 hx hs];exact k _ _ Ex.refl (.bl _) (λz=>by cases z)
  ·cases hf
 |lst g hs=>
  simp only [cif] at hf;split at hf
  ·rename_i c;cases hf;refine ⟨by rw [XQ hx];exact c.1,?_⟩;simp only [QE (zd g).2];refine ⟨by rw [DI hs];exact c.2,?_⟩;rw [W4 hx hs];exact k _ _ Ex.refl (.bl _) (λz=>by cases z)
  ·cases hf
 |_=>simp at hf⟩
def qgF:List PyData->Option PyData
 |[.tuple xs]=>some (.int xs.length)
 |[.list xs]=>some (.int xs.length)
 |_=>none
def DZ:FnD JL:=⟨qgF,false,λ{D G xs ds v q} hx hd hf k=>by
 unfold qgF at hf;split at hf
 ·cases hx with
  |cons a b=>cases b;cases a;rename_i hs;cases hf;simp only [JL];rw [hs.length];exact k _ _ Ex.refl (.int _) (λz=>by cases z)
 ·cases hx with
  |cons a b=>cases b;cases a;rename_i g hs;cases hf;simp only [JL,QE (zd g).2];rw [hs.length];exact k _ _ Ex.refl (.int _) (λz=>by cases z)
 ·cases hf⟩
def qh6:List PyData->Option PyData
 |[.int i,.int j]=>some (.int (if j<i then j else i))
 |_=>none
def qon:FnD NS:=⟨qh6,false,λ{D G xs ds v q} hx hd hf k=>by
 unfold qh6 at hf;split at hf
 ·cases hx with
  |cons a b=>cases b with
   |cons b c=>cases c;cases a;cases b;cases hf;exact k _ _ Ex.refl (.int _) (λz=>by cases z)
 ·cases hf⟩
def qg2:List PyData->Option PyData
 |[.int i,.int j]=>some (.int (if j > i then j else i))
 |_=>none
def qoz:FnD qcS:=⟨qg2,false,λ{D G xs ds v q} hx hd hf k=>by
 unfold qg2 at hf;split at hf
 ·cases hx with
  |cons a b=>cases b with
   |cons b c=>cases c;cases a;cases b;cases hf;exact k _ _ Ex.refl (.int _) (λz=>by cases z)
 ·cases hf⟩
def qlJ:List PyData->Option PyData
 |[.int i]=>some (.int i)
 |[.bool k]=>some (.int (if k then 1 else 0))
 |_=>none
def qnH:FnD qbV:=⟨qlJ,false,λ{D G xs ds v q} hx hd hf k=>by
 unfold qlJ at hf;split at hf
 ·cases hx with
  |cons a b=>cases b;cases a;cases hf;exact k _ _ Ex.refl (.int _) (λz=>by cases z)
 ·cases hx with
  |cons a b=>cases b;cases a;cases hf;exact k _ _ Ex.refl (.int _) (λz=>by cases z)
 ·cases hf⟩
def qlE:List PyData->Option PyData
 |[.tuple xs]=>some (.tuple xs)
 |[.list xs]=>some (.tuple xs)
 |_=>none
def qmZ:FnD jE:=⟨qlE,false,λ{D G xs ds v q} hx hd hf k=>by
 unfold qlE at hf;split at hf
 ·cases hx with
  |cons a b=>cases b;cases a;rename_i hs;cases hf;exact k _ _ Ex.refl (.tup hs) (λz=>by cases z)
 ·cases hx with
  |cons a b=>cases b;cases a;rename_i g hs;cases hf;simp only [jE,QE (zd g).2];exact k _ _ Ex.refl (.tup hs) (λz=>by cases z)
 ·cases hf⟩
def qlV:List PyData->Option PyData
 |[.tuple xs]=>some (.list xs)
 |[.list xs]=>some (.list xs)
 |_=>none
def qnY:FnD CK:=⟨qlV,true,λ{D G xs ds v q} hx hd hf k=>by
 unfold qlV at hf;split at hf
 ·cases hx with
  |cons a b=>cases b;cases a;rename_i hs;cases hf;exact λp hp=>k _ _ (VE hp) (U9 hd hp hs) λ_=>MK hp hs
 ·cases hx with
  |cons a b=>cases b;cases a;rename_i g hs;cases hf;simp only [CK,QE (zd g).2];exact λp hp=>k _ _ (VE hp) (U9 hd hp hs) λ_=>MK hp hs
 ·cases hf⟩
def MW:List PyData->Option (List Bool)
 |[]=>some []
 |.bool i::r=>(MW r).map (i::·)
 |_=>none
def qcz (ns:List Bool):MW (ns.map PyData.bool)=some ns:=by
 induction ns with
 |nil=>rfl
 |cons n r ih=>simp [MW,ih]
def qaz {G:Gp}:∀ {xs:List T} {ds:List PyData} {ns:List Bool},Dqs G xs ds->MW ds=some ns->qdv xs=some (ns.all id)/\qlS xs=some (ns.any id)
 |_,_,_,.nil,h=>by simp [MW] at h;subst h;exact ⟨rfl,rfl⟩
 |_,.bool i::r,ns,.cons a b,h=>by
  simp only [MW] at h;obtain ⟨ms,e,rfl⟩:=Option.map_eq_some_iff.mp h;obtain ⟨h1,h2⟩:=qaz b e;cases a;simp [qdv,qlS,h1,h2]
 |_,.int _::r,ns,_,h=>by simp [MW] at h
 |_,.none::r,ns,_,h=>by simp [MW] at h
 |_,.str _::r,ns,_,h=>by simp [MW] at h
 |_,.list _::r,ns,_,h=>by simp [MW] at h
 |_,.tuple _::r,ns,_,h=>by simp [MW] at h
 |_,.dict _::r,ns,_,h=>by simp [MW] at h
def qjk:List PyData->Option PyData
 |[.list xs]=>(MW xs).map λns=>.bool (ns.all id)
 |_=>none
def qbu:FnD X2:=⟨qjk,false,λ{D G xs ds v q} hx hd hf k=>by
 unfold qjk at hf;split at hf
 ·obtain ⟨ns,e,rfl⟩:=Option.map_eq_some_iff.mp hf;cases hx with
  |cons a b=>cases b;cases a;rename_i g hs;simp only [X2,QE (zd g).2,(qaz hs e).1];exact k _ _ Ex.refl (.bl _) (λz=>by cases z)
 ·cases hf⟩
def mx:List Int->Int
 |[]=>0|[a]=>a|a::b::r=>max a (mx (b::r))
def qfs:∀ {ns:List Int} {m:Int},m∈ns->m<=mx ns
 |[a],m,h=>by simp at h;subst h;exact Int.le_refl _
 |a::b::r,m,h=>by
  unfold mx;rcases mem_cons.mp h with rfl|h
  ·omega
  ·have:=qfs h;omega
def qaV:∀ {ns:List Int},ns≠[]->mx ns∈ns
 |[a],_=>by simp [mx]
 |a::b::r,_=>by
  unfold mx;have:=qaV (ns:=b::r) (by simp);rcases Int.le_total a (mx (b::r)) with h|h
  ·rw [Int.max_eq_right h];exact List.mem_cons_of_mem _ this
  ·rw [Int.max_eq_left h];simp
def PSp (F:List PyData->Option PyData) (fr:Bool):Sp3:=λts G q=>∃ (D:Addr->Prop) (ds:List PyData) (d:PyData),Dqs (rs D G) ts ds/\Dom D G/\F ds=some d/\∀ x G',Ex G G'->Dq (rs D G') x d->(fr=true->Nw D G G' x d)->q x G'
def zS (F:List PyData->Option PyData) (fr:Bool):FnD (PSp F fr):=⟨F,fr,λ{D G xs ds v q} hx hd hf k=>⟨D,ds,v,hx,hd,hf,k⟩⟩
def LZ:PyData->Option (List PyData)
 |.tuple xs=>some xs
 |.list xs=>some xs
 |_=>none
def qbS {t:TE3} (a:PuE t):PuI (UB t):=⟨λρ=>(a.f ρ).bind LZ,a.fv,false,λ{D τ ρ G r ds} hv hd hf k=>by
 obtain ⟨d,e1,hf⟩:=obb hf;refine a.ok hv hd e1 λx G1 E1 D1 _=>?_;unfold LZ at hf;cases D1 with
 |tup hs=>cases hf;exact k _ _ _ E1 hs (λ_ _=>trivial) (λz=>by cases z)
 |lst g hs=>
  cases hf;simp only [QE (zd g).2];refine k _ _ _ E1 hs (λG2 h=>?_) (λz=>by cases z);rcases h with h|h
  ·cases h
  ·exact QE (h _ _ g)
 |_=>simp at hf⟩
def qcB (lo:Int) (n:Nat):List Int:=(List.range n).map λ(i:Nat)=>lo+(i:Int)
def qdy (lo:Int) (n:Nat):MG lo n=(qcB lo n).map T.int:=by simp [MG,qcB,map_map,Function.comp_def]
def qhJ:List PyData->Option (List PyData)
 |[.int j]=>cif (-(2 ^ 62)<=j/\j<2 ^ 62) (some ((qcB 0 j.toNat).map PyData.int)) none
 |[.int i,.int j]=>cif (-(2 ^ 62)<=i/\i<2 ^ 62/\-(2 ^ 62)<=j/\j<2 ^ 62) (some ((qcB i (j-i).toNat).map PyData.int)) none
 |_=>none
def qlR {t:TA3} (a:PuA t):PuI (ZI t):=⟨λρ=>(a.f ρ).bind qhJ,a.fv,true,λ{D τ ρ G r ds} hv hd hf k=>by
 obtain ⟨d,e1,hf⟩:=obb hf;refine a.ok hv hd e1 λx G1 E1 D1=>?_;unfold qhJ at hf;split at hf
 ·unfold cif at hf;split at hf
  ·rename_i c;cases hf;cases D1 with
   |cons a b=>cases b;cases a;simp only;rw [qdy];exact ⟨c,k _ _ _ E1 (Dqs.ofInts _) (λ_ _=>trivial) λ_=>⟨_,rfl⟩⟩
  ·cases hf
 ·unfold cif at hf;split at hf
  ·rename_i c;cases hf;cases D1 with
   |cons a b=>cases b with
    |cons b c'=>cases c';cases a;cases b;simp only;rw [qdy];exact ⟨c,k _ _ _ E1 (Dqs.ofInts _) (λ_ _=>trivial) λ_=>⟨_,rfl⟩⟩
  ·cases hf
 ·cases hf⟩
def qkW (us vs:List PyData):List PyData:=(us.zip vs).map λp=>.tuple [p.1,p.2]
def Dqs.zip {G:Gp}:∀ {xs:List T} {ds:List PyData} {ys:List T} {es:List PyData},Dqs G xs ds->Dqs G ys es->Dqs G (qbQ xs ys) (qkW ds es)
 |_,_,_,_,.nil,_=>by simp [qbQ,qkW];exact .nil
 |_,_,_,_,.cons _ _,.nil=>by simp [qbQ,qkW];exact .nil
 |_,_,_,_,.cons a b,.cons c d=>.cons (.tup (.cons a (.cons c .nil))) (Dqs.zip b d)
def LF {G:Gp} {x:T} {d:PyData} {ds:List PyData} (h:Dq G x d) (e:LZ d=some ds):∃ us,JS G x=some us/\Dqs G us ds:=by
 unfold LZ at e;cases h with
 |tup hs=>cases e;exact ⟨_,rfl,hs⟩
 |lst g hs=>cases e;exact ⟨_,QE g,hs⟩
 |_=>simp at e
def LH {G G':Gp} {x:T} {us:List T} (e:Ex G G') (h:JS G x=some us):JS G' x=some us:=by
 cases x with
 |tup xs=>exact h
 |ref p=>exact e.getL h
 |_=>cases h
def qoF {t:TA3} (a:PuA t):PuI (MT t):=⟨λρ=>(a.f ρ).bind λds=>match ds with|[d,e]=>(LZ d).bind λus=>(LZ e).bind λvs=>some (qkW us vs)|_=>none,a.fv,false,λ{D τ ρ G r ds} hv hd hf k=>by
 obtain ⟨d,e1,hf⟩:=obb hf;refine a.ok hv hd e1 λx G1 E1 D1=>?_;split at hf
 ·obtain ⟨us,e2,hf⟩:=obb hf;obtain ⟨vs,e3,hf⟩:=obb hf;cases hf;cases D1 with
  |cons a b=>cases b with
   |cons b c=>
    cases c;obtain ⟨us',h1,h2⟩:=LF a e2;obtain ⟨vs',h3,h4⟩:=LF b e3;simp only [LH DA h1,LH DA h3];refine k _ _ _ E1 (h2.zip h4) (λG2 h=>?_) (λz=>by cases z);rcases h with h|h
    ·cases h
    ·exact ⟨LH h h1,LH h h3⟩
 ·cases hf⟩
inductive Bd (H:Gp):List (Nat×T)->List (Nat×PyData)->Prop
 |nil:Bd H [] []
 |cons {i:Nat} {x:T} {d:PyData} {ts:List (Nat×T)} {bs:List (Nat×PyData)}:Dq H x d->Bd H ts bs->Bd H ((i,x)::ts) ((i,d)::bs)
def Bd.append {H:Gp}:∀ {ts:List (Nat×T)} {bs:List (Nat×PyData)} {us:List (Nat×T)} {cs:List (Nat×PyData)},Bd H ts bs->Bd H us cs->Bd H (ts++us) (bs++cs)
 |_,_,_,_,.nil,h=>h
 |_,_,_,_,.cons a b,h=>.cons a (Bd.append b h)
def Bd.up {H H':Gp} (e:Ex H H'):∀ {ts:List (Nat×T)} {bs:List (Nat×PyData)},Bd H ts bs->Bd H' ts bs
 |_,_,.nil=>.nil
 |_,_,.cons a b=>.cons (a.up e) (Bd.up e b)
def sets:St3->List (Nat×T)->St3
 |τ,[]=>τ
 |τ,p::r=>sets (τ.set p.1 (some p.2)) r
def D9:Rho->List (Nat×PyData)->Rho
 |ρ,[]=>ρ
 |ρ,p::r=>D9 (ρ.set p.1 (.sh p.2)) r
def LO:∀ (τ:St3) (a b:List (Nat×T)),sets τ (a++b)=sets (sets τ a) b
 |τ,[],b=>rfl
 |τ,p::a,b=>by simp only [cons_append,sets];exact LO _ a b
structure PuG (g:TG3) where
 f:PyData->Option (List (Nat×PyData))
 tg:List Nat
 at':∀ {d bs},f d=some bs->∀ p∈bs,p.1∈tg
 ok:∀ {H x d bs},Dq H x d->f d=some bs->∃ ts,Bd H ts bs/\∀ τ G (q:St3->Gp->Prop),q (sets τ ts) G->g x τ G q
structure PuGs (g:TY) where
 f:List PyData->Option (List (Nat×PyData))
 tg:List Nat
 at':∀ {d bs},f d=some bs->∀ p∈bs,p.1∈tg
 ok:∀ {H x d bs},Dqs H x d->f d=some bs->∃ ts,Bd H ts bs/\∀ τ G (q:St3->Gp->Prop),q (sets τ ts) G->g x τ G q
def gN (i:Nat):PuG (gn3 i):=⟨λd=>some [(i,d)],[i],λh p hp=>by cases h;simp at hp;subst hp;simp,λhx h=>by cases h;exact ⟨_,.cons hx .nil,λτ G q hq=>hq⟩⟩
def qbO:PuGs QI:=⟨λds=>match ds with|[]=>some []|_=>none,[],(λh p hp=>by split at h;cases h;cases hp;cases h),λhx h=>by
 split at h
 ·cases h;cases hx;exact ⟨[],.nil,λτ G q hq=>hq⟩
 ·cases h⟩
def QZ {t:TG3} {u:TY} (a:PuG t) (b:PuGs u):PuGs (qC t u):=⟨λds=>match ds with|d::r=>(a.f d).bind λx=>(b.f r).map λy=>x++y|[]=>none,a.tg++b.tg,(λh p hp=>by
 split at h
 ·obtain ⟨x,e1,h⟩:=obb h;obtain ⟨y,e2,rfl⟩:=Option.map_eq_some_iff.mp h;rcases List.mem_append.mp hp with z|z
  ·exact List.mem_append.mpr (.inl (a.at' e1 p z))
  ·exact List.mem_append.mpr (.inr (b.at' e2 p z))
 ·cases h),λhx h=>by
 split at h
 ·obtain ⟨x,e1,h⟩:=obb h;obtain ⟨y,e2,rfl⟩:=Option.map_eq_some_iff.mp h;cases hx with
  |cons hx hr=>
   obtain ⟨ts,b1,k1⟩:=a.ok hx e1;obtain ⟨us,b2,k2⟩:=b.ok hr e2;refine ⟨ts++us,b1.append b2,λτ G q hq=>k1 τ G _ (k2 _ G q ?_)⟩;rw [← LO];exact hq
 ·cases h⟩
def qae {u:TY} (n:Nat) (b:PuGs u):PuG (QK n u):=⟨λd=>match d with|.tuple ds=>if ds.length=n then b.f ds else none|_=>none,b.tg,(λh p hp=>by
 split at h
 ·split at h
  ·exact b.at' h p hp
  ·cases h
 ·cases h),λhx h=>by
 split at h
 ·split at h
  ·rename_i c;cases hx with
   |tup hs=>
    obtain ⟨ts,b1,k1⟩:=b.ok hs h;exact ⟨ts,b1,λτ G q hq=>⟨by rw [hs.length];exact c,k1 τ G q hq⟩⟩
  ·cases h
 ·cases h⟩
structure VA (D:Addr->Prop) (G:Gp) (τ:St3) (ρ:Rho):Prop where
 len:ρ.length=τ.length
 vw:∀ i d,vw ρ i=some d->∃ t,τ[i]?=some (some t)/\Dq (rs D G) t d
def VA.view {D:Addr->Prop} {G:Gp} {τ:St3} {ρ:Rho} (h:VA D G τ ρ) (fv:List Nat):CT fv D G τ ρ:=λi _ d e=>h.vw i d e
def VA.upx {D:Addr->Prop} {G G':Gp} {τ:St3} {ρ:Rho} (h:VA D G τ ρ) (e:Ex (rs D G) (rs D G')):VA D G' τ ρ:=⟨h.len,λi d hd=>let ⟨t,a,b⟩:=h.vw i d hd;⟨t,a,b.up e⟩⟩
def VA.up {D:Addr->Prop} {G G':Gp} {τ:St3} {ρ:Rho} (h:VA D G τ ρ) (e:Ex G G'):VA D G' τ ρ:=h.upx (VJ e)
def qiy {ρ:Rho} {i j:Nat} {s:Sl}:vw (ρ.set i s) j=if i=j then (if i<ρ.length then s.d else none) else vw ρ j:=by
 unfold vw;rw [getElem?_set];split
 ·subst j;split
  ·rfl
  ·rfl
 ·rfl
def VA.set {D:Addr->Prop} {G:Gp} {τ:St3} {ρ:Rho} (h:VA D G τ ρ) {i:Nat} {x:T} {d:PyData} (hx:Dq (rs D G) x d):VA D G (τ.set i (some x)) (ρ.set i (.sh d)):=by
 refine ⟨by simp [h.len],λj e he=>?_⟩;rw [qiy] at he;split at he
 ·subst j;split at he
  ·rename_i l;cases he;refine ⟨x,?_,hx⟩;rw [getElem?_set,if_pos rfl,if_pos (by rw [← h.len];exact l)]
  ·cases he
 ·rename_i n;obtain ⟨t,a,b⟩:=h.vw j e he;exact ⟨t,by rw [getElem?_set,if_neg n];exact a,b⟩
def VA.sets {D:Addr->Prop} {G:Gp}:∀ {ts:List (Nat×T)} {bs:List (Nat×PyData)} {τ:St3} {ρ:Rho},VA D G τ ρ->Bd (rs D G) ts bs->VA D G (Pu.sets τ ts) (D9 ρ bs)
 |_,_,_,_,h,.nil=>h
 |_,_,_,_,h,.cons a b=>by unfold Pu.sets D9;exact VA.sets (h.set a) b
def VA.keep {D:Addr->Prop} {G:Gp} {ρ:Rho}:∀ {ts:List (Nat×T)} {τ:St3},VA D G τ ρ->(∀ p∈ts,Pu.vw ρ p.1=none)->VA D G (Pu.sets τ ts) ρ
 |[],_,h,_=>h
 |p::r,τ,h,hn=>VA.keep (ts:=r) ⟨by rw [List.length_set];exact h.len,λj d hd=>by
   have:p.1≠j:=by rintro rfl;rw [hn p (by simp)] at hd;cases hd
   obtain ⟨t,a,b⟩:=h.vw j d hd;exact ⟨t,by rw [getElem?_set,if_neg this];exact a,b⟩⟩ λq hq=>hn q (by simp [hq])
def NH (m:List (Option Nat)) (ρ:Rho):Rho:=m.map λo=>match o with|some j=>(match vw ρ j with|some d=>.sh d|none=>.un)|none=>.un
def VA.cap {m:List (Option Nat)} {D:Addr->Prop} {G:Gp} {τ:St3} {ρ:Rho} (h:CT (m.filterMap id) D G τ ρ):VA D G (L3.cap m τ) (NH m ρ):=by
 refine ⟨by simp [NH,L3.cap],λi d hd=>?_⟩;unfold Pu.vw NH at hd;rw [getElem?_map] at hd;cases e:m[i]? with
 |none=>rw [e] at hd;cases hd
 |some o=>
  rw [e] at hd;cases o with
  |none=>cases hd
  |some j=>
   simp only [Option.map_some,Option.bind_some] at hd;cases e2:Pu.vw ρ j with
   |none=>rw [e2] at hd;cases hd
   |some d'=>
    rw [e2] at hd;have hd':d'=d:=by simpa [Sl.d] using hd
    subst hd';obtain ⟨t,a,b⟩:=h j (List.mem_filterMap.mpr ⟨some j,mem_of_getElem? e,rfl⟩) d' e2;refine ⟨t,?_,b⟩;unfold L3.cap;rw [getElem?_map,e];simp [a]
def qfo {m:List (Option Nat)} {ρ:Rho} {i:Nat} (h:m[i]?=some none):vw (NH m ρ) i=none:=by
 unfold vw NH;rw [getElem?_map,h];rfl
def lcP (h:PyData->Option (Option PyData)):List PyData->Option (List PyData)
 |[]=>some []
 |d::r=>(h d).bind λo=>(lcP h r).bind λys=>some (match o with|some y=>y::ys|none=>ys)
def lcH (gf:PyData->Option (List (Nat×PyData))) (cf:Rho->Option Bool) (ef:Rho->Option PyData) (ρ:Rho) (d:PyData):Option (Option PyData):=
 (gf d).bind λbs=>(cf (D9 ρ bs)).bind λk=>if k then (ef (D9 ρ bs)).map some else some none
def N9 {h:PyData->Option (Option PyData)} {α:Type} {g:α->PyData} {k:α->PyData} {xs:List α} (hh:∀ a∈xs,h (g a)=some (some (k a))):lcP h (xs.map g)=some (xs.map k):=by
 induction xs with
 |nil=>rfl
 |cons a r ih=>simp only [map_cons,lcP,hh a (by simp),Option.bind_some,ih λb hb=>hh b (by simp [hb])]
def qjX {H:Gp}:∀ {ts:List (Nat×T)} {bs:List (Nat×PyData)},Bd H ts bs->∀ p∈ts,∃ q∈bs,q.1=p.1
 |_,_,.nil,p,hp=>by cases hp
 |_,_,.cons a b,p,hp=>by
  rcases mem_cons.mp hp with rfl|hp
  ·exact ⟨_,List.mem_cons_self,rfl⟩
  ·obtain ⟨q,hq,e⟩:=qjX b p hp;exact ⟨q,by simp [hq],e⟩
def qfq {stay:Gp->Prop} {g:TG3} {tif:TT3} {te:TE3} {q:Q3} (pg:PuG g) (pc:PuC tif) (pe:PuE te) {D:Addr->Prop} {ρ0:Rho} {G0:Gp} (hs:∀ G,Ex G0 G->stay G) (hm:∀ i∈pg.tg,vw ρ0 i=none) (fin:List PyData) (hfin:fin.length<=sizeLine)
  (k:∀ G ys,Ex G0 G->Dqs (rs D G) ys fin->∀ p,G p=none->q (.ref p) (gu G p (.lst ys))) :
  ∀ (ds:List PyData) (items ys:List T) (es fs:List PyData) (τ:St3) (G:Gp),Dqs (rs D G0) items ds->VA D G τ ρ0->Ex G0 G->Dom D G->Dqs (rs D G) ys es->lcP (lcH pg.f pc.f pe.f ρ0) ds=some fs->es++fs=fin->CS stay g tif te q items ys τ G
 |_,_,ys,es,fs,τ,G,.nil,va,E,hd,hy,hf,hl=>by
  cases hf;rw [List.append_nil] at hl;subst hl;exact ⟨hs G E,k G ys E hy⟩
 |d::ds,x::items,ys,es,fs,τ,G,.cons hx hr,va,E,hd,hy,hf,hl=>by
  unfold lcP at hf;obtain ⟨o,e1,hf⟩:=obb hf;obtain ⟨J0,e2,hf⟩:=obb hf;unfold lcH at e1;obtain ⟨bs,e3,e1⟩:=obb e1;obtain ⟨c,e4,e1⟩:=obb e1;obtain ⟨ts,bd,kg⟩:=pg.ok (hx.up (VJ E)) e3;refine ⟨hs G E,kg τ G _ ?_⟩;have va1:=va.sets bd;have va2:=va.keep (ts:=ts) λp hp=>by
   obtain ⟨q,hq,e⟩:=qjX bd p hp;rw [← e];exact hm _ (pg.at' e3 q hq)
  refine pc.ok (va1.view _) hd e4 λG1 E1=>?_;cases c with
  |true=>
   rw [if_pos rfl];rw [if_pos rfl] at e1;obtain ⟨y,e5,rfl⟩:=Option.map_eq_some_iff.mp e1;simp only [Option.some.injEq] at hf;subst hf;refine pe.ok ((va1.up E1).view _) (hd.up E1) e5 λz G2 E2 D2 _=>⟨?_,?_⟩
   ·rw [hy.length];rw [← hl] at hfin;simp at hfin;omega
   ·refine qfq pg pc pe hs hm fin hfin k ds items (ys++[z]) (es++[y]) J0 _ G2 hr ((va2.up E1).up E2) (E.trans (E1.trans E2)) ((hd.up E1).up E2) (((hy.up (VJ E1)).up (VJ E2)).append (.cons D2 .nil)) e2 ?_;rw [← hl];simp
  |false=>
   rw [if_neg Bool.false_ne_true];simp at e1;subst e1;simp only [Option.some.injEq] at hf;subst hf;exact qfq pg pc pe hs hm fin hfin k ds items ys es J0 _ G1 hr (va2.up E1) (E.trans E1) (hd.up E1) (hy.up (VJ E1)) e2 hl
def lcF (pi:Rho->Option (List PyData)) (h:Rho->PyData->Option (Option PyData)) (m:List (Option Nat)) (ρ:Rho):Option PyData:=
 (pi ρ).bind λds=>(lcP (h (NH m ρ)) ds).bind λfs=>cif (fs.length<=sizeLine) (some (.list fs)) none
def bLc {wi:TI3} {g:TG3} {tif:TT3} {te:TE3} (pi:PuI wi) (pg:PuG g) (pc:PuC tif) (pe:PuE te) (m:List (Option Nat)) (hm:Tru (pg.tg.all λi=>m[i]?==some none)):PuE (lc3 wi g tif te m):=
 ⟨lcF pi.f (lcH pg.f pc.f pe.f) m,pi.fv++m.filterMap id,true,λ{D τ ρ G q d} hv hd hf k=>by
  unfold lcF at hf;obtain ⟨ds,e1,hf⟩:=obb hf;obtain ⟨fs,e2,hf⟩:=obb hf;unfold cif at hf;split at hf
  ·rename_i hl;cases hf;refine pi.ok hv.l hd e1 λitems stay G1 E1 D1 hs _=>?_;have va:=(VA.cap (m:=m) hv.r).up E1;refine qfq pg pc pe (D:=D) (ρ0:=NH m ρ) (G0:=G1) (λG2 E2=>hs G2 (.inr (DA.trans E2))) (λi hi=>qfo ?_) fs hl (λG2 ys E2 D2 p hp=>?_) ds items [] [] fs _ G1 D1 va Ex.refl (hd.up E1) .nil e2 (by simp)
   ·have:=List.all_eq_true.mp hm.h i hi;simpa using this
   ·exact k _ _ ((E1.trans E2).trans (VE hp)) (U9 ((hd.up E1).up E2) hp D2) λ_=>(MK hp D2).back (E1.trans E2)
  ·cases hf⟩
def AD (D:Addr->Prop) (A:Nat->Option Addr) (b:Addr):Prop:=D b\/∃ i,A i=some b
structure RS (D:Addr->Prop) (G0:Gp) (A:Nat->Option Addr) (τ:St3) (ρ:Rho) (G:Gp):Prop where
 ex:Ex G0 G
 dm:Dom D G0
 fr:∀ i p,A i=some p->G0 p=none
 da:∀ i p,A i=some p->G p≠none
 inj:∀ i j p,A i=some p->A j=some p->i=j
 len:ρ.length=τ.length
 sh:∀ (i:Nat) (d:PyData),ρ[i]?=some (Sl.sh d)->∃ t,τ[i]?=some (some t)/\Dq (rs (AD D A) G) t d
 ow:∀ (i:Nat) (ds:List PyData),ρ[i]?=some (Sl.ow ds)->∃ p xs,A i=some p/\τ[i]?=some (some (.ref p))/\G p=some (.lst xs)/\Dqs (rs (AD D A) G) xs ds
section
variable {D:Addr->Prop} {G0 G G':Gp} {A A':Nat->Option Addr} {τ:St3} {ρ:Rho}
def RS.nd (h:RS D G0 A τ ρ G) {i:Nat} {p:Addr} (e:A i=some p):¬ D p:=λz=>h.dm p z (h.fr i p e)
def RS.dom (h:RS D G0 A τ ρ G):Dom (AD D A) G:=λb hb=>by
 rcases hb with hb|⟨i,hi⟩
 ·exact (h.dm.up h.ex) b hb
 ·exact h.da i b hi
def RS.domD (h:RS D G0 A τ ρ G):Dom D G:=h.dm.up h.ex
def RS.up (h:RS D G0 A τ ρ G) (e:Ex G G'):RS D G0 A τ ρ G':=
 ⟨h.ex.trans e,h.dm,h.fr,λi p a z=>(h.da i p a) (by
  cases g:G p with
  |none=>rfl
  |some o=>rw [e _ _ g] at z;cases z),h.inj,h.len,λi d a=>let ⟨t,b,c⟩:=h.sh i d a;⟨t,b,c.up (VJ e)⟩,λi ds a=>let ⟨p,xs,b,c,d,f⟩:=h.ow i ds a;⟨p,xs,b,c,e _ _ d,f.up (VJ e)⟩⟩
def RS.viewAll (h:RS D G0 A τ ρ G) (fv:List Nat):CT fv D G τ ρ:=λi _ d hd=>by
 unfold vw at hd;obtain ⟨s,e,hd⟩:=obb hd;have less:Ex (rs (AD D A) G) (rs D G):=JT λb z=>.inl z;cases s with
 |un=>cases hd
 |sh d'=>
  cases hd;obtain ⟨t,b,c⟩:=h.sh i _ e;exact ⟨t,b,c.up less⟩
 |ow ds=>
  cases hd;obtain ⟨p,xs,b,c,g,f⟩:=h.ow i _ e;exact ⟨_,c,.lst (by rw [YA (h.nd b)];exact g) (f.up less)⟩
def RS.view (h:RS D G0 A τ ρ G) {fv:List Nat} (hn:∀ i∈fv,A i=none):CT fv (AD D A) G τ ρ:=λi hi d hd=>by
 unfold vw at hd;obtain ⟨s,e,hd⟩:=obb hd;cases s with
 |un=>cases hd
 |sh d'=>
  cases hd;exact h.sh i _ e
 |ow ds=>
  obtain ⟨p,xs,b,_⟩:=h.ow i _ e;rw [hn i hi] at b;cases b
def Sl.dem:Sl->Sl
 |.ow ds=>.sh (.list ds)
 |s=>s
def dm:List Bool->Rho->Rho
 |b::m,s::r=>(match b with|true=>s.dem|false=>s)::dm m r
 |_,r=>r
def mkb (m:List Bool) (i:Nat):Bool:=(m[i]?).getD false
def qbv:∀ (m:List Bool) (ρ:Rho) (i:Nat),(dm m ρ)[i]?=(ρ[i]?).map λs=>if mkb m i=true then s.dem else s
 |[],ρ,i=>by simp [dm,mkb]
 |b::m,[],i=>by simp [dm]
 |b::m,s::r,0=>by cases b<;>simp [dm,mkb]
 |b::m,s::r,i+1=>by
  have:=qbv m r i;simp only [dm,getElem?_cons_succ,mkb] at this ⊢;exact this
def qne (s:Sl):s.dem.d=s.d:=by cases s<;>rfl
def qmV (m:List Bool) (ρ:Rho) (i:Nat):vw (dm m ρ) i=vw ρ i:=by
 unfold vw;rw [qbv];cases ρ[i]? with
 |none=>rfl
 |some s=>
  simp only [Option.map_some,Option.bind_some];split
  ·exact qne s
  ·rfl
def qdM:∀ (m:List Bool) (ρ:Rho),(dm m ρ).length=ρ.length
 |[],ρ=>rfl
 |b::m,[]=>rfl
 |b::m,s::r=>by simp [dm,qdM m r]
def Ad (m:List Bool) (A:Nat->Option Addr):Nat->Option Addr:=λi=>if mkb m i=true then none else A i
def XU {m:List Bool} {i:Nat} {p:Addr} (h:Ad m A i=some p):A i=some p/\mkb m i=false:=by
 unfold Ad at h;split at h
 ·cases h
 ·rename_i n;exact ⟨h,by simpa using n⟩
def RS.dem (h:RS D G0 A τ ρ G) (m:List Bool):RS D G0 (Ad m A) τ (Pu.dm m ρ) G:=by
 have less:Ex (rs (AD D A) G) (rs (AD D (Ad m A)) G):=JT λb z=>by
  rcases z with z|⟨i,z⟩
  ·exact .inl z
  ·exact .inr ⟨i,(XU z).1⟩
 refine ⟨h.ex,h.dm,λi p e=>h.fr i p (XU e).1,λi p e=>h.da i p (XU e).1,λi j p a b=>h.inj i j p (XU a).1 (XU b).1,by rw [qdM];exact h.len,λi d e=>?_,λi ds e=>?_⟩
 ·rw [qbv] at e;obtain ⟨s,e1,e2⟩:=Option.map_eq_some_iff.mp e;cases s with
  |un=>split at e2<;>cases e2
  |sh d'=>
   have:d'=d:=by split at e2<;>(cases e2;rfl)
   subst this;obtain ⟨t,b,c⟩:=h.sh i _ e1;exact ⟨t,b,c.up less⟩
  |ow ds=>
   split at e2
   ·rename_i hm;cases e2;obtain ⟨p,xs,b,c,g,f⟩:=h.ow i _ e1;refine ⟨_,c,.lst ?_ (f.up less)⟩;rw [YA]
    ·exact g
    ·rintro (z|⟨j,z⟩)
     ·exact h.nd b z
     ·have:=h.inj i j p b (XU z).1;subst this;rw [(XU z).2] at hm;cases hm
   ·cases e2
 ·rw [qbv] at e;obtain ⟨s,e1,e2⟩:=Option.map_eq_some_iff.mp e;cases s with
  |un=>split at e2<;>cases e2
  |sh d'=>split at e2<;>cases e2
  |ow ds'=>
   split at e2
   ·cases e2
   ·rename_i hm;cases e2;obtain ⟨p,xs,b,c,g,f⟩:=h.ow i _ e1;exact ⟨p,xs,by unfold Ad;rw [if_neg hm];exact b,c,g,f.up less⟩
def RS.viewD (h:RS D G0 A τ ρ G) {m:List Bool} {fv:List Nat} (hm:Tru (fv.all (mkb m))):CT fv (AD D (Ad m A)) G τ ρ:=by
 have:=(h.dem m).view (fv:=fv) λi hi=>by unfold Ad;rw [if_pos (List.all_eq_true.mp hm.h i hi)]
 intro i hi d hd;exact this i hi d (by rw [qmV];exact hd)
def Er (A:Nat->Option Addr) (i:Nat):Nat->Option Addr:=λj=>if j=i then none else A j
def XY {i j:Nat} {p:Addr} (h:Er A i j=some p):A j=some p/\j≠i:=by
 unfold Er at h;split at h
 ·cases h
 ·rename_i n;exact ⟨h,n⟩
def RS.put (h:RS D G0 A τ ρ G) (i:Nat) {x:T} {d:PyData} (hx:Dq (rs (AD D A) G) x d):RS D G0 (Er A i) (τ.set i (some x)) (ρ.set i (.sh d)) G:=by
 have less:Ex (rs (AD D A) G) (rs (AD D (Er A i)) G):=JT λb z=>by
  rcases z with z|⟨j,z⟩
  ·exact .inl z
  ·exact .inr ⟨j,(XY z).1⟩
 refine ⟨h.ex,h.dm,λj p e=>h.fr j p (XY e).1,λj p e=>h.da j p (XY e).1,λj k p a b=>h.inj j k p (XY a).1 (XY b).1,by simp [h.len],λj e he=>?_,λj ds e=>?_⟩
 ·rw [getElem?_set] at he ⊢;split at he
  ·rename_i hj;rw [if_pos hj];split at he
   ·rename_i hl;cases he;exact ⟨x,by rw [if_pos (by rw [← h.len];exact hl)],hx.up less⟩
   ·cases he
  ·rename_i hj;rw [if_neg hj];obtain ⟨t,b,c⟩:=h.sh j _ he;exact ⟨t,b,c.up less⟩
 ·rw [getElem?_set] at e ⊢;split at e
  ·split at e<;>cases e
  ·rename_i hj;rw [if_neg hj];obtain ⟨p,xs,b,c,g,f⟩:=h.ow j _ e;exact ⟨p,xs,by unfold Er;rw [if_neg (λz=>hj z.symm)];exact b,c,g,f.up less⟩
def RS.puts:∀ {ts:List (Nat×T)} {bs:List (Nat×PyData)} {A:Nat->Option Addr} {τ:St3} {ρ:Rho},RS D G0 A τ ρ G->Bd (rs (AD D A) G) ts bs->∃ A',RS D G0 A' (sets τ ts) (D9 ρ bs) G
 |_,_,A,_,_,h,.nil=>⟨A,h⟩
 |_,_,A,_,_,h,.cons (i:=i) a b=>by
  unfold sets D9;exact RS.puts (h.put i a) (b.up (JT λb z=>by
   rcases z with z|⟨j,z⟩
   ·exact .inl z
   ·exact .inr ⟨j,(XY z).1⟩))
def RS.putN (h:RS D G0 A τ ρ G) (i:Nat) {x:T} {d:PyData} {ds:List PyData} (hd:d=.list ds) (E:Ex G G') (hx:Nw (AD D A) G G' x d):RS D G0 (λj=>if j=i then (match x with|.ref p=>some p|_=>none) else A j) (τ.set i (some x)) (ρ.set i (.ow ds)) G':=by
 rcases hx with hx|⟨p,xs,ds',rfl,e',gp,gp',hs⟩
 ·rw [hd] at hx;cases hx
 rw [hd] at e';cases e';have np:∀ {j q},A j=some q->q≠p:=λe=>by rintro rfl;exact h.da _ _ e gp
 have X1:Ex (rs (AD D A) G) (rs (AD D (λj=>if j=i then some p else A j)) G'):=λb o e=>by
  obtain ⟨n,e⟩:=zd e;rw [YA]
  ·exact E _ _ e
  ·rintro (z|⟨j,z⟩)
   ·exact n (.inl z)
   ·simp only at z;split at z
    ·cases z;rw [gp] at e;cases e
    ·exact n (.inr ⟨j,z⟩)
 refine ⟨h.ex.trans E,h.dm,λj q e=>?_,λj q e=>?_,λj k q a b=>?_,by simp [h.len],λj e he=>?_,λj es e=>?_⟩
 ·simp only at e;split at e
  ·cases e;cases z:G0 p with
   |none=>rfl
   |some o=>rw [h.ex _ _ z] at gp;cases gp
  ·exact h.fr j q e
 ·simp only at e;split at e
  ·cases e;rw [gp'];simp
  ·exact (h.up E).da j q e
 ·simp only at a b;split at a
  ·cases a;split at b
   ·rename_i h1 h2;rw [h1,h2]
   ·exact absurd rfl (np b)
  ·split at b
   ·cases b;exact absurd rfl (np a)
   ·exact h.inj j k q a b
 ·rw [getElem?_set] at he ⊢;split at he
  ·split at he<;>cases he
  ·rename_i hj;rw [if_neg hj];obtain ⟨t,b,c⟩:=h.sh j _ he;exact ⟨t,b,c.up X1⟩
 ·rw [getElem?_set] at e ⊢;split at e
  ·rename_i hj;subst hj;split at e
   ·rename_i hl;cases e;refine ⟨p,xs,by simp,by rw [if_pos rfl,if_pos (by rw [← h.len];exact hl)],gp',hs.up (JT λb z=>?_)⟩;rcases z with z|⟨j,z⟩
    ·exact .inl (.inl z)
    ·simp only at z;split at z
     ·cases z;exact .inr rfl
     ·exact .inl (.inr ⟨j,z⟩)
   ·cases e
  ·rename_i hj;rw [if_neg hj];obtain ⟨q,ys,b,c,g,f⟩:=h.ow j _ e;exact ⟨q,ys,by rw [if_neg (λz=>hj z.symm)];exact b,c,E _ _ g,f.up X1⟩
def RS.wr (h:RS D G0 A τ ρ G) {i:Nat} {p:Addr} {xs:List T} {ds:List PyData} (hi:A i=some p) (ht:τ[i]?=some (some (.ref p))) (hs:Dqs (rs (AD D A) G) xs ds):RS D G0 A τ (ρ.set i (.ow ds)) (gu G p (.lst xs)):=by
 have X1:Ex (rs (AD D A) G) (rs (AD D A) (gu G p (.lst xs))):=λb o e=>by
  obtain ⟨n,e⟩:=zd e;rw [YA n,ZW (by rintro rfl;exact n (.inr ⟨i,hi⟩))];exact e
 refine ⟨λb o e=>?_,h.dm,h.fr,λj q e=>?_,h.inj,by simp [h.len],λj e he=>?_,λj es e=>?_⟩
 ·rw [ZW (by rintro rfl;rw [h.fr i _ hi] at e;cases e)];exact h.ex _ _ e
 ·by_cases z:q=p
  ·subst z;rw [qL];simp
  ·rw [ZW z];exact h.da j q e
 ·rw [getElem?_set] at he;split at he
  ·split at he<;>cases he
  ·obtain ⟨t,b,c⟩:=h.sh j _ he;exact ⟨t,b,c.up X1⟩
 ·rw [getElem?_set] at e;split at e
  ·rename_i hj;subst hj;split at e
   ·cases e;exact ⟨p,xs,hi,ht,qL,hs.up X1⟩
   ·cases e
  ·rename_i hj;obtain ⟨q,ys,b,c,g,f⟩:=h.ow j _ e;exact ⟨q,ys,b,c,by rw [ZW (by rintro rfl;exact hj (h.inj i j _ hi b))];exact g,f.up X1⟩
def RS.base {Gb:Gp} (h:RS D Gb A τ ρ G) (e:Ex G0 Gb) (hd:Dom D G0):RS D G0 A τ ρ G:=
 ⟨e.trans h.ex,hd,(λi p a=>by
  cases z:G0 p with
  |none=>rfl
  |some o=>have:=h.fr i p a;rw [e _ _ z] at this;cases this),h.da,h.inj,h.len,h.sh,h.ow⟩
end
inductive Ot where
 |nx (ρ:Rho)|bk (ρ:Rho)|ct (ρ:Rho)|rt (d:PyData) (fr:Bool)
def qjI (D:Addr->Prop) (G0:Gp) (e:Ends3):Ot->Prop
 |.nx ρ=>∀ A τ G,RS D G0 A τ ρ G->e.nx τ G
 |.bk ρ=>∀ A τ G,RS D G0 A τ ρ G->e.bk τ G
 |.ct ρ=>∀ A τ G,RS D G0 A τ ρ G->e.ct τ G
 |.rt d fr=>∀ x G,Ex G0 G->Dq (rs D G) x d->(fr=true->Nw D G0 G x d)->e.rt x G
def qjI.base {D:Addr->Prop} {G0 Gb:Gp} {e:Ends3} {o:Ot} (h:qjI D G0 e o) (x:Ex G0 Gb) (hd:Dom D G0):qjI D Gb e o:=by
 cases o with
 |nx ρ=>exact λA τ G r=>h A τ G (r.base x hd)
 |bk ρ=>exact λA τ G r=>h A τ G (r.base x hd)
 |ct ρ=>exact λA τ G r=>h A τ G (r.base x hd)
 |rt d fr=>exact λy G a b c=>h y G (x.trans a) b λz=>(c z).back x
structure PuS (t:TS3) where
 f:Nat->Rho->Option Ot
 ok:∀ {D G0 A τ ρ G n o} {e:Ends3},RS D G0 A τ ρ G->f n ρ=some o->qjI D G0 e o->t e τ G
def j2:PuS qy:=⟨λ_ ρ=>some (.nx ρ),λh hf k=>by cases hf;exact k _ _ _ h⟩
def qlK (a b:Nat->Rho->Option Ot) (n:Nat) (ρ:Rho):Option Ot:=(a n ρ).bind λo=>match o with|.nx ρ'=>b n ρ'|o=>some o
def JP {t u:TS3} (a:PuS t) (b:PuS u):PuS (qH t u):=⟨qlK a.f b.f,λ{D G0 A τ ρ G n o e} h hf k=>by
 unfold qlK at hf;obtain ⟨o1,e1,hf⟩:=obb hf;refine a.ok h e1 ?_;cases o1 with
 |nx ρ'=>exact λA' τ' G' h'=>b.ok h' hf k
 |bk ρ'=>cases hf;exact k
 |ct ρ'=>cases hf;exact k
 |rt d fr=>cases hf;exact k⟩
def sIf {c:TT3} {t u:TS3} (pc:PuC c) (a:PuS t) (b:PuS u):PuS (zJ c t u):=⟨λn ρ=>(pc.f ρ).bind λk=>if k then a.f n ρ else b.f n ρ,λh hf k=>by
 obtain ⟨o1,e1,hf⟩:=obb hf;refine pc.ok (h.viewAll _) h.domD e1 λG1 E1=>?_;cases o1 with
 |true=>exact a.ok (h.up E1) hf k
 |false=>exact b.ok (h.up E1) hf k⟩
def JE {t:TE3} (a:PuE t):PuS (qV t):=⟨λ_ ρ=>(a.f ρ).map λd=>.rt d a.nw,λh hf k=>by
 obtain ⟨d,e1,rfl⟩:=Option.map_eq_some_iff.mp hf;exact a.ok (h.viewAll _) h.domD e1 λx G1 E1 D1 N1=>k x G1 (h.ex.trans E1) D1 λz=>(N1 z).back h.ex⟩
def qcQ:PyData->Bool
 |.none=>true|.bool _=>true|.int _=>true|.str _=>true|_=>false
def D7 {H H':Gp} {x:T} {d:PyData} (h:Dq H x d) (s:qcQ d=true):Dq H' x d:=by
 cases h<;>first|(constructor;done)|(simp [qcQ] at s;done)
def qpA:PyData->Sl
 |.list ds=>.ow ds
 |d=>.sh d
def TX (m:List Bool) (nw:Bool) (i:Nat) (d:PyData) (ρ:Rho):Rho:=if qcQ d then ρ.set i (.sh d) else (dm m ρ).set i (if nw then qpA d else .sh d)
def qg4 {t:TE3} (a:PuE t) (i:Nat) (m:List Bool) (hm:Tru (a.fv.all (mkb m))):PuS (zw t (gn3 i)):=⟨λ_ ρ=>(a.f ρ).map λd=>.nx (TX m a.nw i d ρ),λ{D G0 A τ ρ G n o e} h hf k=>by
 obtain ⟨d,e1,rfl⟩:=Option.map_eq_some_iff.mp hf;refine a.ok (h.viewD hm) (h.dem m).dom e1 λx G1 E1 D1 N1=>?_;unfold TX at k;show e.nx (τ.set i (some x)) G1;split at k
 ·rename_i hs;exact k _ _ _ ((h.up E1).put i (D7 D1 hs))
 ·split at k
  ·rename_i hn;have N:=N1 hn;rcases id N with h2|⟨p,xs,ds,h1,h2,_⟩
   ·subst h2;rename_i hs;exact absurd rfl hs
   subst h2;exact k _ _ _ ((h.dem m).putN i rfl E1 N)
  ·exact k _ _ _ (((h.dem m).up E1).put i D1)⟩
def TZ {t:TE3} {g:TG3} (a:PuE t) (pg:PuG g) (m:List Bool) (hm:Tru (a.fv.all (mkb m))):PuS (zw t g):=⟨λ_ ρ=>(a.f ρ).bind λd=>(pg.f d).map λbs=>.nx (D9 (dm m ρ) bs),λ{D G0 A τ ρ G n o e} h hf k=>by
 obtain ⟨d,e1,hf⟩:=obb hf;obtain ⟨bs,e2,rfl⟩:=Option.map_eq_some_iff.mp hf;refine a.ok (h.viewD hm) (h.dem m).dom e1 λx G1 E1 D1 N1=>?_;obtain ⟨ts,bd,kg⟩:=pg.ok D1 e2;refine kg _ _ _ ?_;obtain ⟨A',h'⟩:=((h.dem m).up E1).puts bd;exact k _ _ _ h'⟩
def qbT (i j:Nat) (m:List Bool) (ds:List PyData) (ρ:Rho):Option Ot:=match ds with
 |[d,e]=>if qcQ d&&qcQ e then some (.nx ((ρ.set i (.sh d)).set j (.sh e))) else some (.nx (((dm m ρ).set i (.sh d)).set j (.sh e)))
 |_=>none
def qgC {D:Addr->Prop} {A:Nat->Option Addr} {G:Gp} {i:Nat}:Ex (rs (AD D A) G) (rs (AD D (Er A i)) G):=JT λb z=>by
 rcases z with z|⟨j,z⟩
 ·exact .inl z
 ·exact .inr ⟨j,(XY z).1⟩
def qlX {t:TA3} (a:PuA t) (i j:Nat) (m:List Bool) (hm:Tru (a.fv.all (mkb m))):PuS (WD i j t):=⟨λ_ ρ=>(a.f ρ).bind λds=>qbT i j m ds ρ,λ{D G0 A τ ρ G n o e} h hf k=>by
 obtain ⟨ds,e1,hf⟩:=obb hf;refine a.ok (h.viewD hm) (h.dem m).dom e1 λx G1 E1 D1=>?_;unfold qbT at hf;split at hf
 ·cases D1 with
  |cons a b=>cases b with
   |cons b c=>
    cases c;split at hf
    ·rename_i hs;cases hf;rw [Bool.and_eq_true] at hs;exact k _ _ _ (((h.up E1).put i (D7 a hs.1)).put j (D7 b hs.2))
    ·cases hf;exact k _ _ _ ((((h.dem m).up E1).put i a).put j (b.up qgC))
 ·cases hf⟩
def slot (ρ:Rho) (i:Nat):Option (List PyData):=match ρ[i]? with|some (.ow ds)=>some ds|_=>none
def dmS (m:List Bool) (d:PyData) (ρ:Rho):Rho:=if qcQ d then ρ else dm m ρ
def RS.evalS {D:Addr->Prop} {G0 G:Gp} {A:Nat->Option Addr} {τ:St3} {ρ:Rho} (h:RS D G0 A τ ρ G) {t:TE3} (a:PuE t) (m:List Bool) (hm:Tru (a.fv.all (mkb m))) {d:PyData} (hf:a.f ρ=some d):∃ A1,RS D G0 A1 τ (dmS m d ρ) G/\∀ q:Q3,(∀ x G',Ex G G'->Dq (rs (AD D A1) G') x d->q x G')->t τ G q:=by
 unfold dmS;by_cases hs:qcQ d=true
 ·rw [if_pos hs];exact ⟨A,h,λq k=>a.ok (h.viewAll _) h.domD hf λx G1 E1 D1 _=>k x G1 E1 (D7 D1 hs)⟩
 ·rw [if_neg hs];exact ⟨Ad m A,h.dem m,λq k=>a.ok (h.viewD hm) (h.dem m).dom hf λx G1 E1 D1 _=>k x G1 E1 D1⟩
def qak (gf:PyData->Option (List (Nat×PyData))) (bf:Rho->Option Ot):List PyData->Rho->Option Ot
 |[],ρ=>some (.nx ρ)
 |d::r,ρ=>(gf d).bind λbs=>(bf (D9 ρ bs)).bind λo=>match o with
  |.nx ρ'=>qak gf bf r ρ'
  |.ct ρ'=>qak gf bf r ρ'
  |.bk ρ'=>some (.nx ρ')
  |.rt d b=>some (.rt d b)
def MH {stay:Gp->Prop} {g:TG3} {tb:TS3} {e:Ends3} (pg:PuG g) (pb:PuS tb) {D:Addr->Prop} {G0:Gp} {n:Nat} {o:Ot} {items0:List T} (hs:∀ A τ ρ G,RS D G0 A τ ρ G->stay G) (k:qjI D G0 e o) :
  ∀ (ds:List PyData) (items:List T),(∀ A τ ρ G,RS D G0 A τ ρ G->Dqs (rs (AD D A) G) items ds)->∀ A τ ρ G,RS D G0 A τ ρ G->qak pg.f (pb.f n) ds ρ=some o->RX stay g tb e items τ G
 |[],items,hi,A,τ,ρ,G,h,hf=>by
  cases hf;have:=hi _ _ _ _ h;cases this;exact ⟨hs _ _ _ _ h,k _ _ _ h⟩
 |d::ds,items,hi,A,τ,ρ,G,h,hf=>by
  have hh:=hi _ _ _ _ h;cases hh with
  |cons hx hr=>
   rename_i x items;unfold qak at hf;obtain ⟨bs,e1,hf⟩:=obb hf;obtain ⟨o1,e2,hf⟩:=obb hf;obtain ⟨ts,bd,kg⟩:=pg.ok hx e1;refine ⟨hs _ _ _ _ h,kg _ _ _ ?_⟩;obtain ⟨A',h'⟩:=h.puts bd;refine pb.ok h' e2 ?_;have hi':∀ A τ ρ G,RS D G0 A τ ρ G->Dqs (rs (AD D A) G) items ds:=λA τ ρ G h=>by
    have:=hi _ _ _ _ h;cases this with
    |cons a b=>exact b
   cases o1 with
   |nx ρ'=>exact λA2 τ2 G2 h2=>MH (items0:=items0) pg pb hs k ds items hi' _ _ _ _ h2 hf
   |ct ρ'=>exact λA2 τ2 G2 h2=>MH (items0:=items0) pg pb hs k ds items hi' _ _ _ _ h2 hf
   |bk ρ'=>cases hf;exact k
   |rt d fr=>cases hf;exact k
def qlQ (pi:Rho->Option (List PyData)) (nm:Bool) (m:List Bool) (gf:PyData->Option (List (Nat×PyData))) (bf:Nat->Rho->Option Ot) (n:Nat) (ρ:Rho):Option Ot:=(pi ρ).bind λds=>qak gf (bf n) ds (if nm then ρ else dm m ρ)
def qor {wi:TI3} {g:TG3} {tb:TS3} (pi:PuI wi) (pg:PuG g) (pb:PuS tb) (m:List Bool) (hm:Tru (pi.fv.all (mkb m))):PuS (LK wi g tb):=⟨qlQ pi.f pi.nm m pg.f pb.f,λ{D G0 A τ ρ G n o e} h hf k=>by
 unfold qlQ at hf;obtain ⟨ds,e1,hf⟩:=obb hf;refine pi.ok (h.viewD hm) (h.dem m).dom e1 λitems stay G1 E1 D1 hs hnm=>?_;cases hb:pi.nm with
 |true=>
  rw [hb,if_pos rfl] at hf;obtain ⟨ns,rfl⟩:=hnm hb;have:=D1.ints;subst this;exact MH (items0:=[]) pg pb (λ_ _ _ _ _=>hs _ (.inl hb)) k _ _ (λA τ ρ G _=>Dqs.ofInts _) _ _ _ _ (h.up E1) hf
 |false=>
  rw [hb,if_neg Bool.false_ne_true] at hf;have h1:=(h.dem m).up E1;have b1:Ex G0 (rs (λb=>∃ i,Ad m A i=some b) G1):=λb o e=>by
   rw [YA]
   ·exact h1.ex _ _ e
   ·rintro ⟨i,z⟩;rw [h1.fr i _ z] at e;cases e
  have h2:RS D (rs (λb=>∃ i,Ad m A i=some b) G1) (Ad m A) τ (dm m ρ) G1:=⟨DA,h.dm.up b1,λi p z=>by unfold rs;exact zn ⟨i,z⟩,h1.da,h1.inj,h1.len,h1.sh,h1.ow⟩
  have X:∀ A2 τ2 ρ2 G2,RS D (rs (λb=>∃ i,Ad m A i=some b) G1) A2 τ2 ρ2 G2->Ex (rs (AD D (Ad m A)) G1) (rs (AD D A2) G2):=λA2 τ2 ρ2 G2 r b o e=>by
   obtain ⟨n1,e⟩:=zd e;have eb:rs (λb=>∃ i,Ad m A i=some b) G1 b=some o:=by rw [YA (λz=>n1 (.inr z))];exact e
   rw [YA]
   ·exact r.ex _ _ eb
   ·rintro (z|⟨i,z⟩)
    ·exact n1 (.inl z)
    ·rw [r.fr i _ z] at eb;cases eb
  exact MH (items0:=[]) pg pb (λA2 τ2 ρ2 G2 r=>hs _ (.inr ((X _ _ _ _ r).trans DA))) (k.base b1 h.dm) _ _ (λA2 τ2 ρ2 G2 r=>D1.up (X _ _ _ _ r)) _ _ _ _ h2 hf⟩
def whP (cf:Rho->Option Bool) (bf:Rho->Option Ot):Nat->Rho->Option Ot
 |0,_=>none
 |n+1,ρ=>(cf ρ).bind λk=>if k then (bf ρ).bind λo=>match o with
   |.nx ρ'=>whP cf bf n ρ'
   |.ct ρ'=>whP cf bf n ρ'
   |.bk ρ'=>some (.nx ρ')
   |.rt d b=>some (.rt d b)
  else some (.nx ρ)
def sWh {c:TT3} {tb:TS3} (pc:PuC c) (pb:PuS tb):PuS (C6 c tb):=⟨λn ρ=>whP pc.f (pb.f n) n ρ,λ{D G0 A τ ρ G n o e} h hf k=>by
 refine ⟨λm τ G=>∃ A ρ,RS D G0 A τ ρ G/\whP pc.f (pb.f n) m ρ=some o,⟨n,A,ρ,h,hf⟩,?_⟩;rintro m τ G ⟨A,ρ,h,hf⟩;cases m with
 |zero=>cases hf
 |succ m=>
  unfold whP at hf;obtain ⟨b,e1,hf⟩:=obb hf;refine pc.ok (h.viewAll _) h.domD e1 λG1 E1=>?_;cases b with
  |true=>
   rw [if_pos rfl] at hf ⊢;obtain ⟨o1,e2,hf⟩:=obb hf;cases o1 with
   |nx ρ'=>exact ⟨λτ' G'=>∃ A',RS D G0 A' τ' ρ' G',λτ' G' ⟨A',h'⟩=>⟨m,by omega,A',ρ',h',hf⟩,pb.ok (h.up E1) e2 λA' τ' G' h'=>⟨A',h'⟩⟩
   |ct ρ'=>exact ⟨λτ' G'=>∃ A',RS D G0 A' τ' ρ' G',λτ' G' ⟨A',h'⟩=>⟨m,by omega,A',ρ',h',hf⟩,pb.ok (h.up E1) e2 λA' τ' G' h'=>⟨A',h'⟩⟩
   |bk ρ'=>cases hf;exact ⟨λ_ _=>False,λ_ _ z=>z.elim,pb.ok (h.up E1) e2 k⟩
   |rt d fr=>cases hf;exact ⟨λ_ _=>False,λ_ _ z=>z.elim,pb.ok (h.up E1) e2 k⟩
  |false=>
   cases hf;rw [if_neg Bool.false_ne_true];exact k _ _ _ (h.up E1)⟩
def X0 (fr:Bool):Option Ot->Option PyData
 |some (.rt d b)=>if fr=true/\b=false then (match d with|.none=>some .none|_=>none) else some d
 |some (.nx _)=>if fr then none else some .none
 |_=>none
def st (ds:List PyData) (N:Nat):Rho:=ds.map Sl.sh++List.replicate (N-ds.length) .un
def run (f:Nat->Rho->Option Ot) (k N n:Nat) (fr:Bool) (ds:List PyData):Option PyData:=if ds.length=k then X0 fr (f n (st ds N)) else none
def jv {t:TS3} (b:PuS t) (N:List Str) (k n:Nat) (fr:Bool):∀ ts G q,PSp (run b.f k N.length n fr) fr ts G q->ts.length=k/\t { nx:=λ_ G'=>q .non G',rt:=q } (qt N ts) G:=by
 rintro ts G q ⟨D,ds,d,hs,hd,hf,h⟩;unfold run at hf;split at hf
 ·rename_i hk;refine ⟨by rw [hs.length];exact hk,?_⟩;have r:RS D G (λ_=>none) (qt N ts) (st ds N.length) G:=by
   refine ⟨Ex.refl,hd,(λi p e=>by cases e),(λi p e=>by cases e),(λi j p e=>by cases e),(by simp [st,qt,hs.length]),λi d' e=>?_,λi es e=>?_⟩
   ·unfold st at e;unfold qt;by_cases hi:i<ds.length
    ·rw [List.getElem?_append_left (by simpa using hi),getElem?_map] at e;obtain ⟨d2,e3,e4⟩:=Option.map_eq_some_iff.mp e;cases e4;obtain ⟨x,e5,hx⟩:=hs.get e3;refine ⟨x,?_,hx.up (JT λb z=>?_)⟩
     ·rw [List.getElem?_append_left (by simp [hs.length];exact hi),getElem?_map,e5];rfl
     ·rcases z with z|⟨i,z⟩
      ·exact z
      ·cases z
    ·rw [List.getElem?_append_right (by simpa using hi),List.getElem?_replicate] at e;split at e<;>cases e
   ·unfold st at e;by_cases hi:i<ds.length
    ·rw [List.getElem?_append_left (by simpa using hi),getElem?_map] at e;obtain ⟨d2,e3,e4⟩:=Option.map_eq_some_iff.mp e;cases e4
    ·rw [List.getElem?_append_right (by simpa using hi),List.getElem?_replicate] at e;split at e<;>cases e
  unfold X0 at hf;split at hf
  ·rename_i d' b' e;split at hf
   ·split at hf
    ·cases hf;exact b.ok r e λx G' a c z=>h x G' a c λ_=>.inl rfl
    ·cases hf
   ·rename_i hb;cases hf;exact b.ok r e λx G' a c z=>h x G' a c λw=>z (by
     cases b' with
     |true=>rfl
     |false=>exact absurd ⟨w,rfl⟩ hb)
  ·rename_i ρ' e;split at hf
   ·cases hf
   ·rename_i hb;cases hf;exact b.ok r e λA τ G' r'=>h .non G' r'.ex .non λw=>absurd w hb
  ·cases hf
 ·cases hf
def qcW {fr:Bool}:∀ ts G q,PSp (λ_=>none) fr ts G q->False:=λts G q ⟨_,_,_,_,_,h,_⟩=>by cases h
def Fn3.pz {P:Program} {w:World} {K:Frg} {mg:Str->Option Value} {base:Heap} {k:Nat} {x:Str} {sp:Sp3} (F:Fn3 P w K mg base k x sp) (fr:Bool):Fn3 P w K mg base k x (PSp (λ_=>none) fr):=F.imp λts G q h=>(qcW ts G q h).elim
def qoq {i:Nat}:(bV i).f=λρ=>vw ρ i:=id rfl
def qdt {i:Int}:(qw i).f=λ_=>some (.int i):=id rfl
def qie {i:Bool}:(bBl i).f=λ_=>some (.bool i):=id rfl
def qeA {i:Str}:(U3 i).f=λ_=>some (.str i):=id rfl
def qd9:qkq.f=λ_=>some .none:=id rfl
def qot {r:R3} {ta tb:TE3} {R:OpD r} {a:PuE ta} {b:PuE tb}:(bO R a b).f=λρ=>(a.f ρ).bind λx=>(b.f ρ).bind λy=>R.f x y:=id rfl
def qc2:qE.f=λ_=>some []:=id rfl
def qaB {ta:TE3} {tr:TA3} {a:PuE ta} {r:PuA tr}:(qg a r).f=λρ=>(a.f ρ).bind λx=>(r.f ρ).bind λxs=>some (x::xs):=id rfl
def qdo {t:TA3} {a:PuA t} {hn:Tru (Nat.ble a.n 1000)}:(WM a hn).f=λρ=>(a.f ρ).map .tuple:=id rfl
def qer {t:TA3} {a:PuA t} {hn:Tru (Nat.ble a.n 1000)}:(qaC a hn).f=λρ=>(a.f ρ).map .list:=id rfl
def N2 {r:List T->Gp->Q3->Prop} {t:TA3} {R:FnD r} {a:PuA t}:(qv R a).f=λρ=>(a.f ρ).bind R.f:=id rfl
def qj2 {t:TE3} {a:PuE t}:(bTb a).f=λρ=>(a.f ρ).bind asB:=id rfl
def qdu {t u:TT3} {a:PuC t} {b:PuC u}:(qej a b).f=λρ=>(a.f ρ).bind λk=>if k then b.f ρ else some false:=id rfl
def qkp {t u:TT3} {a:PuC t} {b:PuC u}:(bOr a b).f=λρ=>(a.f ρ).bind λk=>if k then some true else b.f ρ:=id rfl
def qeG {t:TT3} {a:PuC t}:(WG a).f=λρ=>(a.f ρ).map (! ·):=id rfl
def qky:bTt.f=λ_=>some true:=id rfl
def qbN {ta tb:TE3} {a:PuE ta} {b:PuE tb}:(ZQ a b).f=λρ=>((a.f ρ).bind asB).bind λk=>if k then b.f ρ else some (.bool false):=id rfl
def qbn {ta:TE3} {a:PuE ta}:(qgp a).f=λρ=>((a.f ρ).bind asB).map λk=>.bool (!k):=id rfl
def qhp {t:TT3} {ta tb:TE3} {c:PuC t} {a:PuE ta} {b:PuE tb}:(bIf c a b).f=λρ=>(c.f ρ).bind λk=>if k then a.f ρ else b.f ρ:=id rfl
def qd2 {ta:TE3} {a:PuE ta}:(qln a).f=λρ=>((a.f ρ).bind asI).map λi=>.int (-i):=id rfl
def qdr {ta:TE3} {a:PuE ta}:(qok a).f=λρ=>((a.f ρ).bind asI).map λi=>.int (Builtin.Int.intBits i):=id rfl
def qey {ta:TE3} {g:String->Bool} {a:PuE ta}:(WT g a).f=λρ=>(a.f ρ).bind λd=>(tyD d).map λt=>.bool (g t):=id rfl
def qi7:bNp.f=λ_=>some none:=id rfl
def qio {t:TE3} {a:PuE t}:(bSp a).f=λρ=>((a.f ρ).bind asI).map some:=id rfl
def qiS {te:TE3} {tl th:TO3} {a:PuE te} {l:PuO tl} {h:PuO th}:(bSl a l h).f=λρ=>(a.f ρ).bind λd=>(l.f ρ).bind λlo=>(h.f ρ).bind λhi=>slD d lo hi:=id rfl
def qhc {wi:TI3} {g:TG3} {tif:TT3} {te:TE3} {pi:PuI wi} {pg:PuG g} {pc:PuC tif} {pe:PuE te} {m:List (Option Nat)} {hm:Tru (pg.tg.all λi=>m[i]?==some none)}:(bLc pi pg pc pe m hm).f=lcF pi.f (lcH pg.f pc.f pe.f) m:=id rfl
def qds:DZ.f=qgF:=id rfl
def qdN:qon.f=qh6:=id rfl
def qem:qoz.f=qg2:=id rfl
def qeJ:qnH.f=qlJ:=id rfl
def qdc:qmZ.f=qlE:=id rfl
def qea:qnY.f=qlV:=id rfl
def qeO:qbu.f=qjk:=id rfl
def qbx {F:List PyData->Option PyData} {fr:Bool}:(zS F fr).f=F:=id rfl
def qk1 {g:Int->Int->Int} {i j:Int}:(opI g).f (.int i) (.int j)=some (.int (g i j)):=id rfl
def qjt {g:Int->Int->Bool} {i j:Int}:(opB g).f (.int i) (.int j)=some (.bool (g i j)):=id rfl
def qkR {C:Int->Int->Prop} {g:Int->Int->Int}:(opC C g).f=cI C g:=id rfl
def qdb {n:Bool}:(ZN n).f=eqD n:=id rfl
def qeI {n:Bool}:(qog n).f=inD n:=id rfl
def qd4:jF.f=ixD:=id rfl
def qbF:qbK.f=qlI:=id rfl
def qdW {t:TE3} {a:PuE t}:(qbS a).f=λρ=>(a.f ρ).bind LZ:=id rfl
def qeR {t:TA3} {a:PuA t}:(qlR a).f=λρ=>(a.f ρ).bind qhJ:=id rfl
def qc5 {t:TA3} {a:PuA t}:(qoF a).f=λρ=>(a.f ρ).bind λds=>match ds with|[d,e]=>(LZ d).bind λus=>(LZ e).bind λvs=>some (qkW us vs)|_=>none:=id rfl
def qal {t:TA3} {a:PuA t}:(qlR a).nm=true:=id rfl
def qos {i:Nat}:(gN i).f=λd=>some [(i,d)]:=id rfl
def qeu:qbO.f []=some []:=id rfl
def qaq {t:TG3} {u:TY} {a:PuG t} {b:PuGs u} {d:PyData} {r:List PyData}:(QZ a b).f (d::r)=(a.f d).bind λx=>(b.f r).map λy=>x++y:=id rfl
def qdl {u:TY} {n:Nat} {b:PuGs u} {ds:List PyData}:(qae n b).f (.tuple ds)=if ds.length=n then b.f ds else none:=id rfl
def qaS:j2.f=λ_ ρ=>some (.nx ρ):=id rfl
def qdP {t u:TS3} {a:PuS t} {b:PuS u}:(JP a b).f=qlK a.f b.f:=id rfl
def qhD {c:TT3} {t u:TS3} {pc:PuC c} {a:PuS t} {b:PuS u}:(sIf pc a b).f=λn ρ=>(pc.f ρ).bind λk=>if k then a.f n ρ else b.f n ρ:=id rfl
def qda {t:TE3} {a:PuE t}:(JE a).f=λ_ ρ=>(a.f ρ).map λd=>.rt d a.nw:=id rfl
def qdx {t:TE3} {a:PuE t} {i:Nat} {m:List Bool} {hm:Tru (a.fv.all (mkb m))}:(qg4 a i m hm).f=λ_ ρ=>(a.f ρ).map λd=>.nx (TX m a.nw i d ρ):=id rfl
def qaD {t:TE3} {g:TG3} {a:PuE t} {pg:PuG g} {m:List Bool} {hm:Tru (a.fv.all (mkb m))}:(TZ a pg m hm).f=λ_ ρ=>(a.f ρ).bind λd=>(pg.f d).map λbs=>.nx (D9 (dm m ρ) bs):=id rfl
def qd3 {t:TA3} {a:PuA t} {i j:Nat} {m:List Bool} {hm:Tru (a.fv.all (mkb m))}:(qlX a i j m hm).f=λ_ ρ=>(a.f ρ).bind λds=>qbT i j m ds ρ:=id rfl
def qdG {wi:TI3} {g:TG3} {tb:TS3} {pi:PuI wi} {pg:PuG g} {pb:PuS tb} {m:List Bool} {hm:Tru (pi.fv.all (mkb m))}:(qor pi pg pb m hm).f=qlQ pi.f pi.nm m pg.f pb.f:=id rfl
def qhu {c:TT3} {tb:TS3} {pc:PuC c} {pb:PuS tb}:(sWh pc pb).f=λn ρ=>whP pc.f (pb.f n) n ρ:=id rfl
def qaP {i:Int}:(qw i).nw=false:=id rfl
def qec {i:Bool}:(bBl i).nw=false:=id rfl
def qbs {i:Str}:(U3 i).nw=false:=id rfl
def qlg {r:R3} {ta tb:TE3} {R:OpD r} {a:PuE ta} {b:PuE tb}:(bO R a b).nw=R.nw:=id rfl
def qbM {t:TA3} {a:PuA t} {hn:Tru (Nat.ble a.n 1000)}:(WM a hn).nw=false:=id rfl
def qah {t:TA3} {a:PuA t} {hn:Tru (Nat.ble a.n 1000)}:(qaC a hn).nw=true:=id rfl
def LX {r:List T->Gp->Q3->Prop} {t:TA3} {R:FnD r} {a:PuA t}:(qv R a).nw=R.nw:=id rfl
def LJ {F:List PyData->Option PyData} {fr:Bool}:(zS F fr).nw=fr:=id rfl
def ML {ta tb:TE3} {a:PuE ta} {b:PuE tb}:(ZQ a b).nw=false:=id rfl
def qeM {t:TT3} {ta tb:TE3} {c:PuC t} {a:PuE ta} {b:PuE tb}:(bIf c a b).nw=false:=id rfl
def qdw {te:TE3} {tl th:TO3} {a:PuE te} {l:PuO tl} {h:PuO th}:(bSl a l h).nw=false:=id rfl
def N5:qmZ.nw=false:=id rfl
def qbl:qbu.nw=false:=id rfl
def qaL:qnY.nw=true:=id rfl
def qbw:jF.nw=false:=id rfl
def qbB {n:Bool}:(ZN n).nw=false:=id rfl
def qdI {C:Int->Int->Prop} {g:Int->Int->Int}:(opC C g).nw=false:=id rfl
def qn5 {s:Sl} {r:Rho}:vw (s::r) 0=s.d:=id rfl
def qof {s:Sl} {r:Rho} {i:Nat}:vw (s::r) (i+1)=vw r i:=id rfl
def qjT {d:PyData}:(Sl.sh d).d=some d:=id rfl
def qig {ds:List PyData}:(Sl.ow ds).d=some (.list ds):=id rfl
def qeZ {xs:List PyData} {i:Int}:ixD (.tuple xs) (.int i)=L2.atI xs i:=id rfl
def qg7 {xs:List PyData} {i:Int}:ixD (.list xs) (.int i)=L2.atI xs i:=id rfl
def at0 {α:Type} {a:α} {r:List α}:L2.atI (a::r) 0=some a:=by simp [L2.atI,ixN]
def at1 {α:Type} {a b:α} {r:List α}:L2.atI (a::b::r) 1=some b:=by
 have h:ixN (a::b::r).length 1=some 1:=by unfold ixN;rw [if_pos (by omega),if_pos (by simp;omega)];rfl
 unfold L2.atI;rw [h];rfl
def at2 {α:Type} {a b c:α} {r:List α}:L2.atI (a::b::c::r) 2=some c:=by
 have h:ixN (a::b::c::r).length 2=some 2:=by unfold ixN;rw [if_pos (by omega),if_pos (by simp;omega)];rfl
 unfold L2.atI;rw [h];rfl
def at3 {α:Type} {a b c d:α} {r:List α}:L2.atI (a::b::c::d::r) 3=some d:=by
 have h:ixN (a::b::c::d::r).length 3=some 3:=by unfold ixN;rw [if_pos (by omega),if_pos (by simp;omega)];rfl
 unfold L2.atI;rw [h];rfl
def atN {α:Type} {xs:List α} {k:Nat} (h:k<xs.length):L2.atI xs (k:Int)=xs[k]?:=by
 have e:ixN xs.length (k:Int)=some k:=by unfold ixN;rw [if_pos (by omega),if_pos (by omega)];rfl
 unfold L2.atI;rw [e];rfl
def eqS {n:Bool} {a b:Str}:eqD n (.str a) (.str b)=some (.bool (if n then !decide (a=b) else decide (a=b))):=id rfl
def eqI {n:Bool} {a b:Int}:eqD n (.int a) (.int b)=some (.bool (if n then !decide (a=b) else decide (a=b))):=id rfl
def eqB {n:Bool} {a b:Bool}:eqD n (.bool a) (.bool b)=some (.bool (if n then !decide (a=b) else decide (a=b))):=id rfl
def qby {C:Int->Int->Prop} {g:Int->Int->Int} {i j:Int} (h:C i j):cI C g (.int i) (.int j)=some (.int (g i j)):=by simp only [cI];exact zn h
def qhT {i j:Int} (h:-1000000<j/\j<1000000):cI V9 (·*·) (.int i) (.int j)=some (.int (i*j)):=qby (.inr ⟨by omega,by omega⟩)
def R4 {i j:Int} (h:-1000000<i/\i<1000000):cI V9 (·*·) (.int i) (.int j)=some (.int (i*j)):=qby (.inl ⟨by omega,by omega⟩)
def qjY {i j:Int} (h:0<j):cI (λ_ j=>0<j) (·%·) (.int i) (.int j)=some (.int (i%j)):=qby h
def qjC {i j:Int} (h:0<=j/\j<=1000000/\i.natAbs<2 ^ 64):cI TW (λi j=>i*2 ^ j.toNat) (.int i) (.int j)=some (.int (i*2 ^ j.toNat)):=qby h
def qop {i j:Int}:qlI (.int i) (.int j)=some (.int (i+j)):=id rfl
def qn1 {j:Int} (h:-1000000000<=j/\j<1000000000):qhJ [.int j]=some ((qcB 0 j.toNat).map PyData.int):=by simp only [qhJ];exact zn ⟨by omega,by omega⟩
def UH {pi:Rho->Option (List PyData)} {h:Rho->PyData->Option (Option PyData)} {m:List (Option Nat)} {ρ:Rho} {ds fs:List PyData} (h1:pi ρ=some ds) (h2:lcP (h (NH m ρ)) ds=some fs) (h3:fs.length<=16777216):lcF pi h m ρ=some (.list fs):=by unfold lcF;rw [h1];simp only [Option.bind_some,h2];exact zn h3
def qcR {gf:PyData->Option (List (Nat×PyData))} {bf:Rho->Option Ot} {α:Type} {g:α->PyData} (xs:List α) (I:Nat->Rho->Prop) {ρ:Rho} (h0:I 0 ρ)
  (hs:∀ i x ρ,xs[i]?=some x->I i ρ->∃ bs ρ',gf (g x)=some bs/\(bf (D9 ρ bs)=some (.nx ρ')\/bf (D9 ρ bs)=some (.ct ρ'))/\I (i+1) ρ'):∃ ρ',qak gf bf (xs.map g) ρ=some (.nx ρ')/\I xs.length ρ':=by
 have key:∀ (r:List α) (i:Nat) (ρ:Rho),xs.drop i=r->i<=xs.length->I i ρ->∃ ρ',qak gf bf (r.map g) ρ=some (.nx ρ')/\I xs.length ρ':=by
  intro r;induction r with
  |nil=>
   intro i ρ e hi h;have:i=xs.length:=by
    have:=congrArg List.length e;simp at this;omega
   subst this;exact ⟨ρ,rfl,h⟩
  |cons x r ih=>
   intro i ρ e hi h;have hl:i<xs.length:=by
    have:=congrArg List.length e;simp at this;omega
   have e':=List.drop_eq_getElem_cons hl;rw [e] at e';injection e' with e1 e2;obtain ⟨bs,ρ',h1,h2,h3⟩:=hs i x ρ (by rw [getElem?_eq_getElem hl,e1]) h;obtain ⟨ρ2,h4,h5⟩:=ih (i+1) ρ' e2.symm hl h3;refine ⟨ρ2,?_,h5⟩;simp only [map_cons,qak,h1,Option.bind_some];rcases h2 with h2|h2<;>(rw [h2];exact h4)
 exact key xs 0 ρ (by simp) (Nat.zero_le _) h0
def sqk (b:Nat->Rho->Option Ot) (n:Nat) (o:Ot):Option Ot:=match o with|.nx ρ'=>b n ρ'|o=>some o
def qc4 {a b:Nat->Rho->Option Ot} {n:Nat} {ρ:Rho}:qlK a b n ρ=(a n ρ).bind (sqk b n):=id rfl
def qef {b:Nat->Rho->Option Ot} {n:Nat} {ρ:Rho}:sqk b n (.nx ρ)=b n ρ:=id rfl
def qdY {b:Nat->Rho->Option Ot} {n:Nat} {d:PyData} {f:Bool}:sqk b n (.rt d f)=some (.rt d f):=id rfl
def qd1 {d:PyData} {b:Bool}:X0 false (some (.rt d b))=some d:=by simp [X0]
def qka {b:Bool}:asB (.bool b)=some b:=id rfl
def qkd {b:Int}:asI (.int b)=some b:=id rfl
def qc9 {xs:List PyData}:qgF [.tuple xs]=some (.int xs.length):=id rfl
def qc0 {xs:List PyData}:qgF [.list xs]=some (.int xs.length):=id rfl
def qbk {i j:Int}:qh6 [.int i,.int j]=some (.int (if j<i then j else i)):=id rfl
def MB {i j:Int}:qg2 [.int i,.int j]=some (.int (if j > i then j else i)):=id rfl
def qdA {i:Bool}:qlJ [.bool i]=some (.int (if i then 1 else 0)):=id rfl
def qdD {xs:List PyData}:qlE [.list xs]=some (.tuple xs):=id rfl
def qeF {xs:List PyData}:qlV [.tuple xs]=some (.list xs):=id rfl
def VH {xs:List Bool}:qjk [.list (xs.map PyData.bool)]=some (.bool (xs.all id)):=by simp only [qjk,qcz,Option.map_some]
def qeN {xs:List PyData}:LZ (.tuple xs)=some xs:=id rfl
def qjp {i:Int}:tyD (.int i)=some "int" := id rfl
def qkm {i:Bool}:tyD (.bool i)=some "bool" := id rfl
def qkl:tyD .none=some "NoneType" := id rfl
def qks {i:Str}:tyD (.str i)=some "str" := id rfl
def qlr {i:List PyData}:tyD (.tuple i)=some "tuple" := id rfl
def qkK {i:List PyData}:tyD (.list i)=some "list" := id rfl
def qhh {m:List Bool} {nw:Bool} {i:Nat} {v:Int} {ρ:Rho}:TX m nw i (.int v) ρ=ρ.set i (.sh (.int v)):=id rfl
def qhN {m:List Bool} {nw:Bool} {i:Nat} {v:Bool} {ρ:Rho}:TX m nw i (.bool v) ρ=ρ.set i (.sh (.bool v)):=id rfl
def qhP {m:List Bool} {nw:Bool} {i:Nat} {v:Str} {ρ:Rho}:TX m nw i (.str v) ρ=ρ.set i (.sh (.str v)):=id rfl
def qhi {m:List Bool} {nw:Bool} {i:Nat} {ρ:Rho}:TX m nw i .none ρ=ρ.set i (.sh .none):=id rfl
def qfg {m:List Bool} {nw:Bool} {i:Nat} {v:List PyData} {ρ:Rho}:TX m nw i (.tuple v) ρ=(dm m ρ).set i (.sh (.tuple v)):=by cases nw<;>rfl
def qdi {m:List Bool} {i:Nat} {v:List PyData} {ρ:Rho}:TX m true i (.list v) ρ=(dm m ρ).set i (.ow v):=id rfl
def qeV {m:List Bool} {i:Nat} {v:List PyData} {ρ:Rho}:TX m false i (.list v) ρ=(dm m ρ).set i (.sh (.list v)):=id rfl
def qov {ρ:Rho}:dm [] ρ=ρ:=id rfl
def qoE {m:List Bool} {s:Sl} {ρ:Rho}:dm (true::m) (s::ρ)=s.dem::dm m ρ:=id rfl
def qou {m:List Bool} {s:Sl} {ρ:Rho}:dm (false::m) (s::ρ)=s::dm m ρ:=id rfl
def qh4 {d:PyData}:(Sl.sh d).dem=.sh d:=id rfl
def qlp {ρ:Rho}:NH [] ρ=[]:=id rfl
def qj8 {m:List (Option Nat)} {ρ:Rho}:NH (none::m) ρ=.un::NH m ρ:=id rfl
def cp (o:Option PyData):Sl:=match o with|some d=>.sh d|none=>.un
def qhK {m:List (Option Nat)} {j:Nat} {ρ:Rho}:NH (some j::m) ρ=cp (vw ρ j)::NH m ρ:=id rfl
def qox {d:PyData}:cp (some d)=.sh d:=id rfl
def qhg {i j:Nat} {m:List Bool} {x y:Int} {ρ:Rho}:qbT i j m [.int x,.int y] ρ=some (.nx ((ρ.set i (.sh (.int x))).set j (.sh (.int y)))):=id rfl
def qed {pi:Rho->Option (List PyData)} {m:List Bool} {gf:PyData->Option (List (Nat×PyData))} {bf:Nat->Rho->Option Ot} {n:Nat} {ρ:Rho}:qlQ pi true m gf bf n ρ=(pi ρ).bind λds=>qak gf (bf n) ds ρ:=id rfl
def qeS {ρ:Rho}:D9 ρ []=ρ:=id rfl
def qdF {ρ:Rho} {i:Nat} {d:PyData} {r:List (Nat×PyData)}:D9 ρ ((i,d)::r)=D9 (ρ.set i (.sh d)) r:=id rfl
def WB {gf:PyData->Option (List (Nat×PyData))} {cf:Rho->Option Bool} {ef:Rho->Option PyData} {ρ:Rho} {d:PyData}:lcH gf cf ef ρ d=(gf d).bind λbs=>(cf (D9 ρ bs)).bind λk=>if k then (ef (D9 ρ bs)).map some else some none:=id rfl
def Nx (o:Option Ot) (P:Rho->Prop):Prop:=match o with|some (.nx ρ)=>P ρ|some (.ct ρ)=>P ρ|_=>False
def qlf {ρ:Rho} {P:Rho->Prop}:Nx (some (.nx ρ)) P=P ρ:=id rfl
def qm7 {o:Option Ot} {P:Rho->Prop} (h:Nx o P):∃ ρ,(o=some (.nx ρ)\/o=some (.ct ρ))/\P ρ:=by
 unfold Nx at h;split at h
 ·exact ⟨_,.inl rfl,h⟩
 ·exact ⟨_,.inr rfl,h⟩
 ·exact h.elim
section
variable {gf:PyData->Option (List (Nat×PyData))} {bf:Rho->Option Ot} {α:Type} {g:α->PyData} {ρ:Rho} {Q:Option Ot->Prop} {F:Ot->Option Ot}
def qcX (xs:List α) (I:Nat->Rho->Prop) (h0:I 0 ρ) (hs:∀ i x ρ,xs[i]?=some x->I i ρ->Nx ((gf (g x)).bind λbs=>bf (D9 ρ bs)) (I (i+1))) (k:∀ ρ',I xs.length ρ'->Q (some (.nx ρ'))):Q (qak gf bf (xs.map g) ρ):=by
 obtain ⟨ρ',e,h⟩:=qcR (gf:=gf) (bf:=bf) (g:=g) xs I h0 λi x ρ hx hi=>by
  obtain ⟨ρ2,e,h⟩:=qm7 (hs i x ρ hx hi);cases e1:gf (g x) with
  |none=>rw [e1] at e;rcases e with e|e<;>cases e
  |some bs=>rw [e1] at e;exact ⟨bs,ρ2,rfl,e,h⟩
 rw [e];exact k ρ' h
def qgL (xs:List α) (I:Nat->Rho->Prop) (h0:I 0 ρ) (hs:∀ i x ρ,xs[i]?=some x->I i ρ->Nx ((gf (g x)).bind λbs=>bf (D9 ρ bs)) (I (i+1))) (k:∀ ρ',I xs.length ρ'->Q (F (.nx ρ'))):Q ((qak gf bf (xs.map g) ρ).bind F):=
 qcX (Q:=λo=>Q (o.bind F)) xs I h0 hs k
end
def SA {α:Type} {us:List α} (h:us.length=1):∃ a0,us=[a0]:=List.length_eq_one_iff.mp h
def T3 {α:Type} {us:List α} (h:us.length=2):∃ a0 a1,us=[a0,a1]:=by
 obtain ⟨a0,r,rfl⟩:=List.exists_cons_of_length_pos (show 0<us.length by omega);obtain ⟨a1,rfl⟩:=SA (show r.length=1 by simpa using h);exact ⟨a0,a1,rfl⟩
def qpa {α:Type} {us:List α} (h:us.length=3):∃ a0 a1 a2,us=[a0,a1,a2]:=by
 obtain ⟨a0,r,rfl⟩:=List.exists_cons_of_length_pos (show 0<us.length by omega);obtain ⟨a1,a2,rfl⟩:=T3 (show r.length=2 by simpa using h);exact ⟨a0,a1,a2,rfl⟩
def qlD (d:PyData):Option PyData:=match d with|.list xs=>some (.list xs.reverse)|.tuple xs=>some (.tuple xs.reverse)|_=>none
def qlG {te:TE3} (a:PuE te):PuE (qlU te (sp3 (u3 XZ (c3 (.int 1))))):=⟨λρ=>(a.f ρ).bind qlD,a.fv,false,λ{D τ ρ G q d} hv hd hf k=>by
 obtain ⟨v,e1,hf⟩:=obb hf;unfold qlD at hf;split at hf
 ·cases hf;refine a.ok hv hd e1 λx G1 E1 D1 _=>?_;cases D1 with
  |lst g hs=>
   simp only [sp3,u3,XZ,c3,QE (zd g).2];exact ⟨trivial,λp hp=>k _ _ (E1.trans (VE hp)) (U9 (hd.up E1) hp hs.rev) (λz=>by cases z)⟩
 ·cases hf;refine a.ok hv hd e1 λx G1 E1 D1 _=>?_;cases D1 with
  |tup hs=>
   simp only [sp3,u3,XZ,c3];exact ⟨trivial,k _ _ E1 (.tup hs.rev) (λz=>by cases z)⟩
 ·cases hf⟩
def qek {te:TE3} {a:PuE te}:(qlG a).f=λρ=>(a.f ρ).bind qlD:=id rfl
def qaw {te:TE3} {a:PuE te}:(qlG a).nw=false:=id rfl
def qev {xs:List PyData}:qlD (.tuple xs)=some (.tuple xs.reverse):=id rfl
def R9 (d e:PyData):Option PyData:=match d,e with
 |.tuple xs,.tuple ys=>cif (xs.length+ys.length<=sizeLine) (some (.tuple (xs++ys))) none
 |.list xs,.list ys=>cif (xs.length+ys.length<=sizeLine) (some (.list (xs++ys))) none
 |.int i,.int j=>some (.int (i+j))
 |_,_=>none
def QL:OpD YB:=⟨R9,false,λ{D G x y d e v q} hx hy hd hf k=>by
  unfold R9 at hf;cases hx with
  | int i => cases hy <;> try (simp at hf;done)
             cases hf;exact k _ _ Ex.refl (.int _) (λz=>by cases z)
  |tup hs=>
    cases hy<;>try (simp at hf;done)
    rename_i hs2;simp only [cif] at hf;split at hf
    · rename_i c;cases hf;exact ⟨by rw [hs.length,hs2.length];exact c,k _ _ Ex.refl (.tup (hs.append hs2)) (λz=>by cases z)⟩
    · cases hf
  |lst g hs=>
    cases hy<;>try (simp at hf;done)
    rename_i g2 hs2;simp only [cif] at hf;split at hf
    · rename_i c;cases hf;simp only [YB,(zd g).2,(zd g2).2];exact ⟨by rw [hs.length,hs2.length];exact c,λp hp=>k _ _ (VE hp) (U9 hd hp (hs.append hs2)) (λz=>by cases z)⟩
    · cases hf
  |_=>simp at hf⟩
def slA (d:PyData) (lo hi:Option Int):Option PyData:=match d with
 |.tuple xs=>some (.tuple (EJ xs lo hi))
 |.list xs=>some (.list (EJ xs lo hi))
 |_=>none
def LB {te:TE3} {tl th:TO3} (a:PuE te) (l:PuO tl) (h:PuO th):PuE (EM te tl th):=⟨λρ=>(a.f ρ).bind λd=>(l.f ρ).bind λlo=>(h.f ρ).bind λhi=>slA d lo hi,a.fv++(l.fv++h.fv),false,λhv hd hf k=>by
 obtain ⟨d,e1,hf⟩:=obb hf;obtain ⟨lo,e2,hf⟩:=obb hf;obtain ⟨hi,e3,hf⟩:=obb hf;refine a.ok hv.l hd e1 λx' G1 E1 D1 _=>l.ok (hv.r.l.up E1) (hd.up E1) e2 λG2 E2=>h.ok (hv.r.r.up (E1.trans E2)) (hd.up (E1.trans E2)) e3 λG3 E3=>?_;have E:=(E1.trans E2).trans E3;have D3:=(D1.up (VJ E2)).up (VJ E3);unfold slA at hf;cases D3 with
 |tup hs=>
  simp only at hf;cases hf;exact k _ _ E (.tup (hs.cut _ _)) (λz=>by cases z)
 |lst g hs=>
  simp only at hf;cases hf;simp only [qng,QE (zd g).2];intro p hp;exact k _ _ (E.trans (VE hp)) (U9 (hd.up E) hp (hs.cut _ _)) (λz=>by cases z)
 |_=>simp at hf⟩
def YL:QL.f=R9:=id rfl
def Z8:QL.nw=false:=id rfl
def C4 {te:TE3} {tl th:TO3} {a:PuE te} {l:PuO tl} {h:PuO th}:(LB a l h).f=λρ=>(a.f ρ).bind λd=>(l.f ρ).bind λlo=>(h.f ρ).bind λhi=>slA d lo hi:=id rfl
def DX {te:TE3} {tl th:TO3} {a:PuE te} {l:PuO tl} {h:PuO th}:(LB a l h).nw=false:=id rfl
def NQ {xs:List PyData} {lo hi:Option Int}:slA (.tuple xs) lo hi=some (.tuple (EJ xs lo hi)):=id rfl
def EH {xs ys:List PyData} (h:xs.length+ys.length<=16777216):R9 (.tuple xs) (.tuple ys)=some (.tuple (xs++ys)):=zn h
end Pu
namespace Pv
open PySem L2 L3 Pu
open Bk (Dl)
def qg5 (r:List Int):PyData:=.tuple (r.map PyData.int)
def dlD:Dl->PyData
 |.skew r c b x y=>.tuple [.str "skew",.int r,.int c,.int b,.int x,.int y]
 |.rests r c b p=>.tuple [.str "rests",.int r,.int c,.int b,.int p]
 |.bits h l ms=>.tuple [.str "bits",.int h,.int l,.tuple (ms.map PyData.int)]
 |.table b cells=>.tuple [.str "table",.int b,.tuple (cells.map qg5)]
 |.joined d e=>.tuple [.str "joined",dlD d,dlD e]
def qbr (G:Gp):∀ (cs:List (List Int)),Dqs G (cs.map Bk.qji) (cs.map qg5)
 |[]=>.nil
 |r::cs=>.cons (.tup (Dqs.ofInts r)) (qbr G cs)
def qgn (G:Gp):∀ (d:Dl),Dq G d.t (dlD d)
 |.skew r c b x y=>.tup (.cons (.str _) (.cons (.int _) (.cons (.int _) (.cons (.int _) (.cons (.int _) (.cons (.int _) .nil))))))
 |.rests r c b p=>.tup (.cons (.str _) (.cons (.int _) (.cons (.int _) (.cons (.int _) (.cons (.int _) .nil)))))
 |.bits h l ms=>.tup (.cons (.str _) (.cons (.int _) (.cons (.int _) (.cons (.tup (Dqs.ofInts ms)) .nil))))
 |.table b cells=>.tup (.cons (.str _) (.cons (.int _) (.cons (.tup (qbr G cells)) .nil)))
 |.joined d e=>.tup (.cons (.str _) (.cons (qgn G d) (.cons (qgn G e) .nil)))
end Pv
namespace Pu
open PySem L2 L3
open Bk (Lf Ext)
section
variable {D:Addr->Prop} {a:Addr} {G G' G0:Gp} {n n':Nat} {fv gv:List Nat} {l:Nat} {τ:St3} {ρ:Rho}
def TV (e:Ext a G G') (h:D a):Ex (rs D G) (rs D G'):=λb o x=>by
 obtain ⟨n,x⟩:=zd x;rw [YA n];exact e b o (by rintro rfl;exact n h) x
def WP {k:Int} (h:Lf G a k):G a≠none:=by
 obtain ⟨o,c,m,e,_⟩:=h;rw [e];simp
def RF {k:Int} (hd:Dom D G) (e:Ext a G G') (lf:Lf G' a k):Dom D G':=λb hb z=>by
 by_cases h:b=a
 ·subst h;exact WP lf z
 ·cases g:G b with
  |none=>exact hd b hb g
  |some o=>rw [e b o h g] at z;cases z
def Nw.backx {x:T} {d:PyData} {k:Int} (h:Nw D G G' x d) (e:Ext a G0 G) (lf:Lf G a k):Nw D G0 G' x d:=by
 rcases h with h|⟨p,xs,ds,h1,h2,c,r⟩
 ·exact .inl h
 refine .inr ⟨p,xs,ds,h1,h2,?_,r⟩;cases z:G0 p with
 |none=>rfl
 |some o=>
  by_cases hp:p=a
  ·subst hp;exact absurd c (WP lf)
  ·rw [e p o hp z] at c;cases c
structure Ln (fv:List Nat) (l:Nat) (D:Addr->Prop) (G:Gp) (τ:St3) (ρ:Rho) (a:Addr) (n:Nat):Prop where
 v:CT fv D G τ ρ
 d:Dom D G
 da:D a
 tl:τ[l]?=some (some (.ref a))
 ul:vw ρ l=none
 lf:Lf G a n
def Ln.up (h:Ln fv l D G τ ρ a n) (e:Ext a G G') (lf:Lf G' a n'):Ln fv l D G' τ ρ a n':=
 ⟨λi hi d hd=>let ⟨t,x,y⟩:=h.v i hi d hd;⟨t,x,y.up (TV e h.da)⟩,RF h.d e lf,h.da,h.tl,h.ul,lf⟩
def Ln.fst (h:Ln (fv++gv) l D G τ ρ a n):Ln fv l D G τ ρ a n:=⟨h.v.l,h.d,h.da,h.tl,h.ul,h.lf⟩
def Ln.snd (h:Ln (fv++gv) l D G τ ρ a n):Ln gv l D G τ ρ a n:=⟨h.v.r,h.d,h.da,h.tl,h.ul,h.lf⟩
end
abbrev QD:=PyData->Nat->Prop
structure PwE (l:Nat) (t:TE3) where
 w:Rho->Nat->QD->Prop
 fv:List Nat
 nw:Bool
 mono:∀ {ρ n} {Q Q':QD},w ρ n Q->(∀ d m,Q d m->Q' d m)->w ρ n Q'
 ok:∀ {D τ ρ G a n} {q:Q3} {Q:QD},Ln fv l D G τ ρ a n->w ρ n Q->(∀ x d G' n',Q d n'->Ext a G G'->Lf G' a n'->Dq (rs D G') x d->(nw=true->Nw D G G' x d)->q x G')->t τ G q
structure PwC (l:Nat) (t:TT3) where
 w:Rho->Nat->(Bool->Nat->Prop)->Prop
 fv:List Nat
 mono:∀ {ρ n} {Q Q':Bool->Nat->Prop},w ρ n Q->(∀ d m,Q d m->Q' d m)->w ρ n Q'
 ok:∀ {D τ ρ G a n} {q:Bool->Gp->Prop} {Q:Bool->Nat->Prop},Ln fv l D G τ ρ a n->w ρ n Q->(∀ k G' n',Q k n'->Ext a G G'->Lf G' a n'->q k G')->t τ G q
structure PwA (l:Nat) (t:TA3) where
 w:Rho->Nat->(List PyData->Nat->Prop)->Prop
 fv:List Nat
 k:Nat
 mono:∀ {ρ n} {Q Q':List PyData->Nat->Prop},w ρ n Q->(∀ d m,Q d m->Q' d m)->w ρ n Q'
 ok:∀ {D τ ρ G a n} {q:List T->Gp->Prop} {Q:List PyData->Nat->Prop},Ln fv l D G τ ρ a n->w ρ n Q->(∀ x d G' n',Q d n'->d.length=k->Ext a G G'->Lf G' a n'->Dqs (rs D G') x d->q x G')->t τ G q
structure PwI (l:Nat) (t:TI3) where
 w:Rho->Nat->(List PyData->Nat->Prop)->Prop
 fv:List Nat
 nm:Bool
 mono:∀ {ρ n} {Q Q':List PyData->Nat->Prop},w ρ n Q->(∀ d m,Q d m->Q' d m)->w ρ n Q'
 ok:∀ {D τ ρ G a n} {r:List T->(Gp->Prop)->Gp->Prop} {Q:List PyData->Nat->Prop},Ln fv l D G τ ρ a n->w ρ n Q ->
  (∀ items stay ds G' n',Q ds n'->Ext a G G'->Lf G' a n'->Dqs (rs D G') items ds->(∀ G'',(nm=true\/Ex (rs D G') G'')->stay G'')->(nm=true->∃ ns:List Int,ds=ns.map PyData.int)->r items stay G')->t τ G r
structure DrD (r:List T->Gp->Q3->Prop) where
 W:List PyData->Nat->QD->Prop
 nw:Bool
 mono:∀ {ds n} {Q Q':QD},W ds n Q->(∀ d m,Q d m->Q' d m)->W ds n Q'
 ok:∀ {D:Addr->Prop} {G:Gp} {a:Addr} {n:Nat} {ts:List T} {ds:List PyData} {q:Q3} {Q:QD},Lf G a n->D a->Dom D G->Dqs (rs D G) ts ds->W ds n Q->(∀ x d G' n',Q d n'->Ext a G G'->Lf G' a n'->Dq (rs D G') x d->(nw=true->Nw D G G' x d)->q x G')->r (.ref a::ts) G q
section
variable {l:Nat}
def eOf {t:TE3} (b:PuE t):PwE l t:=⟨λρ n Q=>∃ d,b.f ρ=some d/\Q d n,b.fv,b.nw,λ⟨d,h1,h2⟩ h=>⟨d,h1,h _ _ h2⟩,λh ⟨d,h1,h2⟩ k=>
 b.ok h.v h.d h1 λx G1 E1 D1 N1=>k x d G1 _ h2 (Bk.TM E1) (h.lf.ex E1) D1 N1⟩
def cOf {t:TT3} (b:PuC t):PwC l t:=⟨λρ n Q=>∃ d,b.f ρ=some d/\Q d n,b.fv,λ⟨d,h1,h2⟩ h=>⟨d,h1,h _ _ h2⟩,λh ⟨d,h1,h2⟩ k=>
 b.ok h.v h.d h1 λG1 E1=>k d G1 _ h2 (Bk.TM E1) (h.lf.ex E1)⟩
def aOf {t:TA3} (b:PuA t):PwA l t:=⟨λρ n Q=>∃ d,b.f ρ=some d/\Q d n,b.fv,b.n,λ⟨d,h1,h2⟩ h=>⟨d,h1,h _ _ h2⟩,λh ⟨d,h1,h2⟩ k=>
 b.ok h.v h.d h1 λx G1 E1 D1=>k x d G1 _ h2 (b.ln h1) (Bk.TM E1) (h.lf.ex E1) D1⟩
def iOf {t:TI3} (b:PuI t):PwI l t:=⟨λρ n Q=>∃ d,b.f ρ=some d/\Q d n,b.fv,b.nm,λ⟨d,h1,h2⟩ h=>⟨d,h1,h _ _ h2⟩,λh ⟨d,h1,h2⟩ k=>
 b.ok h.v h.d h1 λitems stay G1 E1 D1 s nm=>k items stay d G1 _ h2 (Bk.TM E1) (h.lf.ex E1) D1 s nm⟩
def eO {r:R3} {ta tb:TE3} (R:OpD r) (a:PwE l ta) (b:PwE l tb):PwE l (o3 r ta tb):=
 ⟨λρ n Q=>a.w ρ n λx n1=>b.w ρ n1 λy n2=>∃ v,R.f x y=some v/\Q v n2,a.fv++b.fv,R.nw,λh k=>a.mono h λx n1 h=>b.mono h λy n2 ⟨v,h1,h2⟩=>⟨v,h1,k _ _ h2⟩,λh hw k=>
  a.ok h.fst hw λx dx G1 n1 h1 E1 L1 D1 _=>b.ok (h.snd.up E1 L1) h1 λy dy G2 n2 ⟨v,e,hq⟩ E2 L2 D2 _=>R.ok (D1.up (TV E2 h.da)) D2 (RF (RF h.d E1 L1) E2 L2) e λz G3 E3 D3 N3=>k z v G3 n2 hq ((E1.trans E2).trans (Bk.TM E3)) (L2.ex E3) D3 λz=>(N3 z).backx (E1.trans E2) L2⟩
def KQ {ta:TE3} {tr:TA3} (a:PwE l ta) (r:PwA l tr):PwA l (qc ta tr):=
 ⟨λρ n Q=>a.w ρ n λx n1=>r.w ρ n1 λxs n2=>Q (x::xs) n2,a.fv++r.fv,r.k+1,λh k=>a.mono h λx n1 h=>r.mono h λxs n2 h=>k _ _ h,λh hw k=>
  a.ok h.fst hw λx dx G1 n1 h1 E1 L1 D1 _=>r.ok (h.snd.up E1 L1) h1 λy dy G2 n2 hq hl E2 L2 D2=>k _ _ G2 n2 hq (by simp [hl]) (E1.trans E2) L2 (.cons (D1.up (TV E2 h.da)) D2)⟩
def qmp {t:TA3} (b:PwA l t) (hn:Tru (Nat.ble b.k 1000)):PwE l (ju t):=⟨λρ n Q=>b.w ρ n λxs n1=>Q (.tuple xs) n1,b.fv,false,λh k=>b.mono h λxs n1 h=>k _ _ h,λh hw k=>
 b.ok h hw λx dx G1 n1 h1 hl E1 L1 D1=>⟨by rw [D1.length,hl];exact few hn,k _ _ _ _ h1 E1 L1 (.tup D1) (λz=>by cases z)⟩⟩
def eDr {r:List T->Gp->Q3->Prop} {t:TA3} (R:DrD r) (b:PwA l t):PwE l (cb3 r (qc (v3 l) t)):=⟨λρ n Q=>b.w ρ n λxs n1=>R.W xs n1 Q,b.fv,R.nw,λh k=>b.mono h λxs n1 h=>R.mono h k,λ{D τ ρ G a n q Q} h hw k=>by
 simp only [cb3,qc,v3,h.tl];exact b.ok h hw λx dx G1 n1 hW hl E1 L1 D1=>R.ok L1 h.da (RF h.d E1 L1) D1 hW λz d G3 n3 hq E3 L3 D3 N3=>k z d G3 n3 hq (E1.trans E3) L3 D3 λz=>(N3 z).backx E1 L1⟩
def cTb {t:TE3} (b:PwE l t):PwC l (tb3 t):=⟨λρ n Q=>b.w ρ n λd n1=>∃ k,asB d=some k/\Q k n1,b.fv,λh k=>b.mono h λd m ⟨v,h1,h2⟩=>⟨v,h1,k _ _ h2⟩,λh hw k=>b.ok h hw λx d G1 n1 ⟨v,e,hq⟩ E1 L1 D1 _=>by
 have:=L9 e;subst this;cases D1;exact k _ _ _ hq E1 L1⟩
end
def VA.ext {D:Addr->Prop} {a:Addr} {G G':Gp} {τ:St3} {ρ:Rho} (h:VA D G τ ρ) (e:Ext a G G') (da:D a):VA D G' τ ρ:=h.upx (TV e da)
structure RL (l:Nat) (a:Addr) (z0:Option (Option T)×Nat) (D:Addr->Prop) (G0:Gp) (A:Nat->Option Addr) (τ:St3) (ρ:Rho) (G:Gp) (n:Nat):Prop where
 r:RS D G0 A τ ρ G
 al:A l=some a
 tl:τ[l]?=some (some (.ref a))
 ul:ρ[l]?=some Sl.un
 lf:Lf G a n
 tz:τ[0]?=z0.1/\τ.length=z0.2
section
variable {l:Nat} {a:Addr} {z0:Option (Option T)×Nat} {D:Addr->Prop} {G0 G G':Gp} {A:Nat->Option Addr} {τ:St3} {ρ:Rho} {n n':Nat}
def RL.vl (h:RL l a z0 D G0 A τ ρ G n):vw ρ l=none:=by unfold vw;rw [h.ul];rfl
def RL.up (h:RL l a z0 D G0 A τ ρ G n) (e:Ext a G G') (lf:Lf G' a n'):RL l a z0 D G0 A τ ρ G' n':=by
 have X:Ex (rs (AD D A) G) (rs (AD D A) G'):=TV e (.inr ⟨l,h.al⟩);refine ⟨⟨λb o x=>e b o (by rintro rfl;rw [h.r.fr l _ h.al] at x;cases x) (h.r.ex b o x),h.r.dm,h.r.fr,λi p hp z=>?_,h.r.inj,h.r.len,λi d x=>let ⟨t,y,z⟩:=h.r.sh i d x;⟨t,y,z.up X⟩,λi ds x=>?_⟩,h.al,h.tl,h.ul,lf,h.tz⟩
 ·by_cases c:p=a
  ·subst c;exact WP lf z
  ·cases g:G p with
   |none=>exact h.r.da i p hp g
   |some o=>rw [e p o c g] at z;cases z
 ·obtain ⟨p,xs,y1,y2,y3,y4⟩:=h.r.ow i ds x;refine ⟨p,xs,y1,y2,e p _ ?_ y3,y4.up X⟩;rintro rfl;have:=h.r.inj i l _ y1 h.al;subst this;rw [h.ul] at x;cases x
def RL.all (h:RL l a z0 D G0 A τ ρ G n) (fv:List Nat):Ln fv l (λb=>D b\/b=a) G τ ρ a n:=by
 refine ⟨λi _ d hd=>?_,λb hb=>?_,.inr rfl,h.tl,h.vl,h.lf⟩
 ·unfold vw at hd;obtain ⟨s,e,hd⟩:=obb hd;have less:Ex (rs (AD D A) G) (rs (λb=>D b\/b=a) G):=JT λb z=>by
   rcases z with z|z
   ·exact .inl z
   ·subst z;exact .inr ⟨l,h.al⟩
  cases s with
  |un=>cases hd
  |sh d'=>
   cases hd;obtain ⟨t,b,c⟩:=h.r.sh i _ e;exact ⟨t,b,c.up less⟩
  |ow ds=>
   cases hd;obtain ⟨p,xs,b,c,g,f⟩:=h.r.ow i _ e;refine ⟨_,c,.lst ?_ (f.up less)⟩;rw [YA]
   ·exact g
   ·rintro (z|z)
    ·exact h.r.nd b z
    ·subst z;have:=h.r.inj i l _ b h.al;subst this;rw [h.ul] at e;cases e
 ·rcases hb with hb|hb
  ·exact h.r.domD b hb
  ·subst hb;exact WP h.lf
def qn8 {m:List Bool} (hm:mkb m l=false) (al:A l=some a):Ad m A l=some a:=by unfold Ad;rw [if_neg (by rw [hm];simp)];exact al
def RL.dem (h:RL l a z0 D G0 A τ ρ G n) {m:List Bool} (hm:mkb m l=false):RL l a z0 D G0 (Ad m A) τ (Pu.dm m ρ) G n:=
 ⟨h.r.dem m,qn8 hm h.al,h.tl,by rw [qbv,h.ul];simp [hm],h.lf,h.tz⟩
def RL.ln (h:RL l a z0 D G0 A τ ρ G n) {m:List Bool} {fv:List Nat} (hm:mkb m l=false) (hf:Tru (fv.all (mkb m))):Ln fv l (AD D (Ad m A)) G τ ρ a n:=
 ⟨h.r.viewD hf,(h.r.dem m).dom,.inr ⟨l,qn8 hm h.al⟩,h.tl,h.vl,h.lf⟩
def RL.put (h:RL l a z0 D G0 A τ ρ G n) {i:Nat} (hi:i≠l) (h0:i≠0) {x:T} {d:PyData} (hx:Dq (rs (AD D A) G) x d):RL l a z0 D G0 (Er A i) (τ.set i (some x)) (ρ.set i (.sh d)) G n:=
 ⟨h.r.put i hx,by unfold Er;rw [if_neg (λz=>hi z.symm)];exact h.al,by rw [getElem?_set,if_neg hi];exact h.tl,by rw [getElem?_set,if_neg hi];exact h.ul,h.lf,⟨by rw [getElem?_set,if_neg h0];exact h.tz.1,by rw [List.length_set];exact h.tz.2⟩⟩
def RL.puts:∀ {ts:List (Nat×T)} {bs:List (Nat×PyData)} {A:Nat->Option Addr} {τ:St3} {ρ:Rho},RL l a z0 D G0 A τ ρ G n->Bd (rs (AD D A) G) ts bs->(∀ p∈bs,p.1≠l/\p.1≠0)->∃ A',RL l a z0 D G0 A' (sets τ ts) (D9 ρ bs) G n
 |_,_,A,_,_,h,.nil,_=>⟨A,h⟩
 |_,_,A,_,_,h,.cons x b,hn=>by
  unfold sets D9;exact RL.puts (h.put (hn _ List.mem_cons_self).1 (hn _ List.mem_cons_self).2 x) (b.up qgC) (λp hp=>hn p (List.mem_cons_of_mem _ hp))
def RL.putN (h:RL l a z0 D G0 A τ ρ G n) {i:Nat} (hi:i≠l) (h0:i≠0) {x:T} {d:PyData} {ds:List PyData} (hd:d=.list ds) (E:Ext a G G') (lf:Lf G' a n') (hx:Nw (AD D A) G G' x d):∃ A',RL l a z0 D G0 A' (τ.set i (some x)) (ρ.set i (.ow ds)) G' n':=by
 have h1:=h.up E lf;rcases hx with hx|⟨p,xs,ds',rfl,e',gp,gp',hs⟩
 ·rw [hd] at hx;cases hx
 rw [hd] at e';cases e';have np:∀ {j q},A j=some q->q≠p:=λe=>by rintro rfl;exact h.r.da _ _ e gp
 have X1:Ex (rs (AD D A) G) (rs (AD D (λj=>if j=i then some p else A j)) G'):=λb o e=>by
  obtain ⟨n,e⟩:=zd e;rw [YA]
  ·exact E b o (by rintro rfl;exact n (.inr ⟨l,h.al⟩)) e
  ·rintro (z|⟨j,z⟩)
   ·exact n (.inl z)
   ·simp only at z;split at z
    ·cases z;rw [gp] at e;cases e
    ·exact n (.inr ⟨j,z⟩)
 refine ⟨λj=>if j=i then some p else A j,⟨h1.r.ex,h.r.dm,λj q e=>?_,λj q e=>?_,λj k q x y=>?_,by simp [h.r.len],λj e he=>?_,λj es e=>?_⟩,by rw [if_neg (λz=>hi z.symm)];exact h.al,by rw [getElem?_set,if_neg hi];exact h.tl,by rw [getElem?_set,if_neg hi];exact h.ul,lf,⟨by rw [getElem?_set,if_neg h0];exact h.tz.1,by rw [List.length_set];exact h.tz.2⟩⟩
 ·split at e
  ·cases e;cases z:G0 p with
   |none=>rfl
   |some o=>rw [h.r.ex _ _ z] at gp;cases gp
  ·exact h.r.fr j q e
 ·split at e
  ·cases e;rw [gp'];simp
  ·exact h1.r.da j q e
 ·split at x
  ·cases x;split at y
   ·rename_i h1 h2;rw [h1,h2]
   ·exact absurd rfl (np y)
  ·split at y
   ·cases y;exact absurd rfl (np x)
   ·exact h.r.inj j k q x y
 ·rw [getElem?_set] at he ⊢;split at he
  ·split at he<;>cases he
  ·rename_i hj;rw [if_neg hj];obtain ⟨t,b,c⟩:=h.r.sh j _ he;exact ⟨t,b,c.up X1⟩
 ·rw [getElem?_set] at e ⊢;split at e
  ·rename_i hj;subst hj;split at e
   ·rename_i hl;cases e;refine ⟨p,xs,by simp,by rw [if_pos rfl,if_pos (by rw [← h.r.len];exact hl)],gp',hs.up (JT λb z=>?_)⟩;rcases z with z|⟨j,z⟩
    ·exact .inl (.inl z)
    ·simp only at z;split at z
     ·cases z;exact .inr rfl
     ·exact .inl (.inr ⟨j,z⟩)
   ·cases e
  ·rename_i hj;rw [if_neg hj];obtain ⟨q,ys,b,c,g,f⟩:=h1.r.ow j _ e;obtain ⟨q',ys',b',c',g',f'⟩:=h.r.ow j _ e;rw [b] at b';cases b';have:G' q=some (.lst ys'):=E q _ (by rintro rfl;have:=h.r.inj j l _ b h.al;subst this;rw [h.ul] at e;cases e) g';exact ⟨q,ys',by rw [if_neg (λz=>hj z.symm)];exact b,c,this,f'.up X1⟩
def RL.wr (h:RL l a z0 D G0 A τ ρ G n) {i:Nat} {p:Addr} {xs:List T} {ds ds0:List PyData} (ho:ρ[i]?=some (Sl.ow ds0)) (hi:A i=some p) (ht:τ[i]?=some (some (.ref p))) (hs:Dqs (rs (AD D A) G) xs ds):RL l a z0 D G0 A τ (ρ.set i (.ow ds)) (gu G p (.lst xs)) n:=by
 have il:i≠l:=by rintro rfl;rw [h.ul] at ho;cases ho
 have pa:p≠a:=by rintro rfl;exact il (h.r.inj i l _ hi h.al)
 exact ⟨h.r.wr hi ht hs,h.al,h.tl,by rw [getElem?_set,if_neg il];exact h.ul,h.lf.new pa,h.tz⟩
end
abbrev QO:=Ot->Nat->Prop
def qbc (l:Nat) (a:Addr) (z0:Option (Option T)×Nat) (D:Addr->Prop) (G0:Gp) (e:Ends3):Ot->Nat->Prop
 |.nx ρ,n=>∀ A τ G,RL l a z0 D G0 A τ ρ G n->e.nx τ G
 |.bk ρ,n=>∀ A τ G,RL l a z0 D G0 A τ ρ G n->e.bk τ G
 |.ct ρ,n=>∀ A τ G,RL l a z0 D G0 A τ ρ G n->e.ct τ G
 |.rt d fr,n=>∀ x G,Ex G0 G->Lf G a n->Dq (rs (λb=>D b\/b=a) G) x d->(fr=true->Nw (λb=>D b\/b=a) G0 G x d)->e.rt x G
structure PwS (l:Nat) (t:TS3) where
 w:Rho->Nat->QO->Prop
 mono:∀ {ρ n} {Q Q':QO},w ρ n Q->(∀ o m,Q o m->Q' o m)->w ρ n Q'
 ok:∀ {a z0 D G0 A τ ρ G n} {e:Ends3} {Q:QO},RL l a z0 D G0 A τ ρ G n->w ρ n Q->(∀ o m,Q o m->qbc l a z0 D G0 e o m)->t e τ G
section
variable {l:Nat}
def UD:PwS l qy:=⟨λρ n Q=>Q (.nx ρ) n,λh k=>k _ _ h,λh hw k=>k _ _ hw _ _ _ h⟩
def sqw (b:Rho->Nat->QO->Prop) (Q:QO):QO:=λo n=>match o with|.nx ρ'=>b ρ' n Q|o=>Q o n
def U2 {t u:TS3} (x:PwS l t) (y:PwS l u):PwS l (qH t u):=⟨λρ n Q=>x.w ρ n (sqw y.w Q),λh k=>x.mono h λo m h=>by
  cases o with
  |nx ρ=>exact y.mono h k
  |bk ρ=>exact k _ _ h
  |ct ρ=>exact k _ _ h
  |rt d f=>exact k _ _ h,λh hw k=>x.ok h hw λo m h=>by
  cases o with
  |nx ρ=>exact λA τ G r=>y.ok r h k
  |bk ρ=>exact k _ _ h
  |ct ρ=>exact k _ _ h
  |rt d f=>exact k _ _ h⟩
def wIf {c:TT3} {t u:TS3} (pc:PwC l c) (x:PwS l t) (y:PwS l u):PwS l (zJ c t u):=⟨λρ n Q=>pc.w ρ n λk n1=>if k then x.w ρ n1 Q else y.w ρ n1 Q,λh k=>pc.mono h λj m h=>by
  cases j with
  |true=>rw [if_pos rfl] at h ⊢;exact x.mono h k
  |false=>exact y.mono h k,λh hw k=>pc.ok (h.all _) hw λj G1 n1 hj E1 L1=>by
  cases j with
  |true=>rw [if_pos rfl] at hj ⊢;exact x.ok (h.up E1 L1) hj k
  |false=>exact y.ok (h.up E1 L1) hj k⟩
def qfS {a:Addr} {z0:Option (Option T)×Nat} {D:Addr->Prop} {G0 G G':Gp} {A:Nat->Option Addr} {τ:St3} {ρ:Rho} {n:Nat} (h:RL l a z0 D G0 A τ ρ G n) (e:Ext a G G'):Ex G0 G':=λb o x=>e b o (by rintro rfl;rw [h.r.fr l _ h.al] at x;cases x) (h.r.ex b o x)
def CY {t:TE3} (x:PwE l t):PwS l (qV t):=⟨λρ n Q=>x.w ρ n λd n1=>Q (.rt d x.nw) n1,λh k=>x.mono h λd m h=>k _ _ h,λh hw k=>x.ok (h.all _) hw λy d G1 n1 hq E1 L1 D1 N1=>k _ _ hq y G1 (qfS h E1) L1 D1 λz=>(N1 z).back h.r.ex⟩
def NI {t:TE3} (x:PwE l t) (i:Nat) (m:List Bool) (hm:Tru (x.fv.all (mkb m))) (hl:Tru (!mkb m l&&(i != l&&i != 0))):PwS l (zw t (gn3 i)):=⟨λρ n Q=>x.w ρ n λd n1=>Q (.nx (TX m x.nw i d ρ)) n1,λh k=>x.mono h λd m h=>k _ _ h,λ{a z0 D G0 A τ ρ G n e Q} h hw k=>by
 have hl':mkb m l=false/\i≠l/\i≠0:=by simpa using hl.h
 refine x.ok (h.ln hl'.1 hm) hw λy d G1 n1 hq E1 L1 D1 N1=>?_;have k:=k _ _ hq;unfold TX at k;show e.nx (τ.set i (some y)) G1;split at k
 ·rename_i hs;exact k _ _ _ ((h.up E1 L1).put hl'.2.1 hl'.2.2 (D7 D1 hs))
 ·split at k
  ·rename_i hn;have N:=N1 hn;rcases id N with h2|⟨p,xs,ds,h1,h2,_⟩
   ·subst h2;rename_i hs;exact absurd rfl hs
   subst h2;obtain ⟨A',r⟩:=(h.dem hl'.1).putN hl'.2.1 hl'.2.2 rfl E1 L1 N;exact k _ _ _ r
  ·exact k _ _ _ (((h.dem hl'.1).up E1 L1).put hl'.2.1 hl'.2.2 D1)⟩
def qhl {t:TE3} {g:TG3} (x:PwE l t) (pg:PuG g) (m:List Bool) (hm:Tru (x.fv.all (mkb m))) (hl:Tru (!mkb m l&&pg.tg.all (λi=>i != l&&i != 0))):PwS l (zw t g):=⟨λρ n Q=>x.w ρ n λd n1=>∃ bs,pg.f d=some bs/\Q (.nx (D9 (dm m ρ) bs)) n1,λh k=>x.mono h λd m ⟨bs,h1,h2⟩=>⟨bs,h1,k _ _ h2⟩,λ{a z0 D G0 A τ ρ G n e Q} h hw k=>by
 have hl':mkb m l=false/\∀ i∈pg.tg,i≠l/\i≠0:=by simpa using hl.h
 refine x.ok (h.ln hl'.1 hm) hw λy d G1 n1 ⟨bs,e2,hq⟩ E1 L1 D1 N1=>?_;obtain ⟨ts,bd,kg⟩:=pg.ok D1 e2;refine kg _ _ _ ?_;obtain ⟨A',h'⟩:=((h.dem hl'.1).up E1 L1).puts bd (λp hp=>hl'.2 _ (pg.at' e2 p hp));exact k _ _ hq _ _ _ h'⟩
def ql6 {t:TA3} (x:PwA l t) (i j:Nat) (m:List Bool) (hm:Tru (x.fv.all (mkb m))) (hl:Tru (!mkb m l&&((i != l&&i != 0)&&(j != l&&j != 0)))):PwS l (WD i j t):=⟨λρ n Q=>x.w ρ n λds n1=>∃ o,qbT i j m ds ρ=some o/\Q o n1,λh k=>x.mono h λd m ⟨bs,h1,h2⟩=>⟨bs,h1,k _ _ h2⟩,λ{a z0 D G0 A τ ρ G n e Q} h hw k=>by
 have hl':mkb m l=false/\(i≠l/\i≠0)/\j≠l/\j≠0:=by simpa using hl.h
 refine x.ok (h.ln hl'.1 hm) hw λy d G1 n1 ⟨o,e2,hq⟩ hlen E1 L1 D1=>?_;unfold qbT at e2;split at e2
 ·cases D1 with
  |cons x1 b=>cases b with
   |cons x2 c=>
    cases c;split at e2
    ·rename_i hs;cases e2;rw [Bool.and_eq_true] at hs;exact k _ _ hq _ _ _ (((h.up E1 L1).put hl'.2.1.1 hl'.2.1.2 (D7 x1 hs.1)).put hl'.2.2.1 hl'.2.2.2 (D7 x2 hs.2))
    ·cases e2;exact k _ _ hq _ _ _ ((((h.dem hl'.1).up E1 L1).put hl'.2.1.1 hl'.2.1.2 x1).put hl'.2.2.1 hl'.2.2.2 (x2.up qgC))
 ·cases e2⟩
def RL.evalS {a:Addr} {z0:Option (Option T)×Nat} {D:Addr->Prop} {G0 G:Gp} {A:Nat->Option Addr} {τ:St3} {ρ:Rho} {n:Nat} (h:RL l a z0 D G0 A τ ρ G n) {t:TE3} (x:PwE l t) (m:List Bool) (hm:Tru (x.fv.all (mkb m))) (hl:mkb m l=false) {Q:QD} (hw:x.w ρ n Q) (q:Q3) (k:∀ y d G' n' A1,Q d n'->RL l a z0 D G0 A1 τ (dmS m d ρ) G' n'->Ext a G G'->Dq (rs (AD D A1) G') y d->q y G'):t τ G q:=by
 refine x.ok (h.ln hl hm) hw λy d G1 n1 hq E1 L1 D1 _=>?_;by_cases hs:qcQ d=true
 ·exact k y d G1 n1 A hq (by unfold dmS;rw [if_pos hs];exact h.up E1 L1) E1 (D7 D1 hs)
 ·exact k y d G1 n1 _ hq (by unfold dmS;rw [if_neg hs];exact (h.dem hl).up E1 L1) E1 D1
def qcD (gf:PyData->Option (List (Nat×PyData))) (bw:Rho->Nat->QO->Prop):List PyData->Rho->Nat->QO->Prop
 |[],ρ,n,Q=>Q (.nx ρ) n
 |d::r,ρ,n,Q=>∃ bs,gf d=some bs/\bw (D9 ρ bs) n λo n1=>match o with
  |.nx ρ'=>qcD gf bw r ρ' n1 Q
  |.ct ρ'=>qcD gf bw r ρ' n1 Q
  |.bk ρ'=>Q (.nx ρ') n1
  |.rt d b=>Q (.rt d b) n1
def XN {g:TG3} {tb:TS3} (pg:PuG g) (pb:PwS l tb):∀ {ds:List PyData} {ρ:Rho} {n:Nat} {Q Q':QO},qcD pg.f pb.w ds ρ n Q->(∀ o m,Q o m->Q' o m)->qcD pg.f pb.w ds ρ n Q'
 |[],_,_,_,_,h,k=>k _ _ h
 |d::r,_,_,_,_,⟨bs,e,h⟩,k=>⟨bs,e,pb.mono h λo m h=>by
   cases o with
   |nx ρ=>exact XN pg pb h k
   |ct ρ=>exact XN pg pb h k
   |bk ρ=>exact k _ _ h
   |rt d b=>exact k _ _ h⟩
def RO {stay:Gp->Prop} {g:TG3} {tb:TS3} {e:Ends3} (pg:PuG g) (pb:PwS l tb) {a:Addr} {z0:Option (Option T)×Nat} {D:Addr->Prop} {G0:Gp} {Q:QO} (hl:∀ i∈pg.tg,i≠l/\i≠0) (hs:∀ A τ ρ G n,RL l a z0 D G0 A τ ρ G n->stay G) (k:∀ o m,Q o m->qbc l a z0 D G0 e o m) :
  ∀ (ds:List PyData) (items:List T),(∀ A τ ρ G n,RL l a z0 D G0 A τ ρ G n->Dqs (rs (AD D A) G) items ds)->∀ A τ ρ G n,RL l a z0 D G0 A τ ρ G n->qcD pg.f pb.w ds ρ n Q->RX stay g tb e items τ G
 |[],items,hi,A,τ,ρ,G,n,h,hw=>by
  have:=hi _ _ _ _ _ h;cases this;exact ⟨hs _ _ _ _ _ h,k _ _ hw _ _ _ h⟩
 |d::ds,items,hi,A,τ,ρ,G,n,h,⟨bs,e1,hw⟩=>by
  have hh:=hi _ _ _ _ _ h;cases hh with
  |cons hx hr=>
   rename_i x items;obtain ⟨ts,bd,kg⟩:=pg.ok hx e1;refine ⟨hs _ _ _ _ _ h,kg _ _ _ ?_⟩;obtain ⟨A',h'⟩:=h.puts bd λp hp=>hl _ (pg.at' e1 p hp);have hi':∀ A τ ρ G n,RL l a z0 D G0 A τ ρ G n->Dqs (rs (AD D A) G) items ds:=λA τ ρ G n h=>by
    have:=hi _ _ _ _ _ h;cases this with
    |cons a b=>exact b
   refine pb.ok h' hw λo m hq=>?_;cases o with
   |nx ρ'=>exact λA2 τ2 G2 h2=>RO pg pb hl hs k ds items hi' _ _ _ _ _ h2 hq
   |ct ρ'=>exact λA2 τ2 G2 h2=>RO pg pb hl hs k ds items hi' _ _ _ _ _ h2 hq
   |bk ρ'=>exact k _ _ hq
   |rt d fr=>exact k _ _ hq
def RL.base {a:Addr} {z0:Option (Option T)×Nat} {D:Addr->Prop} {G0 Gb G:Gp} {A:Nat->Option Addr} {τ:St3} {ρ:Rho} {n:Nat} (h:RL l a z0 D Gb A τ ρ G n) (e:Ex G0 Gb) (hd:Dom D G0):RL l a z0 D G0 A τ ρ G n:=⟨h.r.base e hd,h.al,h.tl,h.ul,h.lf,h.tz⟩
def qbc.base {a:Addr} {z0:Option (Option T)×Nat} {D:Addr->Prop} {G0 Gb:Gp} {e:Ends3} {o:Ot} {n:Nat} (h:qbc l a z0 D G0 e o n) (x:Ex G0 Gb) (hd:Dom D G0):qbc l a z0 D Gb e o n:=by
 cases o with
 |nx ρ=>exact λA τ G r=>h A τ G (r.base x hd)
 |bk ρ=>exact λA τ G r=>h A τ G (r.base x hd)
 |ct ρ=>exact λA τ G r=>h A τ G (r.base x hd)
 |rt d fr=>exact λy G p q r z=>h y G (x.trans p) q r λw=>(z w).back x
def qoa {wi:TI3} {g:TG3} {tb:TS3} (pi:PwI l wi) (pg:PuG g) (pb:PwS l tb) (m:List Bool) (hm:Tru (pi.fv.all (mkb m))) (hl:Tru (!mkb m l&&pg.tg.all (λi=>i != l&&i != 0))):PwS l (LK wi g tb):=⟨λρ n Q=>pi.w ρ n λds n1=>qcD pg.f pb.w ds (if pi.nm then ρ else dm m ρ) n1 Q,λh k=>pi.mono h λd m h=>XN pg pb h k,λ{a z0 D G0 A τ ρ G n e Q} h hw k=>by
 have hl':mkb m l=false/\∀ i∈pg.tg,i≠l/\i≠0:=by simpa using hl.h
 refine pi.ok (h.ln hl'.1 hm) hw λitems stay ds G1 n1 hq E1 L1 D1 hs hnm=>?_;cases hb:pi.nm with
 |true=>
  rw [hb,if_pos rfl] at hq;obtain ⟨ns,rfl⟩:=hnm hb;have:=D1.ints;subst this;exact RO pg pb hl'.2 (λ_ _ _ _ _ _=>hs _ (.inl hb)) k _ _ (λA τ ρ G _ _=>Dqs.ofInts _) _ _ _ _ _ (h.up E1 L1) hq
 |false=>
  rw [hb,if_neg Bool.false_ne_true] at hq;have h1:=(h.dem hl'.1).up E1 L1;have b1:Ex G0 (rs (λb=>∃ i,Ad m A i=some b) G1):=λb o e=>by
   rw [YA]
   ·exact h1.r.ex _ _ e
   ·rintro ⟨i,z⟩;rw [h1.r.fr i _ z] at e;cases e
  have h2:RL l a z0 D (rs (λb=>∃ i,Ad m A i=some b) G1) (Ad m A) τ (dm m ρ) G1 n1:=⟨⟨DA,h.r.dm.up b1,λi p z=>by unfold rs;exact zn ⟨i,z⟩,h1.r.da,h1.r.inj,h1.r.len,h1.r.sh,h1.r.ow⟩,h1.al,h1.tl,h1.ul,h1.lf,h1.tz⟩
  have X:∀ A2 τ2 ρ2 G2,RS D (rs (λb=>∃ i,Ad m A i=some b) G1) A2 τ2 ρ2 G2->Ex (rs (AD D (Ad m A)) G1) (rs (AD D A2) G2):=λA2 τ2 ρ2 G2 r b o e=>by
   obtain ⟨n1,e⟩:=zd e;have eb:rs (λb=>∃ i,Ad m A i=some b) G1 b=some o:=by rw [YA (λz=>n1 (.inr z))];exact e
   rw [YA]
   ·exact r.ex _ _ eb
   ·rintro (z|⟨i,z⟩)
    ·exact n1 (.inl z)
    ·rw [r.fr i _ z] at eb;cases eb
  exact RO pg pb hl'.2 (λA2 τ2 ρ2 G2 n2 r=>hs _ (.inr ((X _ _ _ _ r.r).trans DA))) (λo m hq=>(k o m hq).base b1 h.r.dm) _ _ (λA2 τ2 ρ2 G2 n2 r=>D1.up (X _ _ _ _ r.r)) _ _ _ _ _ h2 hq⟩
end
def DSp (W:List PyData->Nat->QD->Prop) (fr:Bool):Sp3:=λts G q=>∃ (D:Addr->Prop) (a:Addr) (n:Nat) (ts':List T) (ds:List PyData) (Q:QD),ts=.ref a::ts'/\Lf G a n/\D a/\Dom D G/\Dqs (rs D G) ts' ds/\W ds n Q/\∀ x d G' n',Q d n'->Ext a G G'->Lf G' a n'->Dq (rs D G') x d->(fr=true->Nw D G G' x d)->q x G'
structure Wm where
 W:List PyData->Nat->QD->Prop
 mono:∀ {ds n} {Q Q':QD},W ds n Q->(∀ d m,Q d m->Q' d m)->W ds n Q'
def dSp (w:Wm) (fr:Bool):DrD (DSp w.W fr):=⟨w.W,fr,w.mono,λ{D G a n ts ds q Q} lf da hd hs hw k=>⟨D,a,n,ts,ds,Q,rfl,lf,da,hd,hs,hw,k⟩⟩
def qfa (fr:Bool) (Q:QD):QO:=λo n=>match o with
 |.rt d b=>(fr=true->b=true)/\∃ m,n<=m/\Q d m
 |.nx _=>fr=false/\∃ m,n<=m/\Q .none m
 |_=>False
def qlB {t:TS3} (b:PwS 0 t) (k N:Nat) (fr:Bool):Wm:=⟨λds n Q=>ds.length+1=k/\b.w (.un::(ds.map Sl.sh++List.replicate (N-(ds.length+1)) .un)) n (qfa fr Q),λ⟨h1,h2⟩ k=>⟨h1,b.mono h2 λo m h=>by
 cases o with
 |rt d f=>obtain ⟨h1,m,h2,h3⟩:=h;exact ⟨h1,m,h2,k _ _ h3⟩
 |nx ρ=>obtain ⟨h1,m,h2,h3⟩:=h;exact ⟨h1,m,h2,k _ _ h3⟩
 |bk ρ=>exact h
 |ct ρ=>exact h⟩⟩
def K1 {t:TS3} (b:PwS 0 t) (N:List Str) (k:Nat) (fr:Bool):∀ ts G q,DSp (qlB b k N.length fr).W fr ts G q->ts.length=k/\t { nx:=λ_ G'=>q .non G',rt:=q } (qt N ts) G:=by
 rintro ts G q ⟨D,a,n,ts',ds,Q,rfl,lf,da,hd,hs,⟨hk,hw⟩,h⟩;refine ⟨by simp [hs.length];omega,?_⟩;have DD:∀ b,(D b/\b≠a)\/b=a↔D b:=λb=>by
  by_cases e:b=a
  ·subst e;simp [da]
  ·simp [e]
 have rr:∀ H,rs (λb=>(D b/\b≠a)\/b=a) H=rs D H:=λH=>by
  have:(λb=>(D b/\b≠a)\/b=a)=D:=funext λb=>propext (DD b);rw [this]
 have ad:AD (λb=>D b/\b≠a) (λi=>if i=0 then some a else none)=D:=funext λb=>propext ⟨(λz=>by
   rcases z with z|⟨i,z⟩
   ·exact z.1
   ·simp only at z;split at z
    ·cases z;exact da
    ·cases z),(λz=>by
   by_cases e:b=a
   ·subst e;exact .inr ⟨0,rfl⟩
   ·exact .inl ⟨z,e⟩)⟩
 have ga:G a≠none:=WP lf;have r:RL 0 a (some (some (.ref a)),(qt N (.ref a::ts')).length) (λb=>D b/\b≠a) (rs (λb=>b=a) G) (λi=>if i=0 then some a else none) (qt N (.ref a::ts')) (.un::(ds.map Sl.sh++List.replicate (N.length-(ds.length+1)) .un)) G n:=by
  refine ⟨⟨DA,λb hb=>by rw [YA (D:=λb=>b=a) hb.2];exact hd b hb.1,λi p e=>?_,λi p e=>?_,λi j p e e'=>?_,by simp [qt,hs.length],λi d' e=>?_,λi es e=>?_⟩,rfl,by simp [qt],rfl,lf,⟨by simp [qt],rfl⟩⟩
  ·split at e
   ·cases e;unfold rs;exact zn rfl
   ·cases e
  ·split at e
   ·cases e;exact ga
   ·cases e
  ·split at e
   ·split at e'
    ·rename_i h1 h2;rw [h1,h2]
    ·cases e'
   ·cases e
  ·rw [ad];cases i with
   |zero=>cases e
   |succ i=>
    rw [getElem?_cons_succ] at e;by_cases hi:i<ds.length
    ·rw [List.getElem?_append_left (by simpa using hi),getElem?_map] at e;obtain ⟨d2,e3,e4⟩:=Option.map_eq_some_iff.mp e;cases e4;obtain ⟨x,e5,hx⟩:=hs.get e3;refine ⟨x,?_,hx⟩;unfold qt;rw [List.getElem?_append_left (by simp [hs.length];exact hi),getElem?_map,getElem?_cons_succ,e5];rfl
    ·rw [List.getElem?_append_right (by simpa using hi),List.getElem?_replicate] at e;split at e<;>cases e
  ·cases i with
   |zero=>cases e
   |succ i=>
    rw [getElem?_cons_succ] at e;by_cases hi:i<ds.length
    ·rw [List.getElem?_append_left (by simpa using hi),getElem?_map] at e;obtain ⟨d2,e3,e4⟩:=Option.map_eq_some_iff.mp e;cases e4
    ·rw [List.getElem?_append_right (by simpa using hi),List.getElem?_replicate] at e;split at e<;>cases e
 have xe:∀ {G'},Ex (rs (λb=>b=a) G) G'->Ext a G G':=λe b o n x=>e b o (by rw [YA (D:=λb=>b=a) n];exact x);refine b.ok r hw λo m hq=>?_;cases o with
 |rt d f=>
  intro x G' E L Dx0 N;have Dx:=Dx0;rw [rr] at Dx;obtain ⟨hq1,m2,hm,hq2⟩:=hq;refine h x d G' m2 hq2 (xe E) (L.mono (by omega)) Dx λz=>?_;rcases N (hq1 z) with h2|⟨p,xs,ds',h1,h2,c,g,f'⟩
  ·exact .inl h2
  have np:p≠a:=by
   rintro rfl;rw [h1] at Dx0;cases Dx0 with
   |lst g0 _=>exact (zd g0).1 (.inr rfl)
  refine .inr ⟨p,xs,ds',h1,h2,by rw [YA (D:=λb=>b=a) np] at c;exact c,g,f'.up (JT λb z=>?_)⟩;rcases z with z|z
  ·exact .inl ((DD b).mpr z)
  ·exact .inr z
 |nx ρ=>
  obtain ⟨hq1,m2,hm,hq2⟩:=hq;exact λA τ G' r'=>h .non .none G' m2 hq2 (xe r'.r.ex) (r'.lf.mono (by omega)) .non λz=>by rw [hq1] at z;cases z
 |bk ρ=>exact hq.elim
 |ct ρ=>exact hq.elim
end Pu
namespace Pu
open PySem L2 L3
open Bk (Lf Ext Dl Dr)
def okW:QO:=λo _=>match o with|.nx _=>True|.ct _=>True|_=>False
def qow (K:Int):TE3:=o3 j5 (c3 (.int 1)) (cb3 NS (qc (c3 (.int K)) (qc (cb3 JL (qc (v3 0) qi)) qi)))
def qhm {i:Nat} {τ:St3} {t:T} {G:Gp} {q:Q3} (h:τ[i]?=some (some t)):v3 i τ G q=q t G:=by unfold v3;rw [h]
def qoh (K:Int) (R:TS3):TS3:=qH (LK (ZI (qc (qow K) qi)) (gn3 1) (qH (zw (cb3 Bk.Y0 (qc (v3 0) (qc (v3 1) qi))) (gn3 2)) R)) (qV (c3 (.bl true)))
def qb0 {R:TS3} (b:PwS 2 R) (N:List Str) (K:Int) (M:Nat) (hK:0<=K/\K<=60) (hN:N.length=M+3) (h:∀ k:Nat,k<=60->b.w ([.un,.sh (.int k),.un]++List.replicate M .un) 0 okW):∀ ts G q,CU ts G q->ts.length=1/\qoh K R { nx:=λ_ G'=>q .non G',rt:=q } (qt N ts) G:=by
 rintro ts G q ⟨a,ns,rfl,hG,hl,hq⟩;refine ⟨rfl,?_⟩;have s0:(qt N [T.ref a])[0]?=some (some (.ref a)):=by simp [qt]
 have gl:getL G a=some (ns.map T.int):=by unfold getL;rw [hG]
 simp only [qoh,qH,LK,ZI,qow,qc,qi,o3,c3,cb3,v3,s0,JL,gl,NS,j5,length_map];have cnt:((1+(if ((ns.length:Nat):Int)<K then ((ns.length:Nat):Int) else K)).toNat)<=61:=by split<;>omega
 refine ⟨⟨by split<;>omega,by split<;>omega⟩,?_⟩;refine W9 _ (λ_ τ G'=>G' a=some (.frz (ns.map T.int))/\τ[0]?=some (some (.ref a))/\τ.length=M+3) ⟨hG,s0,by simp [qt,hN]⟩ (λ_ _ _ _ _=>True.intro) ?_ ?_
 ·rintro i z τ G' nx hz ⟨gA,t0,tl⟩ hn;obtain ⟨hi,rfl⟩:=qar hz;have hi2:i<=60:=by omega
  have t1:(τ.set 1 (some (T.int (0+(i:Int)))))[0]?=some (some (.ref a)):=by rw [getElem?_set,if_neg (by omega)];exact t0
  have t2:(τ.set 1 (some (T.int (0+(i:Int)))))[1]?=some (some (T.int (0+(i:Int)))):=by rw [getElem?_set,if_pos rfl,if_pos (by omega)]
  show v3 0 (τ.set 1 (some (T.int (0+(i:Int))))) G' (λx G1=>v3 1 (τ.set 1 (some (T.int (0+(i:Int))))) G1 λy G2=>Bk.Y0 [x,y] G2 λz G3=>R _ ((τ.set 1 (some (T.int (0+(i:Int))))).set 2 (some z)) G3);rw [qhm t1,qhm t2];refine ⟨a,_,ns,rfl,gA,hl,by omega,by omega,λp o c hp ho=>?_⟩;have pa:a≠p:=by rintro rfl;rw [gA] at hp;cases hp
  have r:RL 2 p (some (some (.ref a)),M+3) (λ_=>False) G' (λj=>if j=2 then some p else none) ((τ.set 1 (some (T.int (0+(i:Int))))).set 2 (some (.ref p))) ([.un,.sh (.int i),.un]++List.replicate M .un) (gu G' p (.lst [.int o,.int c,.int 0])) 0:=by
   refine ⟨⟨VE hp,λb z=>z.elim,λj q e=>?_,λj q e=>?_,λj k q e e'=>?_,by simp [tl],λj d e=>?_,λj ds e=>?_⟩,rfl,by rw [getElem?_set,if_pos rfl,if_pos (by simp;omega)],rfl,⟨o,c,0,qL,ho,by omega,by omega⟩,⟨by rw [getElem?_set,if_neg (by omega)];exact t1,by simp [tl]⟩⟩
   ·split at e
    ·cases e;exact hp
    ·cases e
   ·split at e
    ·cases e;rw [qL];simp
    ·cases e
   ·split at e
    ·split at e'
     ·rename_i h1 h2;rw [h1,h2]
     ·cases e'
    ·cases e
   ·match j,e with
    |0,e=>cases e
    |1,e=>
     cases e;refine ⟨.int (0+(i:Int)),by rw [getElem?_set,if_neg (by omega)];exact t2,?_⟩;rw [Int.zero_add];exact .int _
    |2,e=>cases e
    |j+3,e=>
     simp only [cons_append,List.nil_append,getElem?_cons_succ,List.getElem?_replicate] at e;split at e<;>cases e
   ·match j,e with
    |0,e=>cases e
    |1,e=>cases e
    |2,e=>cases e
    |j+3,e=>
     simp only [cons_append,List.nil_append,getElem?_cons_succ,List.getElem?_replicate] at e;split at e<;>cases e
  refine b.ok r (h i hi2) λo' m ho'=>?_;cases o' with
  |nx ρ'=>exact λA τ' G2 r2=>hn _ _ ⟨r2.r.ex _ _ gA,r2.tz.1,r2.tz.2⟩
  |ct ρ'=>exact λA τ' G2 r2=>hn _ _ ⟨r2.r.ex _ _ gA,r2.tz.1,r2.tz.2⟩
  |bk ρ'=>exact ho'.elim
  |rt d f=>exact ho'.elim
 ·rintro τ G' ⟨gA,t0,tl⟩;exact hq G'
def qfZ {G:Gp} {ts:List T} (h:Dqs G ts []):ts=[]:=by cases h;rfl
def qnr {G:Gp} {ts:List T} {i:Int} (h:Dqs G ts [.int i]):ts=[.int i]:=by
 cases h with
 |cons a b=>cases b;cases a;rfl
def lfc {G:Gp} {a:Addr} {n c:Nat} (h:Lf G a ((n:Int)+(c:Int))):Lf G a ((n+c:Nat):Int):=by rw [Int.natCast_add];exact h
def EK:DrD Bk.qA:=⟨λds n Q=>∃ m:Int,ds=[.int m]/\(1<=m/\m<1073741824)/\n<1000000000/\∀ d:Int,0<=d->d<m->Q (.int d) (n+1),false,
 λ⟨m,h1,h2,h3,h4⟩ k=>⟨m,h1,h2,h3,λd x y=>k _ _ (h4 d x y)⟩,λ{D G a n ts ds q Q} lf da hd hs ⟨m,h1,h2,h3,h4⟩ k=>by
 subst h1;have:=qnr hs;subst this;exact ⟨a,n,m,rfl,h2.1,h2.2,lf,by omega,λd G' x y L E=>k _ _ G' (n+1) (h4 d x y) E (lfc (c:=1) L) (.int d) (λz=>by cases z)⟩⟩
def RW:DrD Bk.QS:=⟨λds n Q=>ds=[]/\n<100000/\∀ d:Dl,Dr d 16 16 32->d.dep<=2->Q (Pv.dlD d) (n+1000),false,
 λ⟨h1,h3,h4⟩ k=>⟨h1,h3,λd x y=>k _ _ (h4 d x y)⟩,λ{D G a n ts ds q Q} lf da hd hs ⟨h1,h3,h4⟩ k=>by
 subst h1;have:=qfZ hs;subst this;exact ⟨a,n,rfl,lf,by omega,λd G' a1 a2 L E=>k _ _ G' (n+1000) (h4 d a1 a2) E (lfc (c:=1000) L) (Pv.qgn _ _) (λz=>by cases z)⟩⟩
def qgS (n:Nat):FnD (Bk.QQ (n+1)):=⟨λds=>match ds with|[d,e]=>cif (d=e/\Bk.X8 n d) (some (.bool true)) none|_=>none,false,λ{D G xs ds v q} hx hd hf k=>by
 split at hf
 ·unfold cif at hf;split at hf
  ·rename_i c;cases hf;obtain ⟨rfl,c⟩:=c;cases hx with
   |cons x b=>cases b with
    |cons y b=>
     cases b;exact ⟨_,_,_,rfl,(x.up DA).dp,(y.up DA).dp,c,λG' E=>k _ _ E (.bl true) (λz=>by cases z)⟩
  ·cases hf
 ·cases hf⟩
def qgE {n:Nat} {d:PyData} (h:Bk.X8 n d):(qgS n).f [d,d]=some (.bool true):=zn ⟨rfl,h⟩
def qg9 {l:Nat} {t:TE3} {b:PuE t}:(eOf (l:=l) b).w=λρ n Q=>∃ d,b.f ρ=some d/\Q d n:=id rfl
def qkn {l:Nat} {t:TT3} {b:PuC t}:(cOf (l:=l) b).w=λρ n Q=>∃ d,b.f ρ=some d/\Q d n:=id rfl
def qhG {l:Nat} {t:TA3} {b:PuA t}:(aOf (l:=l) b).w=λρ n Q=>∃ d,b.f ρ=some d/\Q d n:=id rfl
def qha {l:Nat} {t:TI3} {b:PuI t}:(iOf (l:=l) b).w=λρ n Q=>∃ d,b.f ρ=some d/\Q d n:=id rfl
def qoJ {l:Nat} {r:R3} {ta tb:TE3} {R:OpD r} {a:PwE l ta} {b:PwE l tb}:(eO R a b).w=λρ n Q=>a.w ρ n λx n1=>b.w ρ n1 λy n2=>∃ v,R.f x y=some v/\Q v n2:=id rfl
def qaQ {l:Nat} {ta:TE3} {tr:TA3} {a:PwE l ta} {r:PwA l tr}:(KQ a r).w=λρ n Q=>a.w ρ n λx n1=>r.w ρ n1 λxs n2=>Q (x::xs) n2:=id rfl
def qdC {l:Nat} {t:TA3} {b:PwA l t} {hn:Tru (Nat.ble b.k 1000)}:(qmp b hn).w=λρ n Q=>b.w ρ n λxs n1=>Q (.tuple xs) n1:=id rfl
def qh5 {l:Nat} {r:List T->Gp->Q3->Prop} {t:TA3} {R:DrD r} {b:PwA l t}:(eDr R b).w=λρ n Q=>b.w ρ n λxs n1=>R.W xs n1 Q:=id rfl
def qjc {l:Nat} {t:TE3} {b:PwE l t}:(cTb b).w=λρ n Q=>b.w ρ n λd n1=>∃ k,asB d=some k/\Q k n1:=id rfl
def qew {l:Nat} {t:TI3} {b:PuI t}:(iOf (l:=l) b).nm=b.nm:=id rfl
def qdR {l:Nat} {t:TE3} {b:PuE t}:(eOf (l:=l) b).nw=b.nw:=id rfl
def qki {l:Nat} {r:R3} {ta tb:TE3} {R:OpD r} {a:PwE l ta} {b:PwE l tb}:(eO R a b).nw=R.nw:=id rfl
def qdh {l:Nat} {r:List T->Gp->Q3->Prop} {t:TA3} {R:DrD r} {b:PwA l t}:(eDr R b).nw=R.nw:=id rfl
def qaR {l:Nat}:(UD (l:=l)).w=λρ n Q=>Q (.nx ρ) n:=id rfl
def qeP {l:Nat} {t u:TS3} {x:PwS l t} {y:PwS l u}:(U2 x y).w=λρ n Q=>x.w ρ n (sqw y.w Q):=id rfl
def qeg {b:Rho->Nat->QO->Prop} {Q:QO} {ρ:Rho} {n:Nat}:sqw b Q (.nx ρ) n=b ρ n Q:=id rfl
def qdz {b:Rho->Nat->QO->Prop} {Q:QO} {d:PyData} {f:Bool} {n:Nat}:sqw b Q (.rt d f) n=Q (.rt d f) n:=id rfl
def qkL {l:Nat} {c:TT3} {t u:TS3} {pc:PwC l c} {x:PwS l t} {y:PwS l u}:(wIf pc x y).w=λρ n Q=>pc.w ρ n λk n1=>if k then x.w ρ n1 Q else y.w ρ n1 Q:=id rfl
def qeD {l:Nat} {t:TE3} {x:PwE l t}:(CY x).w=λρ n Q=>x.w ρ n λd n1=>Q (.rt d x.nw) n1:=id rfl
def qdg {l:Nat} {t:TE3} {x:PwE l t} {i:Nat} {m:List Bool} {hm:Tru (x.fv.all (mkb m))} {hl:Tru (!mkb m l&&(i != l&&i != 0))}:(NI x i m hm hl).w=λρ n Q=>x.w ρ n λd n1=>Q (.nx (TX m x.nw i d ρ)) n1:=id rfl
def N8 {l:Nat} {t:TE3} {g:TG3} {x:PwE l t} {pg:PuG g} {m:List Bool} {hm:Tru (x.fv.all (mkb m))} {hl:Tru (!mkb m l&&pg.tg.all (λi=>i != l&&i != 0))}:(qhl x pg m hm hl).w=λρ n Q=>x.w ρ n λd n1=>∃ bs,pg.f d=some bs/\Q (.nx (D9 (dm m ρ) bs)) n1:=id rfl
def qdS {l:Nat} {t:TA3} {x:PwA l t} {i j:Nat} {m:List Bool} {hm:Tru (x.fv.all (mkb m))} {hl:Tru (!mkb m l&&((i != l&&i != 0)&&(j != l&&j != 0)))}:(ql6 x i j m hm hl).w=λρ n Q=>x.w ρ n λds n1=>∃ o,qbT i j m ds ρ=some o/\Q o n1:=id rfl
def qeq {l:Nat} {wi:TI3} {g:TG3} {tb:TS3} {pi:PwI l wi} {pg:PuG g} {pb:PwS l tb} {m:List Bool} {hm:Tru (pi.fv.all (mkb m))} {hl:Tru (!mkb m l&&pg.tg.all (λi=>i != l&&i != 0))}:(qoa pi pg pb m hm hl).w=λρ n Q=>pi.w ρ n λds n1=>qcD pg.f pb.w ds (if pi.nm then ρ else dm m ρ) n1 Q:=id rfl
def qaU {ds:List PyData} {n:Nat} {Q:QD}:EK.W ds n Q=(∃ m:Int,ds=[.int m]/\(1<=m/\m<1073741824)/\n<1000000000/\∀ d:Int,0<=d->d<m->Q (.int d) (n+1)):=id rfl
def CO {ds:List PyData} {n:Nat} {Q:QD}:RW.W ds n Q=(ds=[]/\n<100000/\∀ d:Dl,Dr d 16 16 32->d.dep<=2->Q (Pv.dlD d) (n+1000)):=id rfl
def MD:EK.nw=false:=id rfl
def XE:RW.nw=false:=id rfl
def qiq {w:Wm} {fr:Bool}:(dSp w fr).W=w.W:=id rfl
def qdd {w:Wm} {fr:Bool}:(dSp w fr).nw=fr:=id rfl
def qbe {Q:QD} {d:PyData} {b:Bool} {n:Nat}:qfa false Q (.rt d b) n=∃ m,n<=m/\Q d m:=propext ⟨λh=>h.2,λh=>⟨λz=>(Bool.false_ne_true z).elim,h⟩⟩
def qdZ {ρ:Rho} {n:Nat}:okW (.nx ρ) n=True:=id rfl
def qju {α:Type} {v:α} {P:α->Prop}:(∃ d,some v=some d/\P d)=P v:=propext ⟨λ⟨d,h1,h2⟩=>by cases h1;exact h2,λh=>⟨v,rfl,h⟩⟩
def qei {v:Int} {P:Int->Prop}:(∃ m:Int,[PyData.int v]=[.int m]/\P m)=P v:=propext ⟨λ⟨d,h1,h2⟩=>by cases h1;exact h2,λh=>⟨v,rfl,h⟩⟩
def qeH {m:List Bool} {nw:Bool} {i:Nat} {d:Dl} {ρ:Rho}:TX m nw i (Pv.dlD d) ρ=(dm m ρ).set i (.sh (Pv.dlD d)):=by cases d<;>exact qfg
def jw {l:Nat} {t u:TS3} {x:PwS l t} {y:PwS l u} {ρ:Rho} {n:Nat} {Q:QO} (h:∀ Y:Rho->Nat->QO->Prop,Y=y.w->x.w ρ n (sqw Y Q)):(U2 x y).w ρ n Q:=h _ rfl
structure Mn (bw:Rho->Nat->QO->Prop):Prop where
 h:∀ ρ n (Q Q':QO),bw ρ n Q->(∀ o m,Q o m->Q' o m)->bw ρ n Q'
def PwS.mn {l:Nat} {t:TS3} (b:PwS l t):Mn b.w:=⟨λ_ _ _ _ h k=>b.mono h k⟩
section
variable {l:Nat} {g:TG3} {tb:TS3}
def qcZ {gf:PyData->Option (List (Nat×PyData))} {bw:Rho->Nat->QO->Prop} {α:Type} {f:α->PyData} (xs:List α) (mono:Mn bw) (I:Nat->Rho->Nat->Prop) {ρ:Rho} {n:Nat} {Q:QO} (h0:I 0 ρ n)
  (hs:∀ i x ρ n,xs[i]?=some x->I i ρ n->∃ bs,gf (f x)=some bs/\bw (D9 ρ bs) n λo m=>match o with|.nx ρ'=>I (i+1) ρ' m|.ct ρ'=>I (i+1) ρ' m|.bk ρ'=>Q (.nx ρ') m|.rt d b=>Q (.rt d b) m)
  (k:∀ ρ n,I xs.length ρ n->Q (.nx ρ) n):qcD gf bw (xs.map f) ρ n Q:=by
 have key:∀ (r:List α) (i:Nat) (ρ:Rho) (n:Nat),xs.drop i=r->i<=xs.length->I i ρ n->qcD gf bw (r.map f) ρ n Q:=by
  intro r;induction r with
  |nil=>
   intro i ρ n e hi h;have:i=xs.length:=by
    have:=congrArg List.length e;simp at this;omega
   subst this;exact k ρ n h
  |cons x r ih=>
   intro i ρ n e hi h;have hl:i<xs.length:=by
    have:=congrArg List.length e;simp at this;omega
   have e':=List.drop_eq_getElem_cons hl;rw [e] at e';injection e' with e1 e2;obtain ⟨bs,h1,h2⟩:=hs i x ρ n (by rw [getElem?_eq_getElem hl,e1]) h;refine ⟨bs,h1,mono.h _ _ _ _ h2 λo m h=>?_⟩;cases o with
   |nx ρ'=>exact ih (i+1) ρ' m e2.symm hl h
   |ct ρ'=>exact ih (i+1) ρ' m e2.symm hl h
   |bk ρ'=>exact h
   |rt d b=>exact h
 exact key xs 0 ρ n (by simp) (Nat.zero_le _) h0
end
def qaZ {α β:Type} {x:α} {f:α->Option β}:(some x).bind f=f x:=id rfl
def qen {α β:Type} {x:α} {f:α->β}:(some x).map f=some (f x):=id rfl
def qhH {α:Type} {x:α} {r:List α}:(x::r).length=r.length+1:=id rfl
def qib {α:Type}:([]:List α).length=0:=id rfl
def qkE {α:Type} {x y:α} {r:List α}:(x::r).set 0 y=y::r:=id rfl
def qiA {α:Type} {x y:α} {r:List α} {i:Nat}:(x::r).set (i+1) y=x::r.set i y:=id rfl
def qk5 {α:Type} {r:List α}:r++[]=r:=List.append_nil r
def qjZ {α:Type} {x:α} {r s:List α}:(x::r)++s=x::(r++s):=id rfl
def qjj {α:Type} {s:List α}:[]++s=s:=id rfl
def qje {n:Nat}:0+n=n:=Nat.zero_add n
def qkB {p:Prop}:(True/\p)=p:=true_and p
def qjG {α:Type} {a b:α} {i:Decidable True}:@ite α True i a b=a:=if_pos trivial
def qkk {α:Type} {a b:α} {i:Decidable False}:@ite α False i a b=b:=if_neg not_false
def qjr:(false=true)=False:=Bool.false_eq_true
def qkH:(!true)=false:=id rfl
def qlt:(!false)=true:=id rfl
def qjl {i:Decidable True}:@decide True i=true:=decide_true i
def qjO {i:Decidable False}:@decide False i=false:=decide_false i
def qhj {b:Bool}:(b&&true)=b:=Bool.and_true b
def qkA {b:Bool}:(true&&b)=b:=Bool.true_and b
def qkf {b:Bool}:(false&&b)=false:=Bool.false_and b
def qjf {b:Bool}:(b&&false)=false:=Bool.and_false b
def ai{a b:Prop}(x:a)(y:b):a/\b:=⟨x,y⟩
def pwA:=(ai (ai (ai (ai (ai (ai (ai @Pu.qg9 @Pu.qkn) (ai @Pu.qhG (ai @Pu.qha @Pu.qoJ))) (ai (ai @Pu.qaQ (ai @Pu.qdC @Pu.qh5)) (ai @Pu.qjc (ai @Pu.qew @Pu.qdR)))) (ai (ai (ai @Pu.qki (ai @Pu.qdh @Pu.qaR)) (ai @Pu.qeP (ai @Pu.qeg @Pu.qdz))) (ai (ai @Pu.qkL (ai @Pu.qeD @Pu.qdg)) (ai @Pu.N8 (ai @Pu.qdS @Pu.qeq))))) (ai (ai (ai (ai @Pu.qaU @Pu.CO) (ai @Pu.MD (ai @Pu.XE @Pu.qiq))) (ai (ai @Pu.qdd (ai @Pu.qbe @Pu.qdZ)) (ai @Pu.qei (ai @Pu.qeH @Pu.qlf)))) (ai (ai (ai @Pu.qoq (ai @Pu.qdt @Pu.qie)) (ai @Pu.qeA (ai @Pu.qd9 @Pu.qot))) (ai (ai @Pu.qc2 (ai @Pu.qaB @Pu.qdo)) (ai @Pu.qer (ai @Pu.N2 @Pu.qj2)))))) (ai (ai (ai (ai (ai @Pu.qdu @Pu.qkp) (ai @Pu.qeG (ai @Pu.qky @Pu.qbN))) (ai (ai @Pu.qbn (ai @Pu.qhp @Pu.qd2)) (ai @Pu.qdr (ai @Pu.qey @Pu.qi7)))) (ai (ai (ai @Pu.qio (ai @Pu.qiS @Pu.qhc)) (ai @Pu.qds (ai @Pu.qdN @Pu.qem))) (ai (ai @Pu.qeJ (ai @Pu.qdc @Pu.qea)) (ai @Pu.qeO (ai @Pu.qbx @Pu.qk1))))) (ai (ai (ai (ai @Pu.qjt (ai @Pu.qkR @Pu.qdb)) (ai @Pu.qeI (ai @Pu.qd4 @Pu.qbF))) (ai (ai @Pu.qdW (ai @Pu.qeR @Pu.qc5)) (ai @Pu.qal (ai @Pu.qos @Pu.qeu)))) (ai (ai (ai @Pu.qaq (ai @Pu.qdl @Pu.qaS)) (ai @Pu.qdP (ai @Pu.qhD @Pu.qda))) (ai (ai @Pu.qdx (ai @Pu.qaD @Pu.qd3)) (ai @Pu.qdG (ai @Pu.qhu @Pu.qaP))))))) (ai (ai (ai (ai (ai (ai @Pu.qec @Pu.qbs) (ai @Pu.qlg (ai @Pu.qbM @Pu.qah))) (ai (ai @Pu.LX (ai @Pu.LJ @Pu.ML)) (ai @Pu.qeM (ai @Pu.qdw @Pu.N5)))) (ai (ai (ai @Pu.qbl (ai @Pu.qaL @Pu.qbw)) (ai @Pu.qbB (ai @Pu.qdI @Pu.qn5))) (ai (ai @Pu.qof (ai @Pu.qjT @Pu.qig)) (ai @Pu.qeZ (ai @Pu.qg7 @Pu.at0))))) (ai (ai (ai (ai @Pu.at1 @Pu.at2) (ai @Pu.at3 (ai @Pu.eqS @Pu.eqI))) (ai (ai @Pu.eqB (ai @Pu.qop @Pu.qc4)) (ai @Pu.qef (ai @Pu.qdY @Pu.qd1)))) (ai (ai (ai @Pu.qka (ai @Pu.qkd @Pu.qc9)) (ai @Pu.qc0 (ai @Pu.qbk @Pu.MB))) (ai (ai @Pu.qdA (ai @Pu.qdD @Pu.qeF)) (ai @Pu.VH (ai @Pu.qeN @Pu.qjp)))))) (ai (ai (ai (ai (ai @Pu.qkm @Pu.qkl) (ai @Pu.qks (ai @Pu.qlr @Pu.qkK))) (ai (ai @Pu.qhh (ai @Pu.qhN @Pu.qhP)) (ai @Pu.qhi (ai @Pu.qfg @Pu.qdi)))) (ai (ai (ai @Pu.qeV (ai @Pu.qov @Pu.qoE)) (ai @Pu.qou (ai @Pu.qh4 @Pu.qlp))) (ai (ai @Pu.qj8 (ai @Pu.qhK @Pu.qox)) (ai @Pu.qhg (ai @Pu.qed @Pu.qeS))))) (ai (ai (ai (ai @Pu.qdF (ai @Pu.qju @Pu.qaZ)) (ai @Pu.qen (ai @Pu.qhH @Pu.qib))) (ai (ai @Pu.qkE (ai @Pu.qiA @Pu.qk5)) (ai @Pu.qjZ (ai @Pu.qjj @Pu.qje)))) (ai (ai (ai @Pu.qkB (ai @Pu.qjG @Pu.qkk)) (ai @Pu.qjr (ai @Pu.qkH @Pu.qlt))) (ai (ai @Pu.qjl (ai @Pu.qjO @Pu.qhj)) (ai @Pu.qkA (ai @Pu.qkf @Pu.qjf))))))))
end Pu
namespace Bk
open PySem L2 L3
end Bk
namespace Pu
open PySem L2 L3
open Bk (Lf Ext Dl Dr)
def the (S:PyData->Prop):Option PyData:=@dite _ (∃ v,S v) (Classical.propDecidable _) (λh=>some (Classical.choose h)) λ_=>none
end Pu
namespace Pu
open PySem L2 L3
open Bk (Lf Ext Dl Dr SD SDs j6 KK qY UW ZK EU RT DJ)
def qfr:∀ d:Dl,d.Ok->SD (d.dep+4) (8000*4 ^ d.dep) (Pv.dlD d)
 |.skew r c b x y,ok=>by
  simp only [Dl.Ok] at ok;refine (j6 (k:=2) (n:=20) ?_).mono (by simp [Dl.dep]) (by simp [Dl.dep]);refine qY (EU (n:=4) 2 (by decide) (by decide)) (m:=15) (qY (n:=0) (m:=12) (ZK _ _ (by omega)) (qY (n:=0) (m:=9) (ZK _ _ (by omega)) (qY (n:=0) (m:=6) (ZK _ _ (by omega)) (qY (n:=0) (m:=3) (ZK _ _ (by omega)) (qY (n:=0) (m:=0) (ZK _ _ (by omega)) (UW _ _) (by omega)) (by omega)) (by omega)) (by omega)) (by omega)) (by omega)
 |.rests r c b p,ok=>by
  simp only [Dl.Ok] at ok;refine (j6 (k:=2) (n:=20) ?_).mono (by simp [Dl.dep]) (by simp [Dl.dep]);refine qY (EU (n:=5) 2 (by decide) (by decide)) (m:=12) (qY (n:=0) (m:=9) (ZK _ _ (by omega)) (qY (n:=0) (m:=6) (ZK _ _ (by omega)) (qY (n:=0) (m:=3) (ZK _ _ (by omega)) (qY (n:=0) (m:=0) (ZK _ _ (by omega)) (UW _ _) (by omega)) (by omega)) (by omega)) (by omega)) (by omega)
 |.bits h l ms,ok=>by
  simp only [Dl.Ok] at ok;have p8:(2:Int) ^ (h+l)<=2 ^ 8:=by
   have:=Nat.pow_le_pow_right (n:=2) (by omega) (show h+l<=8 by omega);have e1:((2 ^ (h+l):Nat):Int)=2 ^ (h+l):=by simp
   have e2:((2 ^ 8:Nat):Int)=2 ^ 8:=by simp
   omega
  have e:(2:Int) ^ 8=256:=by decide
  refine (j6 (k:=2) (n:=30) ?_).mono (by simp [Dl.dep]) (by simp [Dl.dep]);refine qY (EU (n:=4) 2 (by decide) (by decide)) (m:=16) (qY (n:=0) (m:=12) (ZK _ _ (by omega)) (qY (n:=0) (m:=8) (ZK _ _ (by omega)) (qY (n:=ms.length) (m:=0) (j6 (k:=1) (RT λm hm=>by have:=ok.2.2.2 m hm;omega)) (UW _ _) (by omega)) (by omega)) (by omega)) (by omega)
 |.table b cells,ok=>by
  obtain ⟨b1,b2,l1,l2,c,c1,c2,hc⟩:=ok;have rows:SDs 2 (cells.length*(60+1)) (cells.map Pv.qg5):=by
   have:=DJ (k:=2) (n:=60) (ds:=cells.map Pv.qg5) (λd hd=>by
    obtain ⟨r,hr,rfl⟩:=mem_map.mp hd;have h:=hc r hr;exact (j6 (k:=1) (RT λm hm=>by have:=h.2 m hm;omega)).mono (by omega) (by rw [h.1];exact c2))
   rwa [length_map] at this
  refine (j6 (k:=3) (n:=4000) ?_).mono (by simp [Dl.dep]) (by simp [Dl.dep]);refine qY (EU (n:=5) 3 (by decide) (by decide)) (m:=3900) (qY (n:=0) (m:=3800) (ZK _ _ (by omega)) (qY (n:=cells.length*(60+1)) (m:=0) (j6 (k:=2) rows) (UW _ _) (by omega)) (by omega)) (by omega)
 |.joined d e,ok=>by
  simp only [Dl.Ok] at ok;have a:=qfr d ok.1;have b:=qfr e ok.2.1;have m1:4 ^ d.dep<=4 ^ max d.dep e.dep:=Nat.pow_le_pow_right (by omega) (Nat.le_max_left ..);have m2:4 ^ e.dep<=4 ^ max d.dep e.dep:=Nat.pow_le_pow_right (by omega) (Nat.le_max_right ..);have p0:1<=4 ^ max d.dep e.dep:=Nat.pow_pos (by omega);show SD (max d.dep e.dep+1+4) (8000*4 ^ (max d.dep e.dep+1)) (.tuple [.str "joined",Pv.dlD d,Pv.dlD e]);rw [Nat.pow_succ];generalize 4 ^ max d.dep e.dep=P at m1 m2 p0;generalize hM:max d.dep e.dep=M;have d1:d.dep<=M:=by rw [← hM];exact Nat.le_max_left ..
  have d2:e.dep<=M:=by rw [← hM];exact Nat.le_max_right ..
  refine j6 (k:=M+4) ?_;exact qY (n:=6) (m:=16000*P+10) (EU _ _ (by decide) (by decide)) (qY (n:=8000*P) (m:=8000*P+5) (a.mono (by omega) (by omega)) (qY (n:=8000*P) (m:=0) (b.mono (by omega) (by omega)) (UW _ _) (by omega)) (by omega)) (by omega)
end Pu
namespace Pu
open PySem L2 L3
def SH (st:Bool):List PyData->Option PyData
 |[.none]=>some (.str "None")
 |[.bool b]=>some (.str (if b=true then Str.ofString "True" else Str.ofString "False"))
 |[.int i]=>cif (i.natAbs.log2<1920) (some (.str (Str.ofString (toString i)))) none
 |[.str x]=>match st with
  |true=>some (.str x)
  |false=>cif ((reprText x).length<=sizeLine) (some (.str (reprText x))) none
 |[.list ds]=>cif (ShW (.list ds)) (some (.str (PyData.list ds).shown)) none
 |[.tuple ds]=>cif (ShW (.tuple ds)) (some (.str (PyData.tuple ds).shown)) none
 |_=>none
def YW {α:Type} {c:Prop} {x:α} {d:α} (h:cif c (some x) none=some d):c/\x=d:=by
 unfold cif at h;split at h
 ·rename_i z;exact ⟨z,Option.some.inj h⟩
 ·cases h
def K9 (st:Bool):FnD (SS st):=⟨SH st,false,λ{D G xs ds v q} hx hd hf k=>by
 cases hx with
 |nil=>cases hf
 |cons a b=>
  cases b with
  |cons b1 b2=>cases a<;>cases hf
  |nil=>
   have dp:=(a.up DA).dp;have fin:∀ (x:Str) {w:PyData},w=v->w=.str x->q (.str x) G:=λx w e1 e2=>k _ _ Ex.refl (by rw [← e1,e2];exact .str _) (λz=>by cases z);cases a with
   |non=>exact fin _ (Option.some.inj hf) rfl
   |bl b=>exact fin _ (Option.some.inj hf) rfl
   |int i=>exact ⟨(YW hf).1,fin _ (YW hf).2 rfl⟩
   |str x=>
    cases st with
    |true=>exact fin _ (Option.some.inj hf) rfl
    |false=>exact ⟨(YW hf).1,fin _ (YW hf).2 rfl⟩
   |tup hs=>exact ⟨_,dp,(YW hf).1,fin _ (YW hf).2 rfl⟩
   |lst g hs=>exact ⟨_,dp,(YW hf).1,fin _ (YW hf).2 rfl⟩⟩
def RD {st:Bool}:(K9 st).f=SH st:=id rfl
def WK {st:Bool}:(K9 st).nw=false:=id rfl
def qh7 {st:Bool} {ds:List PyData} (h:ShW (.list ds)):SH st [.list ds]=some (.str (PyData.list ds).shown):=zn h
def qhX {st:Bool} {ds:List PyData} (h:ShW (.tuple ds)):SH st [.tuple ds]=some (.str (PyData.tuple ds).shown):=zn h
def log2_lt {n k:Nat} (h:n<2 ^ k) (hk:0<k):n.log2<k:=by
 rcases Nat.eq_zero_or_pos n with z|z
 ·subst z;simpa using hk
 ·exact (Nat.log2_lt (by omega)).mpr h
def qkU {st:Bool} {i:Int} (h:-1000000000<=i/\i<=1000000000):SH st [.int i]=some (.str (Str.ofString (toString i))):=zn (Nat.lt_of_lt_of_le (log2_lt (k:=30) (by omega) (by decide)) (by decide))
def qiG {st b:Bool}:SH st [.bool b]=some (.str (if b=true then Str.ofString "True" else Str.ofString "False")):=id rfl
def nbD:PyData->Option Int
 |.int i=>some i
 |.bool k=>some (if k=true then 1 else 0)
 |_=>none
def qgG {G:Gp} {x:T} {d:PyData} (h:Dq G x d):nbT x=nbD d:=by cases h<;>rfl
def nID (f:Int->Int->Int) (d e:PyData):Option PyData:=match nbD d,e with|some i,.int j=>some (.int (f i j))|_,_=>none
def opN (f:Int->Int->Int):OpD (nI3 f):=⟨nID f,false,λ{D G x y d e v q} hx hy hd hf k=>by
 unfold nID at hf;unfold nI3;rw [qgG hx];split at hf
 ·rename_i i j e1;cases hy;cases hf;rw [e1];exact k _ _ Ex.refl (.int _) (λz=>by cases z)
 ·cases hf⟩
def qmI {f:Int->Int->Int}:(opN f).f=nID f:=id rfl
def qix {f:Int->Int->Int}:(opN f).nw=false:=id rfl
def qfn (s:String):((Str.ofString s).cps.toList.all λc=>decide (c<16 ^ 8))=true:=by
 rw [Str.ofString_eq_toList];rw [List.all_eq_true];intro c hc;obtain ⟨x,_,rfl⟩:=mem_map.mp hc;have h:x.val.toNat<2 ^ 32:=x.val.toNat_lt;have e:16 ^ 8=4294967296:=by decide
 have e2:x.toNat=x.val.toNat:=rfl;rw [decide_eq_true_eq,e2,e];exact h
def qgi (k:Nat) {i:Int} (h:-1000000<=i/\i<=1000000):Bk.SD k 13 (.str (Str.ofString (toString i))):=by
 refine Bk.EU k 13 ?_ (qfn _);have:=PyProof.Rows.intsShortAll_ints2 [i] (by intro n hn;simp at hn;subst hn;omega);simp only [map_cons,List.map_nil,PyData.intsShortAll,PyData.intsShort,Bool.and_true,decide_eq_true_eq] at this;exact this
def qkS {ds:List PyData} {r:Int} (h0:0<=r) (h1:r<(ds.length:Int)):∃ v∈ds,L2.atI ds r=some v:=by
 obtain ⟨j,rfl⟩:=Int.eq_ofNat_of_zero_le h0;have hj:j<ds.length:=by omega
 exact ⟨ds[j],List.getElem_mem hj,by rw [atN hj,getElem?_eq_getElem hj]⟩
def qjB {ds:List PyData} {r:Int} {P:PyData->Prop} (n:Nat) (hl:ds.length=n) (h0:0<=r) (h1:r<(n:Int)) (h:∀ v∈ds,P v):∃ v,L2.atI ds r=some v/\P v:=by
 obtain ⟨v,hv,e⟩:=qkS (ds:=ds) h0 (by rw [hl];exact h1);exact ⟨v,e,h v hv⟩
def qlP:List PyData->Option PyData
 |[.int x,.int y]=>cif (0<=x/\0<=y) (some (.int (Int.gcd x y:Nat))) none
 |_=>none
def qmb:FnD Bk.ZX:=⟨qlP,false,λ{D G xs ds v q} hx hd hf k=>by
 cases hx with
 |nil=>cases hf
 |cons a b=>
  cases b with
  |nil=>cases a<;>cases hf
  |cons b c=>
   cases c with
   |cons _ _=>cases a<;>cases b<;>cases hf
   |nil=>
    cases a<;>cases b<;>try (cases hf;done)
    rename_i x y;unfold qlP cif at hf;simp only at hf;split at hf
    ·rename_i z;cases hf;exact ⟨x,y,rfl,z.1,z.2,k _ _ Ex.refl (.int _) (λz=>by cases z)⟩
    ·cases hf⟩
def qkt:qmb.f=qlP:=id rfl
def qmg {x y:Int} (h:0<=x/\0<=y):qlP [.int x,.int y]=some (.int (Int.gcd x y:Nat)):=zn h
def wNo:Wm:=⟨λ_ _ _=>False,λh _=>h⟩
def Fn3.dz {P:Program} {w:World} {K:Frg} {mg:Str->Option Value} {base:Heap} {k:Nat} {x:Str} {sp:Sp3} (F:Fn3 P w K mg base k x sp) (fr:Bool):Fn3 P w K mg base k x (DSp wNo.W fr):=F.imp λts G q ⟨_,_,_,_,_,_,_,_,_,_,_,h,_⟩=>h.elim
def M8 (d e:PyData):Option PyData:=match d,e with
 |.str x,.str y=>cif (x.length+y.length<=sizeLine) (some (.str (x++y))) none
 |_,_=>none
def LN:OpD qbp:=⟨M8,false,λ{D G x y d e v q} hx hy hd hf k=>by
 unfold M8 at hf;cases hx with
 |str s=>
  cases hy<;>try (simp at hf;done)
  simp only [cif] at hf;split at hf
  ·rename_i c;cases hf;exact ⟨c,k _ _ Ex.refl (.str _) (λz=>by cases z)⟩
  ·cases hf
 |_=>simp at hf⟩
def C9:LN.f=M8:=id rfl
def XC:LN.nw=false:=id rfl
def qc8 {x y:Str} (h:x.length+y.length<=16777216):M8 (.str x) (.str y)=some (.str (x++y)):=zn (by rw [sizeLine_eq];exact h)
def qcC (d e:PyData):Option PyData:=match d,e with
 |.tuple _,.str _=>some (.bool false)
 |.list _,.str _=>some (.bool false)
 |d,e=>eqD false d e
def NB:OpD qb5:=⟨qcC,false,λ{D G x y d e v q} hx hy hd hf k=>by
 have hx':=hx;have hy':=hy;cases hx with
 |tup hs=>
  cases hy with
  |str s=>cases hf;exact k _ _ Ex.refl (.bl _) (λz=>by cases z)
  |_=>exact (ZN false).ok hx' hy' hd hf k
 |lst g hs=>
  cases hy with
  |str s=>
   simp only [qb5,(zd g).2];cases hf;exact k _ _ Ex.refl (.bl _) (λz=>by cases z)
  |_=>exact (ZN false).ok hx' hy' hd hf k
 |_=>exact (ZN false).ok hx' hy' hd hf k⟩
def UI:NB.f=qcC:=id rfl
def qmB {xs:List PyData} {s:Str}:qcC (.tuple xs) (.str s)=some (.bool false):=id rfl
def qnV {xs:List PyData} {s:Str}:qcC (.list xs) (.str s)=some (.bool false):=id rfl
def qn0 {x s:Str}:qcC (.str x) (.str s)=eqD false (.str x) (.str s):=id rfl
def qfz:List PyData->Option PyData
 |[.str x]=>cif (x.length<=sizeLine) (some (.int x.length)) none
 |_=>none
def qgT:FnD JL:=⟨qfz,false,λ{D G xs ds v q} hx hd hf k=>by
 cases hx with
 |nil=>cases hf
 |cons a b=>
  cases b with
  |cons b1 b2=>cases a<;>cases hf
  |nil=>
   cases a with
   |str x=>
    have:=YW hf;refine ⟨this.1,?_⟩;exact k _ _ Ex.refl (by rw [← this.2];exact .int _) (λz=>by cases z)
   |_=>cases hf⟩
def qgq:qgT.f=qfz:=id rfl
def qcP:qgT.nw=false:=id rfl
def qhq (d e:PyData):Option PyData:=match d,e with
 |.str z,.int i=>cif (z.length<=sizeLine) ((atI z.cps.toList i).map λc=>.str ⟨#[c]⟩) none
 |_,_=>none
def qfw:OpD qlN:=⟨qhq,false,λ{D G x y d e v q} hx hy hd hf k=>by
 unfold qhq at hf;cases hx with
 |str s=>
  cases hy with
  |int i=>
   simp only [cif] at hf;split at hf
   ·rename_i c;obtain ⟨w,e1,e2⟩:=Option.map_eq_some_iff.mp hf;subst e2;refine ⟨c,?_⟩;rw [e1];exact k _ _ Ex.refl (.str _) (λz=>by cases z)
   ·cases hf
  |_=>simp at hf
 |_=>simp at hf⟩
def qgV:qfw.f=qhq:=id rfl
def qcT:qfw.nw=false:=id rfl
def MU (d e:PyData):Option PyData:=match d,e with
 |.str x,.int k=>cif (k=0) (some (.str ⟨#[]⟩)) (cif (k=1) (some (.str x)) none)
 |_,_=>none
def qaF:OpD qcj:=⟨MU,false,λ{D G x y d e v q} hx hy hd hf k=>by
 unfold MU at hf;cases hx with
 |str s=>
  cases hy with
  |int i=>
   simp only [cif] at hf;split at hf
   ·rename_i c;cases hf;exact .inl ⟨c,k _ _ Ex.refl (.str _) (λz=>by cases z)⟩
   ·split at hf
    ·rename_i c;cases hf;exact .inr ⟨c,k _ _ Ex.refl (.str _) (λz=>by cases z)⟩
    ·cases hf
  |_=>simp at hf
 |_=>simp at hf⟩
def RG:qaF.f=MU:=id rfl
def W6:qaF.nw=false:=id rfl
def qg0 (d:PyData) (lo hi:Option Int):Option PyData:=match d with
 |.str z=>cif ((Txt.slice z lo hi).length<=sizeLine) (some (.str (Txt.slice z lo hi))) none
 |_=>none
def qlL {te:TE3} {tl th:TO3} (a:PuE te) (l:PuO tl) (h:PuO th):PuE (qcM te tl th):=⟨λρ=>(a.f ρ).bind λd=>(l.f ρ).bind λlo=>(h.f ρ).bind λhi=>qg0 d lo hi,a.fv++(l.fv++h.fv),false,λhv hd hf k=>by
 obtain ⟨d,e1,hf⟩:=obb hf;obtain ⟨lo,e2,hf⟩:=obb hf;obtain ⟨hi,e3,hf⟩:=obb hf;refine a.ok hv.l hd e1 λx' G1 E1 D1 _=>l.ok (hv.r.l.up E1) (hd.up E1) e2 λG2 E2=>h.ok (hv.r.r.up (E1.trans E2)) (hd.up (E1.trans E2)) e3 λG3 E3=>?_;have E:=(E1.trans E2).trans E3;have D3:=(D1.up (VJ E2)).up (VJ E3);unfold qg0 at hf;cases D3 with
 |str s=>
  simp only [cif] at hf;split at hf
  ·rename_i c;cases hf;exact ⟨c,k _ _ E (.str _) (λz=>by cases z)⟩
  ·cases hf
 |_=>simp at hf⟩
def qaY {te:TE3} {tl th:TO3} {a:PuE te} {l:PuO tl} {h:PuO th} {ρ:Rho}:(qlL a l h).f ρ=(a.f ρ).bind λd=>(l.f ρ).bind λlo=>(h.f ρ).bind λhi=>qg0 d lo hi:=id rfl
def KC {te:TE3} {tl th:TO3} {a:PuE te} {l:PuO tl} {h:PuO th}:(qlL a l h).nw=false:=id rfl
def nGD (d e:PyData):Option PyData:=match nbD d,e with|some i,.int j=>some (.bool (decide (j<i)))|_,_=>none
def nRD (d e:PyData):Option PyData:=match d,nbD e with|.int i,some j=>some (.int (i-j))|_,_=>none
def qiT:OpD nG3:=⟨nGD,false,λ{D G x y d e v q} hx hy hd hf k=>by
 unfold nGD at hf;unfold nG3;rw [qgG hx];split at hf
 ·rename_i i j e1;cases hy;cases hf;rw [e1];exact k _ _ Ex.refl (.bl _) (λz=>by cases z)
 ·cases hf⟩
def qk4:OpD nR3:=⟨nRD,false,λ{D G x y d e v q} hx hy hd hf k=>by
 unfold nRD at hf;unfold nR3;rw [qgG hy];split at hf
 ·rename_i i j e1;cases hx;cases hf;rw [e1];exact k _ _ Ex.refl (.int _) (λz=>by cases z)
 ·cases hf⟩
def qjs:qiT.f=nGD:=id rfl
def qfG:qiT.nw=false:=id rfl
def qlk:qk4.f=nRD:=id rfl
def qff:qk4.nw=false:=id rfl
def qg1:List PyData->Option PyData
 |[.tuple xs]=>(EY xs).bind λns=>cif (ns≠[]) (some (.int (mx ns))) none
 |_=>none
def qhW:FnD qa7:=⟨qg1,false,λ{D G xs ds v q} hx hd hf k=>by
 unfold qg1 at hf;split at hf
 ·obtain ⟨ns,e,hf⟩:=obb hf;unfold cif at hf;split at hf
  ·rename_i c;cases hf;cases hx with
   |cons a b=>
    cases b;cases a;rename_i hs;have:=MJ e;subst this;have:=hs.ints;subst this;simp only [qa7,qaM];refine ⟨c,λm hm hl=>?_⟩;have:m=mx ns:=Int.le_antisymm (qfs hm) (hl _ (qaV c));subst this;exact k _ _ Ex.refl (.int _) (λz=>by cases z)
  ·cases hf
 ·cases hf⟩
def qgB:qhW.f=qg1:=id rfl
def qnE {ns:List Int} (h:ns≠[]):qg1 [.tuple (ns.map PyData.int)]=some (.int (mx ns)):=by simp only [qg1,qan,Option.bind_some];exact zn h
end Pu
namespace Pv
open PySem L2 L3 Pu
open Bk (Dl)
def sh1 {n:Nat} (h:n<=1000):cI TW (λi j=>i*2 ^ j.toNat) (.int 1) (.int (n:Int))=some (.int (2 ^ n)):=by
 rw [qjC ⟨by omega,by omega,by decide⟩,Int.one_mul,Int.toNat_natCast]
end Pv
namespace Pv
open PySem L2 L3 Pu
open Bk (Dl)
end Pv
namespace Hd
open PySem L2 L3 PySem.W
def oF (x:Str) (st:Stmt) (pm cd:Value):Obj:=⟨.type "function",none,.func (PySem.W.fnOf x x (YR st) (QF st) (qk st) .none .none .none pm none cd .none),#[]⟩
def oG (x:Str) (st:Stmt):Obj:=⟨.none,none,.func { name:=x,qualname:=x,params:=YR st,body:=.stmts (QF st),scope:=qk st,globals:=0,closure:=[],defaults:=.none,kwdefaults:=.none },#[]⟩
def oC (vs:List Value):Obj:=⟨.type "code",none,.fields vs.toArray,#[]⟩
def oT (vs:List Value):Obj:=⟨.type "tuple",none,.seq vs.toArray 0,#[]⟩
def eD (P:Params):Value×Value->DictEntry
 | (.str x t,v)=>⟨PyData.keyHash P x,.str x t,v⟩
 | (u,v)=>⟨0,u,v⟩
def oD (P:Params) (n:Nat) (es:List (Value×Value)):Obj:=⟨.type "dict",none,.dict (es.map (eD P)).toArray n,#[]⟩
def oK (x:Str) (t l n m:Nat) (a b:Addr) (u v z:Value) (e y q:Nat):Obj:=oC [.str x t,.str x (t+1),.str "/claim/cut.py" (t+2),.int l 0,.int n 0,.int 0 0,.int 0 0,.int 3 0,.ref a,.bool true,.int m 0,.ref b,u,v,z,.ref e,.int y 0,.int l 0,.str "/claim/cut.py" q]
def nmV:List Str->Nat->List Value
 |[],_=>[]
 |x::r,t=>.str x t::nmV r (t+1)
def oN (xs:List Str) (t:Nat):Obj:=oT (nmV xs t)
abbrev nd (o:Obj) (l r:PySem.W.BT):PySem.W.BT:=.node o l r
abbrev lf (o:Obj):PySem.W.BT:=.node o .nil .nil
def jI {K:Frg} (x:Str) (st:Stmt) (f:Addr) (pm cd:Value) (l:K.lookup f=some (oF x st pm cd)) (c:PySem.W.codeIn K cd x=true) (k:PySem.W.keepIn K (.ref f)=true) :
  Fun K x x st f (PySem.W.fnOf x x (YR st) (QF st) (qk st) .none .none .none pm none cd .none):=qia l c k
def jH {K:Frg} {h:Heap} {mg:Str->Option Value} (X:K.In h) (G:h.Ns mainGlobals mg) (n:Str) (v:Value) (e:PySem.W.nsIn K mainGlobals n=some (some v)):mg n=some v:=PySem.W.mg_of X G e
def U8 {K:Frg} {h:Heap} {mg:Str->Option Value} (X:K.In h) (G:h.Ns mainGlobals mg) (n:Str) (e:PySem.W.nsIn K mainGlobals n=some none):mg n=none:=PySem.W.mg_none_of X G e
def head {l:OpenLaw} {q:Program} {loose:List Str} {K:Params->Frag} {as:List Addr} {d:DefRec} {N:Nat} {k:Nat} {x:Str} (ha:∀ P,as=(K P).map (·.1))
  (ok:l.wellSaid=true)
  (left:LeftO l.prog q loose (λs=>xlAt q [] s&&recOk [] s) (λs=>as.map s.heap.get?) (λw=>(K w.params).map λp=>some p.2) N)
  (hdef:defOf q l.name=some (d,[])) (hp:l.prog.theDef l.name=some (d.params,d.body,d.scope)) (hk:kwWritten? d.params.kwonlyargs d.params.kw_defaults=some [])
  (hwr:(!l.row.writes||l.row.records.isEmpty)=true) (ok2:(chainsOk q&&opensWell l.prog&&(frees l.row.toRowW&&l.row.within.isEmpty))=true) (hb:l.prog.bare) (hw:l.row.toRowW.promised)
  (hn:l.most=some 63) (hdf:d.params.defaults=[]) (hr:Room k callerA) (hK:∀ w:World,DU (K w.params)=true)
  (F:∀ (w:World) (mg:Str->Option Value) (fa:Addr) (h:Heap),(K w.params).In h->h.Ns mainGlobals mg->mg d.name=some (.ref fa) ->
   ∃ fd:FuncData,(∀ (s:Shared) (u:Value),BindsTo s fd ⟨[u],[]⟩ [(x,u)])/\∀ base:Heap,(K w.params).In base->base.Ns mainGlobals mg->FnOk l.prog w (K w.params) mg base CX0 k fa fd [x] (lSp (K w.params) CU)):l.Holds:=by
 refine holds_law ok λsaid=>?_;exact holds_open (q:=q) (loose:=loose) (Xt:=λs=>xlAt q [] s&&recOk [] s) (XP:=XL q []) (Yf:=Hook.obs (kHook K as ha)) (Ya:=Hook.val (kHook K as ha)) (YP:=Hook.says (kHook K as ha)) (N:=N) left
  (Hook.of (kHook K as ha)) (Hook.keeps (kHook K as ha)) (λs e=>xl_of s (Bool.and_eq_true_iff.mp e).1) XL.keeps hdef hp hk (λs e=>recFacts_of (Bool.and_eq_true_iff.mp e).2) hwr said ok2 hb hw
  (L3.qm6 (l:=l) (k:=k) (x:=x) hn hdf hr (λw h Y=>kIn_of Y) hK F)
end Hd
namespace K09
open PySem L2 L3 Bk
def top (i : Nat) : Stmt := PySem.Challenge.pw_bankwalk_k09_whole_dealings_spoilt_anywh.main.body.getD i (.Pass ⟨0,0,0,0⟩)
variable {P:Program} {w:World} {K:Frg} {mg:Str->Option Value} {base:Heap} {f:Addr} {fd:FuncData} {k:Nat} {sp:Sp3}
abbrev Q1:Stmt:=top 1
abbrev YX:List Str:=["thing"]
abbrev UM:List Str:=["thing"]
def TQ:FnScope YX UM (qk Q1):=⟨rfl,rfl,rfl,by decide +kernel,rfl,by decide +kernel,by decide +kernel⟩
def SM (F:Fun K "is_number" "is_number" Q1 f fd) (bd:zX K fd UM []) (hm:mg "is_number" = some (.ref f))  (m_isinstance:mg "isinstance" = none) (m_bool:mg "bool" = none) (m_int:mg "int" = none)
  (read:Rd sp 1 (Bk.YU) YX):Fn3 P w K mg base (k+1) "is_number" sp:=
 qQ (t3:=(Bk.YU)) F TQ bd hm (λcdv A outer s H E hr=>(qm (qp (zV (zU (qb 0) rfl m_isinstance rfl m_int PyProof.Rows.boot_int) (ZF (qaE (zU (qb 0) rfl m_isinstance rfl m_bool PyProof.Rows.boot_bool))))))) read
abbrev jJ:Stmt:=top 2
abbrev QH:List Str:=["thing","least"]
abbrev YI:List Str:=["thing","least"]
def X7:FnScope QH YI (qk jJ):=⟨rfl,rfl,rfl,by decide +kernel,rfl,by decide +kernel,by decide +kernel⟩
def ZP (S_is_number:Sp3):TS3:=(qV (ji (cb3 S_is_number (qc (v3 0) qi)) (o3 (iB λi j=>decide (j<=i)) (v3 0) (v3 1))))
def X6 {S_is_number:Sp3} (F:Fun K "is_at_least" "is_at_least" jJ f fd) (bd:zX K fd YI []) (hm:mg "is_at_least" = some (.ref f)) (jo:Fn3 P w K mg base k "is_number" S_is_number) 
  (read:Rd sp 2 (ZP S_is_number) QH):Fn3 P w K mg base (k+1) "is_at_least" sp:=
 qQ (t3:=(ZP S_is_number)) F X7 bd hm (λcdv A outer s H E hr=>(qm (qp (zV (qh jo hr rfl (qa (qb 0) qe)) (ZF (zC qaN jN (qb 0) (qb 1) (qo _))))))) read
abbrev jt:Stmt:=top 3
abbrev QT:List Str:=["things","least"]
abbrev JX:List Str:=["things","least"]
def W1:FnScope QT JX (qk jt):=⟨rfl,rfl,rfl,by decide +kernel,rfl,by decide +kernel,by decide +kernel⟩
def QW (S_is_at_least:Sp3):TS3:=(qV (cb3 X2 (qc (lc3 (UB (v3 0)) (gn3 0) tt3 (cb3 S_is_at_least (qc (v3 0) (qc (v3 1) qi))) [none,some 1]) qi)))
def XD {S_is_at_least:Sp3} (F:Fun K "are_at_least" "are_at_least" jt f fd) (bd:zX K fd JX []) (hm:mg "are_at_least" = some (.ref f)) (qM:Fn3 P w K mg base k "is_at_least" S_is_at_least) (m_all:mg "all" = none)
  (read:Rd sp 2 (QW S_is_at_least) QT):Fn3 P w K mg base (k+1) "are_at_least" sp:=
 qQ (t3:=(QW S_is_at_least)) F W1 bd hm (λcdv A outer s H E hr=>(qm (qp (qq (qX rfl) JZ rfl m_all PyProof.Rows.boot_all (qa (U1 ["thing","least"] [none,some 1] rfl (VY (qb 0)) (λ_ _ _=>(jgn 0)) (λ_ _ _=>QA) (λ_ _ _=>(qh qM hr rfl (qa (qb 0) (qa (qb 1) qe)))) (by kernel_rfl) (by kernel_rfl)) qe))))) read
abbrev zD:Stmt:=top 5
abbrev zN:List Str:=["one","other"]
abbrev QC:List Str:=["one","other"]
def JI:FnScope zN QC (qk zD):=⟨rfl,rfl,rfl,by decide +kernel,rfl,by decide +kernel,by decide +kernel⟩
def jj:TS3:=(qH (C6 (tb3 (o3 (iB λi j=>decide (j<i)) (v3 1) (c3 (.int 0)))) (WD 0 1 (qc (v3 1) (qc (o3 (iC (λ_ j=>0<j) (·%·)) (v3 0) (v3 1)) qi)))) (qV (o3 (zF false) (v3 0) (c3 (.int 1)))))
def UK (F:Fun K "share_no_divisor" "share_no_divisor" zD f fd) (bd:zX K fd QC []) (hm:mg "share_no_divisor" = some (.ref f))  
  (read:Rd sp 2 (jj) zN):Fn3 P w K mg base (k+1) "share_no_divisor" sp:=
 qQ (t3:=(jj)) F JI bd hm (λcdv A outer s H E hr=>(qf (LL PassesOwn.never (qx K8 jN (qb 1) qd (qo _)) (qm (ER (i:=0) (j:=1) rfl JI.nd rfl rfl (by decide) rfl rfl (qa (qb 1) (qa (UG (qb 0) (qb 1)) qe))))) (qm (qp (zC (qJ hr.units) qs (qb 0) qd (qo _)))))) read
abbrev YC:Stmt:=top 6
abbrev EN:List Str:=["thing"]
abbrev WQ:List Str:=["thing"]
def MZ:FnScope EN WQ (qk YC):=⟨rfl,rfl,rfl,by decide +kernel,rfl,by decide +kernel,by decide +kernel⟩
def U7 (S_are_at_least:Sp3):TS3:=(qV (ji (o3 (zF false) (cb3 JL (qc (v3 0) qi)) (c3 (.int 6))) (ji (cb3 S_are_at_least (qc (CA (v3 0) (sp3 (c3 (.int 1))) (sp3 (c3 (.int 4)))) (qc (c3 (.int 1)) qi))) (cb3 S_are_at_least (qc (CA (v3 0) (sp3 (c3 (.int 4))) np3) (qc (c3 (.int 0)) qi))))))
def M5 {S_are_at_least:Sp3} (F:Fun K "is_skew" "is_skew" YC f fd) (bd:zX K fd WQ []) (hm:mg "is_skew" = some (.ref f)) (qj:Fn3 P w K mg base k "are_at_least" S_are_at_least) (m_len:mg "len" = none)
  (read:Rd sp 1 (U7 S_are_at_least) EN):Fn3 P w K mg base (k+1) "is_skew" sp:=
 qQ (t3:=(U7 S_are_at_least)) F MZ bd hm (λcdv A outer s H E hr=>(qm (qp (zV (zC (qJ hr.units) qs (qq qD qW rfl m_len PySem.boot_len (qa (qb 0) qe)) qd (qo _)) (zV (qh qj hr rfl (qa (jB (qb 0) (qN qd) (qN qd)) (qa qd qe))) (ZF (qh qj hr rfl (qa (jB (qb 0) (qN qd) zH) (qa qd qe))))))))) read
abbrev Z6:Stmt:=top 7
abbrev J3:List Str:=["thing","rows","columns","banks","places"]
abbrev DR:List Str:=["thing"]
def Z5:FnScope J3 DR (qk Z6):=⟨rfl,rfl,rfl,by decide +kernel,rfl,by decide +kernel,by decide +kernel⟩
def VZ (S_are_at_least:Sp3) (S_share_no_divisor:Sp3):TS3:=(qH (zJ (or3 (tb3 (o3 (zF true) (cb3 JL (qc (v3 0) qi)) (c3 (.int 5)))) (UE (tb3 (cb3 S_are_at_least (qc (CA (v3 0) (sp3 (c3 (.int 1))) np3) (qc (c3 (.int 1)) qi)))))) (qV (c3 (.bl false))) qy) (qH (zw (CA (v3 0) (sp3 (c3 (.int 1))) np3) (QK 4 (qC (gn3 1) (qC (gn3 2) (qC (gn3 3) (qC (gn3 4) QI)))))) (qV (ji (cb3 S_share_no_divisor (qc (v3 3) (qc (v3 4) qi))) (o3 (iB λi j=>decide (j<=i)) (o3 (iC V9 (·*·)) (v3 3) (v3 4)) (o3 (iC V9 (·*·)) (v3 1) (v3 2)))))))
def KY {S_are_at_least:Sp3} {S_share_no_divisor:Sp3} (F:Fun K "is_rests" "is_rests" Z6 f fd) (bd:zX K fd DR []) (hm:mg "is_rests" = some (.ref f)) (qj:Fn3 P w K mg base k "are_at_least" S_are_at_least) (qP:Fn3 P w K mg base k "share_no_divisor" S_share_no_divisor) (m_len:mg "len" = none)
  (read:Rd sp 1 (VZ S_are_at_least S_share_no_divisor) J3):Fn3 P w K mg base (k+1) "is_rests" sp:=
 qQ (t3:=(VZ S_are_at_least S_share_no_divisor)) F Z5 bd hm (λcdv A outer s H E hr=>(qf (ze (jpt (JW (qx (J7 hr.units) QR (qq qD qW rfl m_len PySem.boot_len (qa (qb 0) qe)) qd (qo _)) (ZL (jD (zG (qh qj hr rfl (qa (jB (qb 0) (qN qd) zH) (qa qd qe)))))))) (qm (qp J8)) qz) (qf (VC (jB (qb 0) (qN qd) zH) (VG rfl (qT (qO (i:=1) (Z5.nd)) (qT (qO (i:=2) (Z5.nd)) (qT (qO (i:=3) (Z5.nd)) (qT (qO (i:=4) (Z5.nd)) VF)))))) (qm (qp (zV (qh qP hr rfl (qa (qb 3) (qa (qb 4) qe))) (ZF (zC qaN jN (ZJ (qb 3) (qb 4)) (ZJ (qb 1) (qb 2)) (qo _))))))))) read
abbrev J2:Stmt:=top 8
abbrev EL:List Str:=["thing","high","low","masks"]
abbrev W5:List Str:=["thing"]
def V1:FnScope EL W5 (qk J2):=⟨rfl,rfl,rfl,by decide +kernel,rfl,by decide +kernel,by decide +kernel⟩
def EQ (S_are_at_least:Sp3):TS3:=(qH (zJ (or3 (tb3 (o3 (zF true) (cb3 JL (qc (v3 0) qi)) (c3 (.int 4)))) (UE (tb3 (cb3 S_are_at_least (qc (CA (v3 0) (sp3 (c3 (.int 1))) (sp3 (c3 (.int 3)))) (qc (c3 (.int 0)) qi)))))) (qV (c3 (.bl false))) qy) (qH (zw (CA (v3 0) (sp3 (c3 (.int 1))) np3) (QK 3 (qC (gn3 1) (qC (gn3 2) (qC (gn3 3) QI))))) (qH (zJ (or3 (UE (tb3 (J1 (λt=>zA t "tuple") (v3 3)))) (UE (tb3 (cb3 S_are_at_least (qc (v3 3) (qc (c3 (.int 0)) qi)))))) (qV (c3 (.bl false))) qy) (qV (cb3 X2 (qc (lc3 (UB (v3 3)) (gn3 0) tt3 (o3 (iB λi j=>decide (i<=j)) (bl3 (v3 0)) (o3 j5 (v3 1) (v3 2))) [none,some 1,some 2]) qi))))))
def M0 {S_are_at_least:Sp3} (F:Fun K "is_bits" "is_bits" J2 f fd) (bd:zX K fd W5 []) (hm:mg "is_bits" = some (.ref f)) (qj:Fn3 P w K mg base k "are_at_least" S_are_at_least) (m_len:mg "len" = none) (m_isinstance:mg "isinstance" = none) (m_tuple:mg "tuple" = none) (m_all:mg "all" = none)
  (read:Rd sp 1 (EQ S_are_at_least) EL):Fn3 P w K mg base (k+1) "is_bits" sp:=
 qQ (t3:=(EQ S_are_at_least)) F V1 bd hm (λcdv A outer s H E hr=>(qf (ze (jpt (JW (qx (J7 hr.units) QR (qq qD qW rfl m_len PySem.boot_len (qa (qb 0) qe)) qd (qo _)) (ZL (jD (zG (qh qj hr rfl (qa (jB (qb 0) (qN qd) (qN qd)) (qa qd qe)))))))) (qm (qp J8)) qz) (qf (VC (jB (qb 0) (qN qd) zH) (VG rfl (qT (qO (i:=1) (V1.nd)) (qT (qO (i:=2) (V1.nd)) (qT (qO (i:=3) (V1.nd)) VF))))) (qf (ze (jpt (JW (jD (zG (zU (qb 3) rfl m_isinstance rfl m_tuple PyProof.Rows.boot_tuple))) (ZL (jD (zG (qh qj hr rfl (qa (qb 3) (qa qd qe)))))))) (qm (qp J8)) qz) (qm (qp (qq (qX rfl) JZ rfl m_all PyProof.Rows.boot_all (qa (U1 ["mask","high","low"] [none,some 1,some 2] rfl (VY (qb 3)) (λ_ _ _=>(jgn 0)) (λ_ _ _=>QA) (λ_ _ _=>(zC qb3 jN (qay (qb 0)) (zf (qb 1) (qb 2)) (qo _))) (by kernel_rfl) (by kernel_rfl)) qe)))))))) read
abbrev jK:Stmt:=top 9
abbrev ZT:List Str:=["thing","wide","banks"]
abbrev YG:List Str:=["thing","wide","banks"]
def X9:FnScope ZT YG (qk jK):=⟨rfl,rfl,rfl,by decide +kernel,rfl,by decide +kernel,by decide +kernel⟩
def ZS (S_are_at_least:Sp3):TS3:=(qH (zJ (or3 (UE (tb3 (J1 (λt=>zA t "tuple") (v3 0)))) (or3 (tb3 (o3 (zF true) (cb3 JL (qc (v3 0) qi)) (v3 1))) (UE (tb3 (cb3 S_are_at_least (qc (v3 0) (qc (c3 (.int 0)) qi))))))) (qV (c3 (.bl false))) qy) (qV (cb3 X2 (qc (lc3 (UB (v3 0)) (gn3 0) tt3 (o3 (iB λi j=>decide (i<j)) (v3 0) (v3 1)) [none,some 2]) qi))))
def CH {S_are_at_least:Sp3} (F:Fun K "is_bank_row" "is_bank_row" jK f fd) (bd:zX K fd YG []) (hm:mg "is_bank_row" = some (.ref f)) (qj:Fn3 P w K mg base k "are_at_least" S_are_at_least) (m_len:mg "len" = none) (m_isinstance:mg "isinstance" = none) (m_tuple:mg "tuple" = none) (m_all:mg "all" = none)
  (read:Rd sp 3 (ZS S_are_at_least) ZT):Fn3 P w K mg base (k+1) "is_bank_row" sp:=
 qQ (t3:=(ZS S_are_at_least)) F X9 bd hm (λcdv A outer s H E hr=>(qf (ze (jpt (JW (jD (zG (zU (qb 0) rfl m_isinstance rfl m_tuple PyProof.Rows.boot_tuple))) (JW (qx (J7 hr.units) QR (qq qD qW rfl m_len PySem.boot_len (qa (qb 0) qe)) (qb 1) (qo _)) (ZL (jD (zG (qh qj hr rfl (qa (qb 0) (qa qd qe))))))))) (qm (qp J8)) qz) (qm (qp (qq (qX rfl) JZ rfl m_all PyProof.Rows.boot_all (qa (U1 ["bank","banks"] [none,some 2] rfl (VY (qb 0)) (λ_ _ _=>(jgn 0)) (λ_ _ _=>QA) (λ_ _ _=>(zC qav jN (qb 0) (qb 1) (qo _))) (by kernel_rfl) (by kernel_rfl)) qe)))))) read
abbrev JA:Stmt:=top 10
abbrev V6:List Str:=["thing","banks","cells"]
abbrev DT:List Str:=["thing"]
def UQ:FnScope V6 DT (qk JA):=⟨rfl,rfl,rfl,by decide +kernel,rfl,by decide +kernel,by decide +kernel⟩
def V4 (S_is_at_least:Sp3) (S_is_bank_row:Sp3):TS3:=(qH (zJ (or3 (tb3 (o3 (zF true) (cb3 JL (qc (v3 0) qi)) (c3 (.int 3)))) (UE (tb3 (cb3 S_is_at_least (qc (o3 ix3 (v3 0) (c3 (.int 1))) (qc (c3 (.int 1)) qi)))))) (qV (c3 (.bl false))) qy) (qH (zw (CA (v3 0) (sp3 (c3 (.int 1))) np3) (QK 2 (qC (gn3 1) (qC (gn3 2) QI)))) (qH (zJ (or3 (UE (tb3 (J1 (λt=>zA t "tuple") (v3 2)))) (tb3 (o3 (zF false) (cb3 JL (qc (v3 2) qi)) (c3 (.int 0))))) (qV (c3 (.bl false))) qy) (qH (zJ (or3 (UE (tb3 (J1 (λt=>zA t "tuple") (o3 ix3 (v3 2) (c3 (.int 0)))))) (tb3 (o3 (zF false) (cb3 JL (qc (o3 ix3 (v3 2) (c3 (.int 0))) qi)) (c3 (.int 0))))) (qV (c3 (.bl false))) qy) (qV (cb3 X2 (qc (lc3 (UB (v3 2)) (gn3 0) tt3 (cb3 S_is_bank_row (qc (v3 0) (qc (cb3 JL (qc (o3 ix3 (v3 2) (c3 (.int 0))) qi)) (qc (v3 1) qi)))) [none,some 1,some 2]) qi)))))))
def T6 {S_is_at_least:Sp3} {S_is_bank_row:Sp3} (F:Fun K "is_table" "is_table" JA f fd) (bd:zX K fd DT []) (hm:mg "is_table" = some (.ref f)) (qM:Fn3 P w K mg base k "is_at_least" S_is_at_least) (zL:Fn3 P w K mg base k "is_bank_row" S_is_bank_row) (m_len:mg "len" = none) (m_isinstance:mg "isinstance" = none) (m_tuple:mg "tuple" = none) (m_all:mg "all" = none)
  (read:Rd sp 1 (V4 S_is_at_least S_is_bank_row) V6):Fn3 P w K mg base (k+1) "is_table" sp:=
 qQ (t3:=(V4 S_is_at_least S_is_bank_row)) F UQ bd hm (λcdv A outer s H E hr=>(qf (ze (jpt (JW (qx (J7 hr.units) QR (qq qD qW rfl m_len PySem.boot_len (qa (qb 0) qe)) qd (qo _)) (ZL (jD (zG (qh qM hr rfl (qa (qB (qb 0) qd) (qa qd qe)))))))) (qm (qp J8)) qz) (qf (VC (jB (qb 0) (qN qd) zH) (VG rfl (qT (qO (i:=1) (UQ.nd)) (qT (qO (i:=2) (UQ.nd)) VF)))) (qf (ze (jpt (JW (jD (zG (zU (qb 2) rfl m_isinstance rfl m_tuple PyProof.Rows.boot_tuple))) (ZL (qx (qJ hr.units) qs (qq qD qW rfl m_len PySem.boot_len (qa (qb 2) qe)) qd (qo _))))) (qm (qp J8)) qz) (qf (ze (jpt (JW (jD (zG (zU (qB (qb 2) qd) rfl m_isinstance rfl m_tuple PyProof.Rows.boot_tuple))) (ZL (qx (qJ hr.units) qs (qq qD qW rfl m_len PySem.boot_len (qa (qB (qb 2) qd) qe)) qd (qo _))))) (qm (qp J8)) qz) (qm (qp (qq (qX rfl) JZ rfl m_all PyProof.Rows.boot_all (qa (U1 ["row","banks","cells"] [none,some 1,some 2] rfl (VY (qb 2)) (λ_ _ _=>(jgn 0)) (λ_ _ _=>QA) (λ_ _ _=>(qh zL hr rfl (qa (qb 0) (qa (qq qD qW rfl m_len PySem.boot_len (qa (qB (qb 2) qd) qe)) (qa (qb 1) qe))))) (by kernel_rfl) (by kernel_rfl)) qe))))))))) read
abbrev Q4:Stmt:=top 11
abbrev jR:List Str:=["thing"]
abbrev UZ:List Str:=["thing"]
def SL:FnScope jR UZ (qk Q4):=⟨rfl,rfl,rfl,by decide +kernel,rfl,by decide +kernel,by decide +kernel⟩
def YF (S_is_dealing:Sp3):TS3:=(qV (ji (o3 (zF false) (cb3 JL (qc (v3 0) qi)) (c3 (.int 3))) (ji (cb3 S_is_dealing (qc (o3 ix3 (v3 0) (c3 (.int 1))) qi)) (cb3 S_is_dealing (qc (o3 ix3 (v3 0) (c3 (.int 2))) qi)))))
def qZ {S_is_dealing:Sp3} (F:Fun K "is_joined" "is_joined" Q4 f fd) (bd:zX K fd UZ []) (hm:mg "is_joined" = some (.ref f)) (F_is_dealing:Fn3 P w K mg base k "is_dealing" S_is_dealing) (m_len:mg "len" = none)
  (read:Rd sp 1 (YF S_is_dealing) jR):Fn3 P w K mg base (k+1) "is_joined" sp:=
 qQ (t3:=(YF S_is_dealing)) F SL bd hm (λcdv A outer s H E hr=>(qm (qp (zV (zC (qJ hr.units) qs (qq qD qW rfl m_len PySem.boot_len (qa (qb 0) qe)) qd (qo _)) (zV (qh F_is_dealing hr rfl (qa (qB (qb 0) qd) qe)) (ZF (qh F_is_dealing hr rfl (qa (qB (qb 0) qd) qe)))))))) read
abbrev j7:Stmt:=top 12
abbrev Q5:List Str:=["thing","kind"]
abbrev VU:List Str:=["thing"]
def ED:FnScope Q5 VU (qk j7):=⟨rfl,rfl,rfl,by decide +kernel,rfl,by decide +kernel,by decide +kernel⟩
def JQ (S_is_skew:Sp3) (S_is_rests:Sp3) (S_is_bits:Sp3) (S_is_table:Sp3) (S_is_joined:Sp3):TS3:=(qH (zJ (or3 (UE (tb3 (J1 (λt=>zA t "tuple") (v3 0)))) (tb3 (o3 (zF false) (cb3 JL (qc (v3 0) qi)) (c3 (.int 0))))) (qV (c3 (.bl false))) qy) (qH (zw (o3 ix3 (v3 0) (c3 (.int 0))) (gn3 1)) (qH (zJ (tb3 (o3 qb5 (v3 1) (c3 (.str "skew")))) (qV (cb3 S_is_skew (qc (v3 0) qi))) qy) (qH (zJ (tb3 (o3 qb5 (v3 1) (c3 (.str "rests")))) (qV (cb3 S_is_rests (qc (v3 0) qi))) qy) (qH (zJ (tb3 (o3 qb5 (v3 1) (c3 (.str "bits")))) (qV (cb3 S_is_bits (qc (v3 0) qi))) qy) (qH (zJ (tb3 (o3 qb5 (v3 1) (c3 (.str "table")))) (qV (cb3 S_is_table (qc (v3 0) qi))) qy) (qV (ji (o3 qb5 (v3 1) (c3 (.str "joined"))) (cb3 S_is_joined (qc (v3 0) qi))))))))))
def qS {S_is_skew:Sp3} {S_is_rests:Sp3} {S_is_bits:Sp3} {S_is_table:Sp3} {S_is_joined:Sp3} (F:Fun K "is_dealing" "is_dealing" j7 f fd) (bd:zX K fd VU []) (hm:mg "is_dealing" = some (.ref f)) (ZD:Fn3 P w K mg base k "is_skew" S_is_skew) (jZ:Fn3 P w K mg base k "is_rests" S_is_rests) (ZE:Fn3 P w K mg base k "is_bits" S_is_bits) (jY:Fn3 P w K mg base k "is_table" S_is_table) (F_is_joined:Fn3 P w K mg base k "is_joined" S_is_joined) (m_len:mg "len" = none) (m_isinstance:mg "isinstance" = none) (m_tuple:mg "tuple" = none)
  (read:Rd sp 1 (JQ S_is_skew S_is_rests S_is_bits S_is_table S_is_joined) Q5):Fn3 P w K mg base (k+1) "is_dealing" sp:=
 qQ (t3:=(JQ S_is_skew S_is_rests S_is_bits S_is_table S_is_joined)) F ED bd hm (λcdv A outer s H E hr=>(qf (ze (jpt (JW (jD (zG (zU (qb 0) rfl m_isinstance rfl m_tuple PyProof.Rows.boot_tuple))) (ZL (qx (qJ hr.units) qs (qq qD qW rfl m_len PySem.boot_len (qa (qb 0) qe)) qd (qo _))))) (qm (qp J8)) qz) (qf (zl 1 ED.nd (qB (qb 0) qd)) (qf (ze (qx (TJ hr.units) XA (qb 1) qI (qo _)) (qm (qp (qh ZD hr rfl (qa (qb 0) qe)))) qz) (qf (ze (qx (TJ hr.units) XA (qb 1) qI (qo _)) (qm (qp (qh jZ hr rfl (qa (qb 0) qe)))) qz) (qf (ze (qx (TJ hr.units) XA (qb 1) qI (qo _)) (qm (qp (qh ZE hr rfl (qa (qb 0) qe)))) qz) (qf (ze (qx (TJ hr.units) XA (qb 1) qI (qo _)) (qm (qp (qh jY hr rfl (qa (qb 0) qe)))) qz) (qm (qp (zV (zC (TJ hr.units) XA (qb 1) qI (qo _)) (ZF (qh F_is_joined hr rfl (qa (qb 0) qe))))))))))))) read
abbrev YD:Stmt:=top 13
abbrev VT:List Str:=["dealing","kind","rows","columns","banks","other_rows","other_columns","other_banks"]
abbrev XW:List Str:=["dealing"]
def jX:FnScope VT XW (qk YD):=⟨rfl,rfl,rfl,by decide +kernel,rfl,by decide +kernel,by decide +kernel⟩
def jh {S_size_of:Sp3} (F:Fun K "size_of" "size_of" YD f fd) (bd:zX K fd XW []) (hm:mg "size_of" = some (.ref f)) (F_size_of:Fn3 P w K mg base k "size_of" S_size_of) (m_len:mg "len" = none)
  (read:Rd sp 1 (Bk.EG S_size_of) VT):Fn3 P w K mg base (k+1) "size_of" sp:=
 qQ (t3:=(Bk.EG S_size_of)) F jX bd hm (λcdv A outer s H E hr=>(qf (zl 1 jX.nd (qB (qb 0) qd)) (qf (ze (qx (qJ hr.units) qs (qb 1) qI (qo _)) (qm (qp (qK (qa (qbi qd (qB (qb 0) qd)) (qa (qbi qd (qB (qb 0) qd)) (qa (qbi qd (qq qD qW rfl m_len PySem.boot_len (qa (qB (qb 0) qd) qe))) qe)))))) qz) (qf (ze (qx (qJ hr.units) qs (qb 1) qI (qo _)) (qm (qp (qK (qa (qq qD qW rfl m_len PySem.boot_len (qa (qB (qb 0) qd) qe)) (qa (qq qD qW rfl m_len PySem.boot_len (qa (qB (qB (qb 0) qd) qd) qe)) (qa (qB (qb 0) qd) qe)))))) qz) (qf (ze (qx (qJ hr.units) qs (qb 1) qI (qo _)) (qf (VC (qh F_size_of hr rfl (qa (qB (qb 0) qd) qe)) (VG rfl (qT (qO (i:=2) (jX.nd)) (qT (qO (i:=3) (jX.nd)) (qT (qO (i:=4) (jX.nd)) VF))))) (qf (VC (qh F_size_of hr rfl (qa (qB (qb 0) qd) qe)) (VG rfl (qT (qO (i:=5) (jX.nd)) (qT (qO (i:=6) (jX.nd)) (qT (qO (i:=7) (jX.nd)) VF))))) (qm (qp (qK (qa (ZJ (qb 2) (qb 5)) (qa (ZJ (qb 3) (qb 6)) (qa (ZJ (qb 4) (qb 7)) qe)))))))) qz) (qm (qp (qK (qa (qB (qb 0) qd) (qa (qB (qb 0) qd) (qa (qB (qb 0) qd) qe))))))))))) read
abbrev J5:Stmt:=top 15
abbrev WR:List Str:=["_law_cell","_law_k","_law_m"]
abbrev XO:List Str:=["_law_cell","_law_k"]
def C1:FnScope WR XO (qk J5):=⟨rfl,rfl,rfl,by decide +kernel,rfl,by decide +kernel,by decide +kernel⟩
def M7 (F:Fun K "_law_mix" "_law_mix" J5 f fd) (bd:zX K fd XO []) (hm:mg "_law_mix" = some (.ref f))  
  (read:Rd sp 2 (Bk.EA) WR):Fn3 P w K mg base (k+1) "_law_mix" sp:=
 qQ (t3:=(Bk.EA)) F C1 bd hm (λcdv A outer s H E hr=>(qf (zl 2 C1.nd (UG (ZJ (zf (zf (UG (qb 0) qd) (ZJ (ZJ (qb 1) (qb 1)) qd)) qd) qd) qd)) (qm (qp (UG (ZJ (qb 2) (qb 2)) qd))))) read
abbrev JJ:Stmt:=top 16
abbrev DO:List Str:=["_law_script","_law_k","_law_cell","_law_own"]
abbrev DS:List Str:=["_law_script","_law_k"]
def UY:FnScope DO DS (qk JJ):=⟨rfl,rfl,rfl,by decide +kernel,rfl,by decide +kernel,by decide +kernel⟩
def KZ (F:Fun K "_law_left" "_law_left" JJ f fd) (bd:zX K fd DS []) (hm:mg "_law_left" = some (.ref f))  (m_len:mg "len" = none) (m_abs:mg "abs" = none)
  (read:Rd sp 2 (Bk.V7) DO):Fn3 P w K mg base (k+1) "_law_left" sp:=
 qQ (t3:=(Bk.V7)) F UY bd hm (λcdv A outer s H E hr=>(qf (zl 2 UY.nd (qgs (qx qav jN (qb 1) (qq qD qW rfl m_len PySem.boot_len (qa (qb 0) qe)) (qo _)) (qB (qb 0) (qb 1)) qd)) (qf (zl 3 UY.nd (qgs (qx qaN jN (qq LY qad rfl m_abs PyProof.Rows.boot_abs (qa (qb 2) qe)) (qj0 qd qd) (qo _)) (qq LY qad rfl m_abs PyProof.Rows.boot_abs (qa (qb 2) qe)) qd)) (qm (qp (JB (qa (qb 3) (qa (zf (qb 2) (ZJ qd (qb 1))) (qa qd qe))))))))) read
abbrev JF:Stmt:=top 17
abbrev DE:List Str:=["_law_left_here","_law_many","_law_digit"]
abbrev DP:List Str:=["_law_left_here","_law_many"]
def WO:FnScope DE DP (qk JF):=⟨rfl,rfl,rfl,by decide +kernel,rfl,by decide +kernel,by decide +kernel⟩
def KF {S_law_mix:Sp3} (F:Fun K "_law_pick" "_law_pick" JF f fd) (bd:zX K fd DP []) (hm:mg "_law_pick" = some (.ref f)) (F_law_mix:Fn3 P w K mg base k "_law_mix" S_law_mix) 
  (read:Rd sp 2 (Bk.V5 S_law_mix) DE):Fn3 P w K mg base (k+1) "_law_pick" sp:=
 qQ (t3:=(Bk.V5 S_law_mix)) F WO bd hm (λcdv A outer s H E hr=>(qf (VC (zf (qB (qb 0) qd) qd) (qdV (qb 0) qd)) (qf (ze (qx K8 jN (qB (qb 0) qd) qd (qo _)) (qf (zl 2 WO.nd (UG (qB (qb 0) qd) (qb 1))) (qf (VC (LV (qB (qb 0) qd) (qb 1)) (qdV (qb 0) qd)) (qm (qp (qb 2))))) qz) (qm (qp (UG (LV (qh F_law_mix hr rfl (qa (qh F_law_mix hr rfl (qa (qB (qb 0) qd) (qa (qB (qb 0) qd) qe))) (qa (zf (qB (qb 0) qd) qd) qe))) qd) (qb 1))))))) read
abbrev ZC:Stmt:=top 18
abbrev UO:List Str:=["_law_left_here","_law_wide","_law_rows","_law_columns"]
abbrev UP:List Str:=["_law_left_here"]
def VM:FnScope UO UP (qk ZC):=⟨rfl,rfl,rfl,by decide +kernel,rfl,by decide +kernel,by decide +kernel⟩
def TU {S_law_pick:Sp3} (F:Fun K "_law_sides" "_law_sides" ZC f fd) (bd:zX K fd UP []) (hm:mg "_law_sides" = some (.ref f)) (F_law_pick:Fn3 P w K mg base k "_law_pick" S_law_pick) 
  (read:Rd sp 1 (Bk.YQ S_law_pick) UO):Fn3 P w K mg base (k+1) "_law_sides" sp:=
 qQ (t3:=(Bk.YQ S_law_pick)) F VM bd hm (λcdv A outer s H E hr=>(qf (zl 1 VM.nd (qB (JB (qa qd (qa qd (qa qd (qa qd qe))))) (qh F_law_pick hr rfl (qa (qb 0) (qa qd qe))))) (qf (ER (i:=2) (j:=3) rfl VM.nd rfl rfl (by decide) rfl rfl (qa (zf qd (qh F_law_pick hr rfl (qa (qb 0) (qa (qb 1) qe)))) (qa (zf qd (qh F_law_pick hr rfl (qa (qb 0) (qa (qb 1) qe)))) qe))) (qm (qp (qB (JB (qa (qK (qa (qb 2) (qa (qb 3) qe))) (qa (qK (qa (qb 2) (qa (qb 3) qe))) (qa (qK (qa (qb 2) (qa (qb 3) qe))) (qa (qK (qa (qb 2) (qa (qb 2) qe))) qe))))) (qh F_law_pick hr rfl (qa (qb 0) (qa qd qe))))))))) read
abbrev J4:Stmt:=top 19
abbrev WX:List Str:=["_law_one","_law_other"]
abbrev WN:List Str:=["_law_one","_law_other"]
def C8:FnScope WX WN (qk J4):=⟨rfl,rfl,rfl,by decide +kernel,rfl,by decide +kernel,by decide +kernel⟩
def NP (F:Fun K "_law_gcd" "_law_gcd" J4 f fd) (bd:zX K fd WN []) (hm:mg "_law_gcd" = some (.ref f))  
  (read:Rd sp 2 (Bk.EC) WX):Fn3 P w K mg base (k+1) "_law_gcd" sp:=
 qQ (t3:=(Bk.EC)) F C8 bd hm (λcdv A outer s H E hr=>(qf (LL PassesOwn.never (qx K8 jN (qb 1) qd (qo _)) (qm (ER (i:=0) (j:=1) rfl C8.nd rfl rfl (by decide) rfl rfl (qa (qb 1) (qa (UG (qb 0) (qb 1)) qe))))) (qm (qp (qb 0))))) read
abbrev JC:Stmt:=top 20
abbrev DQ:List Str:=["_law_left_here","_law_rows","_law_columns","_law_banks","_law_wide"]
abbrev DK:List Str:=["_law_left_here"]
def JK:FnScope DQ DK (qk JC):=⟨rfl,rfl,rfl,by decide +kernel,rfl,by decide +kernel,by decide +kernel⟩
def T1 {S_law_sides:Sp3} {S_law_pick:Sp3} (F:Fun K "_law_skew" "_law_skew" JC f fd) (bd:zX K fd DK []) (hm:mg "_law_skew" = some (.ref f)) (F_law_sides:Fn3 P w K mg base k "_law_sides" S_law_sides) (F_law_pick:Fn3 P w K mg base k "_law_pick" S_law_pick) 
  (read:Rd sp 1 (Bk.V0 S_law_sides S_law_pick) DQ):Fn3 P w K mg base (k+1) "_law_skew" sp:=
 qQ (t3:=(Bk.V0 S_law_sides S_law_pick)) F JK bd hm (λcdv A outer s H E hr=>(qf (VC (qh F_law_sides hr rfl (qa (qb 0) qe)) (VG rfl (qT (qO (i:=1) (JK.nd)) (qT (qO (i:=2) (JK.nd)) VF)))) (qf (zl 3 JK.nd (zf qd (qh F_law_pick hr rfl (qa (qb 0) (qa (qB (JB (qa qd (qa qd (qa qd (qa qd qe))))) (qh F_law_pick hr rfl (qa (qb 0) (qa qd qe)))) qe))))) (qf (zl 4 JK.nd (qB (JB (qa (qb 3) (qa qd (qa qd qe)))) (qh F_law_pick hr rfl (qa (qb 0) (qa qd qe))))) (qm (qp (qK (qa qI (qa (qb 1) (qa (qb 2) (qa (qb 3) (qa (qh F_law_pick hr rfl (qa (qb 0) (qa (qb 4) qe))) (qa (qh F_law_pick hr rfl (qa (qb 0) (qa (qb 4) qe))) qe))))))))))))) read
abbrev Q9:Stmt:=top 21
abbrev UR:List Str:=["_law_left_here","_law_rows","_law_columns","_law_banks","_law_places","_law_turn"]
abbrev UN:List Str:=["_law_left_here"]
def jn:FnScope UR UN (qk Q9):=⟨rfl,rfl,rfl,by decide +kernel,rfl,by decide +kernel,by decide +kernel⟩
def TF {S_law_sides:Sp3} {S_law_pick:Sp3} {S_law_gcd:Sp3} (F:Fun K "_law_rests" "_law_rests" Q9 f fd) (bd:zX K fd UN []) (hm:mg "_law_rests" = some (.ref f)) (F_law_sides:Fn3 P w K mg base k "_law_sides" S_law_sides) (F_law_pick:Fn3 P w K mg base k "_law_pick" S_law_pick) (F_law_gcd:Fn3 P w K mg base k "_law_gcd" S_law_gcd) (m_range:mg "range" = none)
  (read:Rd sp 1 (Bk.YV S_law_sides S_law_pick S_law_gcd) UR):Fn3 P w K mg base (k+1) "_law_rests" sp:=
 qQ (t3:=(Bk.YV S_law_sides S_law_pick S_law_gcd)) F jn bd hm (λcdv A outer s H E hr=>(qf (VC (qh F_law_sides hr rfl (qa (qb 0) qe)) (VG rfl (qT (qO (i:=1) (jn.nd)) (qT (qO (i:=2) (jn.nd)) VF)))) (qf (zl 3 jn.nd (zf qd (qh F_law_pick hr rfl (qa (qb 0) (qa (qB (JB (qa qd (qa qd (qa qd qe)))) (qh F_law_pick hr rfl (qa (qb 0) (qa qd qe)))) qe))))) (qf (zl 4 jn.nd (zf (D8 (LV (ZJ (D8 (qb 1)) (qb 2)) (qb 3))) (qh F_law_pick hr rfl (qa (qb 0) (qa qd qe))))) (qf (SZ PassesOwn.never rfl (jp rfl m_range (qa qd qe) (h1:=by intro _ _ _ h;simpa [qc,qi] using h)) (qO (i:=5) (jn.nd)) (qm (ze (qx K8 jN (qh F_law_gcd hr rfl (qa (qb 3) (qa (qb 4) qe))) qd (qo _)) (qm (zl 4 jn.nd (zf (qb 4) qd))) qz))) (qm (qp (qK (qa qI (qa (qb 1) (qa (qb 2) (qa (qb 3) (qa (qb 4) qe))))))))))))) read
abbrev Z0:Stmt:=top 22
abbrev CP:List Str:=["_law_left_here","_law_most","_law_high","_law_low","_law_masks","_law_wide"]
abbrev DN:List Str:=["_law_left_here","_law_most"]
def YT:FnScope CP DN (qk Z0):=⟨rfl,rfl,rfl,by decide +kernel,rfl,by decide +kernel,by decide +kernel⟩
def K5 {S_law_pick:Sp3} (F:Fun K "_law_bits" "_law_bits" Z0 f fd) (bd:zX K fd DN []) (hm:mg "_law_bits" = some (.ref f)) (F_law_pick:Fn3 P w K mg base k "_law_pick" S_law_pick) (m_range:mg "range" = none) (m_tuple:mg "tuple" = none)
  (read:Rd sp 2 (Bk.V2 S_law_pick) CP):Fn3 P w K mg base (k+1) "_law_bits" sp:=
 qQ (t3:=(Bk.V2 S_law_pick)) F YT bd hm (λcdv A outer s H E hr=>(qf (ER (i:=2) (j:=3) rfl YT.nd rfl rfl (by decide) rfl rfl (qa (qh F_law_pick hr rfl (qa (qb 0) (qa (zf (qb 1) qd) qe))) (qa (qh F_law_pick hr rfl (qa (qb 0) (qa (zf (qb 1) qd) qe))) qe))) (qf (WJ 4 ["_law_t","_law_left_here"] [none,some 0] rfl YT.nd (jp rfl m_range (qa (qh F_law_pick hr rfl (qa (qb 0) (qa qd qe))) qe) (h1:=by intro _ _ _ h;simpa [qc,qi] using h)) (λ_ _ _=>(jgn 0)) (λ_ _ _=>QA) (λ_ _ _=>(qh F_law_pick hr rfl (qa (qb 1) (qa qd qe)))) (by kernel_rfl) (by kernel_rfl) rfl rfl) (qf (zl 5 YT.nd (qB (JB (qa qd (qa qd (qa qd (qa qd (qa qd (qa qd (qa qd (qa qd (qa qd qe)))))))))) (zf (qb 2) (qb 3)))) (qm (qp (qK (qa qI (qa (qb 2) (qa (qb 3) (qa (jr ja JH rfl m_tuple PyProof.Rows.boot_tuple (qa (U1 ["_law_mask","_law_wide"] [none,some 5] rfl (VY (qb 4)) (λ_ _ _=>(jgn 0)) (λ_ _ _=>QA) (λ_ _ _=>(UG (qb 0) (qb 1))) (by kernel_rfl) (by kernel_rfl)) qe)) qe))))))))))) read
abbrev Q7:Stmt:=top 23
abbrev WW:List Str:=["_law_left_here","_law_rows","_law_columns","_law_banks","_law_cells"]
abbrev UU:List Str:=["_law_left_here"]
def Q6:FnScope WW UU (qk Q7):=⟨rfl,rfl,rfl,by decide +kernel,rfl,by decide +kernel,by decide +kernel⟩
def SE {S_law_sides:Sp3} {S_law_pick:Sp3} (F:Fun K "_law_table" "_law_table" Q7 f fd) (bd:zX K fd UU []) (hm:mg "_law_table" = some (.ref f)) (F_law_sides:Fn3 P w K mg base k "_law_sides" S_law_sides) (F_law_pick:Fn3 P w K mg base k "_law_pick" S_law_pick) (m_range:mg "range" = none) (m_tuple:mg "tuple" = none)
  (read:Rd sp 1 (Bk.YH S_law_sides S_law_pick) WW):Fn3 P w K mg base (k+1) "_law_table" sp:=
 qQ (t3:=(Bk.YH S_law_sides S_law_pick)) F Q6 bd hm (λcdv A outer s H E hr=>(qf (VC (qh F_law_sides hr rfl (qa (qb 0) qe)) (VG rfl (qT (qO (i:=1) (Q6.nd)) (qT (qO (i:=2) (Q6.nd)) VF)))) (qf (zl 3 Q6.nd (zf qd (qh F_law_pick hr rfl (qa (qb 0) (qa (qB (JB (qa qd (qa qd (qa qd qe)))) (qh F_law_pick hr rfl (qa (qb 0) (qa qd qe)))) qe))))) (qf (WJ 4 ["_law_i","_law_left_here","_law_banks","_law_columns"] [none,some 0,some 3,some 2] rfl Q6.nd (jp rfl m_range (qa (qb 1) qe) (h1:=by intro _ _ _ h;simpa [qc,qi] using h)) (λ_ _ _=>(jgn 0)) (λ_ _ _=>QA) (λ_ _ _=>(jr ja JH rfl m_tuple PyProof.Rows.boot_tuple (qa (U1 ["_law_j","_law_left_here","_law_banks"] [none,some 1,some 2] rfl (jp rfl m_range (qa (qb 3) qe) (h1:=by intro _ _ _ h;simpa [qc,qi] using h)) (λ_ _ _=>(jgn 0)) (λ_ _ _=>QA) (λ_ _ _=>(qh F_law_pick hr rfl (qa (qb 1) (qa (qb 2) qe)))) (by kernel_rfl) (by kernel_rfl)) qe))) (by kernel_rfl) (by kernel_rfl) rfl rfl) (qm (qp (qK (qa qI (qa (qb 3) (qa (jr ja JH rfl m_tuple PyProof.Rows.boot_tuple (qa (qb 4) qe)) qe)))))))))) read
abbrev ZB:Stmt:=top 24
abbrev WY:List Str:=["_law_left_here","_law_rows","_law_columns","_law_banks","_law_way","_law_high","_law_low","_law_masks","_law_wide","_law_places","_law_turn","_law_cells"]
abbrev UL:List Str:=["_law_left_here"]
def za:FnScope WY UL (qk ZB):=⟨rfl,rfl,rfl,by decide +kernel,rfl,by decide +kernel,by decide +kernel⟩
def SV {S_law_pick:Sp3} {S_law_gcd:Sp3} (F:Fun K "_law_small" "_law_small" ZB f fd) (bd:zX K fd UL []) (hm:mg "_law_small" = some (.ref f)) (F_law_pick:Fn3 P w K mg base k "_law_pick" S_law_pick) (F_law_gcd:Fn3 P w K mg base k "_law_gcd" S_law_gcd) (m_range:mg "range" = none) (m_tuple:mg "tuple" = none)
  (read:Rd sp 1 (Bk.YS S_law_pick S_law_gcd) WY):Fn3 P w K mg base (k+1) "_law_small" sp:=
 qQ (t3:=(Bk.YS S_law_pick S_law_gcd)) F za bd hm (λcdv A outer s H E hr=>(qf (VC (qK (qa (zf qd (qh F_law_pick hr rfl (qa (qb 0) (qa qd qe)))) (qa (zf qd (qh F_law_pick hr rfl (qa (qb 0) (qa qd qe)))) (qa (zf qd (qh F_law_pick hr rfl (qa (qb 0) (qa qd qe)))) qe)))) (VG rfl (qT (qO (i:=1) (za.nd)) (qT (qO (i:=2) (za.nd)) (qT (qO (i:=3) (za.nd)) VF))))) (qf (zl 4 za.nd (qh F_law_pick hr rfl (qa (qb 0) (qa qd qe)))) (qf (ze (qx (qJ hr.units) qs (qb 4) qd (qo _)) (qm (qp (qK (qa qI (qa (qb 1) (qa (qb 2) (qa (qb 3) (qa (qh F_law_pick hr rfl (qa (qb 0) (qa (qb 3) qe))) (qa (qh F_law_pick hr rfl (qa (qb 0) (qa qd qe))) qe))))))))) qz) (qf (ze (qx (qJ hr.units) qs (qb 4) qd (qo _)) (qf (ER (i:=5) (j:=6) rfl za.nd rfl rfl (by decide) rfl rfl (qa (qh F_law_pick hr rfl (qa (qb 0) (qa qd qe))) (qa (qh F_law_pick hr rfl (qa (qb 0) (qa qd qe))) qe))) (qf (WJ 7 ["_law_t","_law_left_here"] [none,some 0] rfl za.nd (jp rfl m_range (qa (qh F_law_pick hr rfl (qa (qb 0) (qa qd qe))) qe) (h1:=by intro _ _ _ h;simpa [qc,qi] using h)) (λ_ _ _=>(jgn 0)) (λ_ _ _=>QA) (λ_ _ _=>(qh F_law_pick hr rfl (qa (qb 1) (qa qd qe)))) (by kernel_rfl) (by kernel_rfl) rfl rfl) (qf (zl 8 za.nd (qB (JB (qa qd (qa qd (qa qd (qa qd (qa qd qe)))))) (zf (qb 5) (qb 6)))) (qm (qp (qK (qa qI (qa (qb 5) (qa (qb 6) (qa (jr ja JH rfl m_tuple PyProof.Rows.boot_tuple (qa (U1 ["_law_mask","_law_wide"] [none,some 8] rfl (VY (qb 7)) (λ_ _ _=>(jgn 0)) (λ_ _ _=>QA) (λ_ _ _=>(UG (qb 0) (qb 1))) (by kernel_rfl) (by kernel_rfl)) qe)) qe)))))))))) qz) (qf (ze (qx (qJ hr.units) qs (qb 4) qd (qo _)) (qf (zl 9 za.nd (zf (D8 (LV (ZJ (D8 (qb 1)) (qb 2)) (qb 3))) (qh F_law_pick hr rfl (qa (qb 0) (qa qd qe))))) (qf (SZ PassesOwn.never rfl (jp rfl m_range (qa qd qe) (h1:=by intro _ _ _ h;simpa [qc,qi] using h)) (qO (i:=10) (za.nd)) (qm (ze (qx K8 jN (qh F_law_gcd hr rfl (qa (qb 3) (qa (qb 9) qe))) qd (qo _)) (qm (zl 9 za.nd (zf (qb 9) qd))) qz))) (qm (qp (qK (qa qI (qa (qb 1) (qa (qb 2) (qa (qb 3) (qa (qb 9) qe)))))))))) qz) (qf (WJ 11 ["_law_i","_law_left_here","_law_banks","_law_columns"] [none,some 0,some 3,some 2] rfl za.nd (jp rfl m_range (qa (qb 1) qe) (h1:=by intro _ _ _ h;simpa [qc,qi] using h)) (λ_ _ _=>(jgn 0)) (λ_ _ _=>QA) (λ_ _ _=>(jr ja JH rfl m_tuple PyProof.Rows.boot_tuple (qa (U1 ["_law_j","_law_left_here","_law_banks"] [none,some 1,some 2] rfl (jp rfl m_range (qa (qb 3) qe) (h1:=by intro _ _ _ h;simpa [qc,qi] using h)) (λ_ _ _=>(jgn 0)) (λ_ _ _=>QA) (λ_ _ _=>(qh F_law_pick hr rfl (qa (qb 1) (qa (qb 2) qe)))) (by kernel_rfl) (by kernel_rfl)) qe))) (by kernel_rfl) (by kernel_rfl) rfl rfl) (qm (qp (qK (qa qI (qa (qb 3) (qa (jr ja JH rfl m_tuple PyProof.Rows.boot_tuple (qa (qb 11) qe)) qe))))))))))))) read
abbrev jM:Stmt:=top 25
abbrev YE:List Str:=["_law_left_here","_law_way","_law_inner","_law_some"]
abbrev YN:List Str:=["_law_left_here"]
def QX:FnScope YE YN (qk jM):=⟨rfl,rfl,rfl,by decide +kernel,rfl,by decide +kernel,by decide +kernel⟩
def CF {S_law_pick:Sp3} {S_law_skew:Sp3} {S_law_rests:Sp3} {S_law_bits:Sp3} {S_law_table:Sp3} {S_law_small:Sp3} (F:Fun K "_law_dealing" "_law_dealing" jM f fd) (bd:zX K fd YN []) (hm:mg "_law_dealing" = some (.ref f)) (F_law_pick:Fn3 P w K mg base k "_law_pick" S_law_pick) (F_law_skew:Fn3 P w K mg base k "_law_skew" S_law_skew) (F_law_rests:Fn3 P w K mg base k "_law_rests" S_law_rests) (F_law_bits:Fn3 P w K mg base k "_law_bits" S_law_bits) (F_law_table:Fn3 P w K mg base k "_law_table" S_law_table) (F_law_small:Fn3 P w K mg base k "_law_small" S_law_small) 
  (read:Rd sp 1 (Bk.ZU S_law_pick S_law_skew S_law_rests S_law_bits S_law_table S_law_small) YE):Fn3 P w K mg base (k+1) "_law_dealing" sp:=
 qQ (t3:=(Bk.ZU S_law_pick S_law_skew S_law_rests S_law_bits S_law_table S_law_small)) F QX bd hm (λcdv A outer s H E hr=>(qf (zl 1 QX.nd (qh F_law_pick hr rfl (qa (qb 0) (qa qd qe)))) (qf (ze (qx qav jN (qb 1) qd (qo _)) (qm (qp (qh F_law_skew hr rfl (qa (qb 0) qe)))) qz) (qf (ze (qx (qJ hr.units) qs (qb 1) qd (qo _)) (qm (qp (qh F_law_rests hr rfl (qa (qb 0) qe)))) qz) (qf (ze (qx (qJ hr.units) qs (qb 1) qd (qo _)) (qm (qp (qh F_law_bits hr rfl (qa (qb 0) (qa qd qe))))) qz) (qf (ze (qx (qJ hr.units) qs (qb 1) qd (qo _)) (qm (qp (qh F_law_table hr rfl (qa (qb 0) qe)))) qz) (qf (ze (qx (qJ hr.units) qs (qb 1) qd (qo _)) (qf (zl 2 QX.nd (qK (qa qI (qa (qK (qa qI (qa (zf qd (qh F_law_pick hr rfl (qa (qb 0) (qa qd qe)))) (qa qd (qa qd (qa qd (qa qd qe))))))) (qa (qK (qa qI (qa qd (qa (qK (qa (qK (qa qd (qa qd qe))) qe)) qe)))) qe))))) (qf (zl 3 QX.nd (JB (qa (qK (qa qI (qa (qb 2) (qa (qh F_law_small hr rfl (qa (qb 0) qe)) qe)))) (qa (qK (qa qI (qa (qh F_law_small hr rfl (qa (qb 0) qe)) (qa (qb 2) qe)))) qe)))) (qf (qam (TC (qb 3) (qa (qK (qa qI (qa (qK (qa qI (qa qd (qa qd (qa qd (qa qd (qa qd qe))))))) (qa (qK (qa qI (qa qd (qa qd (qa qd (qa qd qe)))))) qe)))) qe))) (qf (qam (TC (qb 3) (qa (qK (qa qI (qa (qK (qa qI (qa qd (qa qd (qa qd (qa qd qe)))))) (qa (qK (qa qI (qa qd (qa qd (qa qd (qa qd (qa qd qe))))))) qe)))) qe))) (qm (qp (qB (qb 3) (qh F_law_pick hr rfl (qa (qb 0) (qa qd qe)))))))))) qz) (qm (qp (qK (qa qI (qa (qh F_law_small hr rfl (qa (qb 0) qe)) (qa (qh F_law_small hr rfl (qa (qb 0) qe)) qe))))))))))))) read
abbrev Z9:Stmt:=top 26
abbrev V8:List Str:=["_law_dealing_here","_law_two","_law_one","_law_other"]
abbrev DM:List Str:=["_law_dealing_here"]
def UJ:FnScope V8 DM (qk Z9):=⟨rfl,rfl,rfl,by decide +kernel,rfl,by decide +kernel,by decide +kernel⟩
def zQ {S_law_size:Sp3} (F:Fun K "_law_size" "_law_size" Z9 f fd) (bd:zX K fd DM []) (hm:mg "_law_size" = some (.ref f)) (F_law_size:Fn3 P w K mg base k "_law_size" S_law_size) (m_len:mg "len" = none) (m_zip:mg "zip" = none) (m_tuple:mg "tuple" = none)
  (read:Rd sp 1 (Bk.UA S_law_size) V8):Fn3 P w K mg base (k+1) "_law_size" sp:=
 qQ (t3:=(Bk.UA S_law_size)) F UJ bd hm (λcdv A outer s H E hr=>(qf (ze (qx qbf qiH (qB (qb 0) qd) (qK (qa qI (qa qI qe))) (by with_unfolding_all rfl)) (qm (qp (jB (qb 0) (qN qd) (qN qd)))) qz) (qf (ze (qx (qJ hr.units) qs (qB (qb 0) qd) qI (qo _)) (qf (zl 1 UJ.nd (JB (qa qd (qa qd (qa qd (qa qd (qa qd (qa qd (qa qd (qa qd (qa qd (qa qd qe)))))))))))) (qm (qp (qK (qa (qB (qb 1) (qB (qb 0) qd)) (qa (qB (qb 1) (qB (qb 0) qd)) (qa (qB (qb 1) (qq qD qW rfl m_len PySem.boot_len (qa (qB (qb 0) qd) qe))) qe))))))) qz) (qf (ze (qx (qJ hr.units) qs (qB (qb 0) qd) qI (qo _)) (qm (qp (qK (qa (qq qD qW rfl m_len PySem.boot_len (qa (qB (qb 0) qd) qe)) (qa (qq qD qW rfl m_len PySem.boot_len (qa (qB (qB (qb 0) qd) qd) qe)) (qa (qB (qb 0) qd) qe)))))) qz) (qf (ER (i:=2) (j:=3) rfl UJ.nd rfl rfl (by decide) rfl rfl (qa (qh F_law_size hr rfl (qa (qB (qb 0) qd) qe)) (qa (qh F_law_size hr rfl (qa (qB (qb 0) qd) qe)) qe))) (qm (qp (jr ja JH rfl m_tuple PyProof.Rows.boot_tuple (qa (U1 ["_law_x","_law_y"] [none,none] rfl (qdk rfl m_zip (qa (qb 2) (qa (qb 3) qe))) (λ_ _ _=>(VG rfl (qT (jgn 0) (qT (jgn 1) VF)))) (λ_ _ _=>QA) (λ_ _ _=>(ZJ (qb 0) (qb 1))) (by kernel_rfl) (by kernel_rfl)) qe))))))))) read
abbrev JD:Stmt:=top 27
abbrev CZ:List Str:=["_law_found","_law_due"]
abbrev DW:List Str:=["_law_found","_law_due"]
def T9:FnScope CZ DW (qk JD):=⟨rfl,rfl,rfl,by decide +kernel,rfl,by decide +kernel,by decide +kernel⟩
def YZ {S_law_same:Sp3} (F:Fun K "_law_same" "_law_same" JD f fd) (bd:zX K fd DW []) (hm:mg "_law_same" = some (.ref f)) (F_law_same:Fn3 P w K mg base k "_law_same" S_law_same) (m_isinstance:mg "isinstance" = none) (m_list:mg "list" = none) (m_tuple:mg "tuple" = none) (m_zip:mg "zip" = none) (m_all:mg "all" = none) (m_len:mg "len" = none) (m_str:mg "str" = none) (m_bool:mg "bool" = none) (m_int:mg "int" = none)
  (read:Rd sp 2 (Bk.EZ S_law_same) CZ):Fn3 P w K mg base (k+1) "_law_same" sp:=
 qQ (t3:=(Bk.EZ S_law_same)) F T9 bd hm (λcdv A outer s H E hr=>(qf (ze (zG (qa0 (qb 1) rfl m_isinstance rfl m_list PyProof.Rows.boot_list rfl m_tuple PyProof.Rows.boot_tuple)) (qf (ze (jpt (JW (qx (J7 hr.units) QR (zU (qb 0) rfl m_isinstance rfl m_list PyProof.Rows.boot_list) (zU (qb 1) rfl m_isinstance rfl m_list PyProof.Rows.boot_list) (qo _)) (ZL (qx (J7 hr.units) QR (zU (qb 0) rfl m_isinstance rfl m_tuple PyProof.Rows.boot_tuple) (zU (qb 1) rfl m_isinstance rfl m_tuple PyProof.Rows.boot_tuple) (qo _))))) (qm (qp J8)) qz) (qm (qp (zV (zC (qJ hr.units) qs (qq qD qW rfl m_len PySem.boot_len (qa (qb 0) qe)) (qq qD qW rfl m_len PySem.boot_len (qa (qb 1) qe)) (qo _)) (ZF (qq (qX rfl) JZ rfl m_all PyProof.Rows.boot_all (qa (U1 ["_law_one","_law_other"] [none,none] rfl (qdk rfl m_zip (qa (qb 0) (qa (qb 1) qe))) (λ_ _ _=>(VG rfl (qT (jgn 0) (qT (jgn 1) VF)))) (λ_ _ _=>QA) (λ_ _ _=>(qh F_law_same hr rfl (qa (qb 0) (qa (qb 1) qe)))) (by kernel_rfl) (by kernel_rfl)) qe))))))) qz) (qf (ze (jpt (JW (qx qbJ K0 (qb 1) S4 (qo _)) (ZL (zG (qa0 (qb 1) rfl m_isinstance rfl m_str PyProof.Rows.boot_str rfl m_bool PyProof.Rows.boot_bool))))) (qm (qp (zV (zC (qJ hr.units) qs (qb 0) (qb 1) (qo _)) (zV (zC (qJ hr.units) qs (zU (qb 0) rfl m_isinstance rfl m_bool PyProof.Rows.boot_bool) (zU (qb 1) rfl m_isinstance rfl m_bool PyProof.Rows.boot_bool) (qo _)) (ZF (zC (qJ hr.units) qs (zC qbJ K0 (qb 0) S4 (qo _)) (zC qbJ K0 (qb 1) S4 (qo _)) (qo _))))))) qz) (qm (qp (zV (zU (qb 0) rfl m_isinstance rfl m_int PyProof.Rows.boot_int) (zV (qaE (zU (qb 0) rfl m_isinstance rfl m_bool PyProof.Rows.boot_bool)) (ZF (zC (qJ hr.units) qs (qb 0) (qb 1) (qo _)))))))))) read
abbrev J6:Stmt:=top 28
abbrev U6:List Str:=["_law_things","_law_least"]
abbrev W0:List Str:=["_law_things","_law_least"]
def NA:FnScope U6 W0 (qk J6):=⟨rfl,rfl,rfl,by decide +kernel,rfl,by decide +kernel,by decide +kernel⟩
def EI:TS3:=(qV (cb3 X2 (qc (lc3 (UB (v3 0)) (gn3 0) tt3 (ji (J1 (λt=>zA t "int") (v3 0)) (ji (XG (J1 (λt=>zA t "bool") (v3 0))) (o3 (iB λi j=>decide (j<=i)) (v3 0) (v3 1)))) [none,some 1]) qi)))
def M2 (F:Fun K "_law_are" "_law_are" J6 f fd) (bd:zX K fd W0 []) (hm:mg "_law_are" = some (.ref f))  (m_isinstance:mg "isinstance" = none) (m_bool:mg "bool" = none) (m_int:mg "int" = none) (m_all:mg "all" = none)
  (read:Rd sp 2 (EI) U6):Fn3 P w K mg base (k+1) "_law_are" sp:=
 qQ (t3:=(EI)) F NA bd hm (λcdv A outer s H E hr=>(qm (qp (qq (qX rfl) JZ rfl m_all PyProof.Rows.boot_all (qa (U1 ["_law_one","_law_least"] [none,some 1] rfl (VY (qb 0)) (λ_ _ _=>(jgn 0)) (λ_ _ _=>QA) (λ_ _ _=>(zV (zU (qb 0) rfl m_isinstance rfl m_int PyProof.Rows.boot_int) (zV (qaE (zU (qb 0) rfl m_isinstance rfl m_bool PyProof.Rows.boot_bool)) (ZF (zC qaN jN (qb 0) (qb 1) (qo _)))))) (by kernel_rfl) (by kernel_rfl)) qe))))) read
abbrev jm:Stmt:=top 29
abbrev QV:List Str:=["_law_thing","_law_banks"]
abbrev JV:List Str:=["_law_thing","_law_banks"]
def WZ:FnScope QV JV (qk jm):=⟨rfl,rfl,rfl,by decide +kernel,rfl,by decide +kernel,by decide +kernel⟩
def QY (S_law_are:Sp3):TS3:=(qH (zJ (or3 (UE (tb3 (J1 (λt=>zA t "tuple") (v3 0)))) (or3 (tb3 (o3 (zF false) (v3 0) (ju qi))) (UE (tb3 (cb3 X2 (qc (lc3 (UB (v3 0)) (gn3 0) tt3 (J1 (λt=>zA t "tuple") (v3 0)) [none]) qi)))))) (qV (c3 (.bl false))) qy) (qH (zJ (or3 (tb3 (o3 (zF false) (o3 ix3 (v3 0) (c3 (.int 0))) (ju qi))) (UE (tb3 (cb3 X2 (qc (lc3 (UB (v3 0)) (gn3 0) tt3 (ji (o3 (zF false) (cb3 JL (qc (v3 0) qi)) (cb3 JL (qc (o3 ix3 (v3 1) (c3 (.int 0))) qi))) (cb3 S_law_are (qc (v3 0) (qc (c3 (.int 0)) qi)))) [none,some 0]) qi))))) (qV (c3 (.bl false))) qy) (qV (cb3 X2 (qc (lc3 (UB (v3 0)) (gn3 0) tt3 (o3 (iB λi j=>decide (i<j)) (cb3 qa7 (qc (v3 0) qi)) (v3 1)) [none,some 1]) qi)))))
def WS {S_law_are:Sp3} (F:Fun K "_law_is_cells" "_law_is_cells" jm f fd) (bd:zX K fd JV []) (hm:mg "_law_is_cells" = some (.ref f)) (qG:Fn3 P w K mg base k "_law_are" S_law_are) (m_isinstance:mg "isinstance" = none) (m_tuple:mg "tuple" = none) (m_all:mg "all" = none) (m_len:mg "len" = none) (m_max:mg "max" = none)
  (read:Rd sp 2 (QY S_law_are) QV):Fn3 P w K mg base (k+1) "_law_is_cells" sp:=
 qQ (t3:=(QY S_law_are)) F WZ bd hm (λcdv A outer s H E hr=>(qf (ze (jpt (JW (jD (zG (zU (qb 0) rfl m_isinstance rfl m_tuple PyProof.Rows.boot_tuple))) (JW (qx (qJ hr.units) qs (qb 0) (qK qe) (qo _)) (ZL (jD (zG (qq (qX rfl) JZ rfl m_all PyProof.Rows.boot_all (qa (U1 ["_law_row"] [none] rfl (VY (qb 0)) (λ_ _ _=>(jgn 0)) (λ_ _ _=>QA) (λ_ _ _=>(zU (qb 0) rfl m_isinstance rfl m_tuple PyProof.Rows.boot_tuple)) (by kernel_rfl) (by kernel_rfl)) qe)))))))) (qm (qp J8)) qz) (qf (ze (jpt (JW (qx (qJ hr.units) qs (qB (qb 0) qd) (qK qe) (qo _)) (ZL (jD (zG (qq (qX rfl) JZ rfl m_all PyProof.Rows.boot_all (qa (U1 ["_law_row","_law_thing"] [none,some 0] rfl (VY (qb 0)) (λ_ _ _=>(jgn 0)) (λ_ _ _=>QA) (λ_ _ _=>(zV (zC (qJ hr.units) qs (qq qD qW rfl m_len PySem.boot_len (qa (qb 0) qe)) (qq qD qW rfl m_len PySem.boot_len (qa (qB (qb 1) qd) qe)) (qo _)) (ZF (qh qG hr rfl (qa (qb 0) (qa qd qe)))))) (by kernel_rfl) (by kernel_rfl)) qe))))))) (qm (qp J8)) qz) (qm (qp (qq (qX rfl) JZ rfl m_all PyProof.Rows.boot_all (qa (U1 ["_law_row","_law_banks"] [none,some 1] rfl (VY (qb 0)) (λ_ _ _=>(jgn 0)) (λ_ _ _=>QA) (λ_ _ _=>(zC qav jN (qq (qa2 rfl) qb7 rfl m_max PyProof.Rows.boot_max (qa (qb 0) qe)) (qb 1) (qo _))) (by kernel_rfl) (by kernel_rfl)) qe))))))) read
abbrev VX:Stmt:=top 30
abbrev WL:List Str:=["_law_thing","_law_word","_law_rest","_law_wide","_law_turn"]
abbrev R5:List Str:=["_law_thing"]
def VV:FnScope WL R5 (qk VX):=⟨rfl,rfl,rfl,by decide +kernel,rfl,by decide +kernel,by decide +kernel⟩
def WH (S_law_are:Sp3) (S_law_gcd:Sp3) (S_law_is_cells:Sp3) (S_law_is:Sp3):TS3:=(qH (zJ (or3 (UE (tb3 (J1 (λt=>zA t "tuple") (v3 0)))) (or3 (tb3 (o3 (zF false) (v3 0) (ju qi))) (UE (tb3 (J1 (λt=>zA t "str") (o3 ix3 (v3 0) (c3 (.int 0)))))))) (qV (c3 (.bl false))) qy) (qH (WD 1 2 (qc (o3 ix3 (v3 0) (c3 (.int 0))) (qc (CA (v3 0) (sp3 (c3 (.int 1))) np3) qi))) (qH (zJ (tb3 (o3 (zF false) (v3 1) (c3 (.str "skew")))) (qV (ji (o3 (zF false) (cb3 JL (qc (v3 2) qi)) (c3 (.int 5))) (ji (cb3 S_law_are (qc (CA (v3 2) np3 (sp3 (c3 (.int 3)))) (qc (c3 (.int 1)) qi))) (cb3 S_law_are (qc (CA (v3 2) (sp3 (c3 (.int 3))) np3) (qc (c3 (.int 0)) qi)))))) qy) (qH (zJ (tb3 (o3 (zF false) (v3 1) (c3 (.str "rests")))) (qH (zJ (or3 (tb3 (o3 (zF true) (cb3 JL (qc (v3 2) qi)) (c3 (.int 4)))) (UE (tb3 (cb3 S_law_are (qc (v3 2) (qc (c3 (.int 1)) qi)))))) (qV (c3 (.bl false))) qy) (qV (ji (o3 (zF false) (cb3 S_law_gcd (qc (o3 ix3 (v3 2) (c3 (.int 2))) (qc (o3 ix3 (v3 2) (c3 (.int 3))) qi))) (c3 (.int 1))) (o3 (iB λi j=>decide (j<=i)) (o3 (iC V9 (·*·)) (o3 ix3 (v3 2) (c3 (.int 2))) (o3 ix3 (v3 2) (c3 (.int 3)))) (o3 (iC V9 (·*·)) (o3 ix3 (v3 2) (c3 (.int 0))) (o3 ix3 (v3 2) (c3 (.int 1)))))))) qy) (qH (zJ (tb3 (o3 (zF false) (v3 1) (c3 (.str "bits")))) (qH (zJ (or3 (tb3 (o3 (zF true) (cb3 JL (qc (v3 2) qi)) (c3 (.int 3)))) (or3 (UE (tb3 (cb3 S_law_are (qc (CA (v3 2) np3 (sp3 (c3 (.int 2)))) (qc (c3 (.int 0)) qi))))) (UE (tb3 (J1 (λt=>zA t "tuple") (o3 ix3 (v3 2) (c3 (.int 2)))))))) (qV (c3 (.bl false))) qy) (qH (zw (c3 (.int 1)) (gn3 3)) (qH (LK (ZI (qc (cb3 NS (qc (o3 j5 (o3 ix3 (v3 2) (c3 (.int 0))) (o3 ix3 (v3 2) (c3 (.int 1)))) (qc (c3 (.int 99)) qi))) qi)) (gn3 4) (zw (o3 (iC V9 (·*·)) (v3 3) (c3 (.int 2))) (gn3 3))) (qV (ji (cb3 S_law_are (qc (o3 ix3 (v3 2) (c3 (.int 2))) (qc (c3 (.int 0)) qi))) (cb3 X2 (qc (lc3 (UB (o3 ix3 (v3 2) (c3 (.int 2)))) (gn3 0) tt3 (o3 (iB λi j=>decide (i<j)) (v3 0) (v3 1)) [none,some 3]) qi))))))) qy) (qH (zJ (tb3 (o3 (zF false) (v3 1) (c3 (.str "table")))) (qV (ji (o3 (zF false) (cb3 JL (qc (v3 2) qi)) (c3 (.int 2))) (ji (cb3 S_law_are (qc (CA (v3 2) np3 (sp3 (c3 (.int 1)))) (qc (c3 (.int 1)) qi))) (cb3 S_law_is_cells (qc (o3 ix3 (v3 2) (c3 (.int 1))) (qc (o3 ix3 (v3 2) (c3 (.int 0))) qi)))))) qy) (qV (ji (o3 (zF false) (v3 1) (c3 (.str "joined"))) (ji (o3 (zF false) (cb3 JL (qc (v3 2) qi)) (c3 (.int 2))) (ji (cb3 S_law_is (qc (o3 ix3 (v3 2) (c3 (.int 0))) qi)) (cb3 S_law_is (qc (o3 ix3 (v3 2) (c3 (.int 1))) qi))))))))))))
def jd {S_law_are:Sp3} {S_law_gcd:Sp3} {S_law_is_cells:Sp3} {S_law_is:Sp3} (F:Fun K "_law_is" "_law_is" VX f fd) (bd:zX K fd R5 []) (hm:mg "_law_is" = some (.ref f)) (qG:Fn3 P w K mg base k "_law_are" S_law_are) (F_law_gcd:Fn3 P w K mg base k "_law_gcd" S_law_gcd) (zz:Fn3 P w K mg base k "_law_is_cells" S_law_is_cells) (F_law_is:Fn3 P w K mg base k "_law_is" S_law_is) (m_isinstance:mg "isinstance" = none) (m_str:mg "str" = none) (m_tuple:mg "tuple" = none) (m_len:mg "len" = none) (m_min:mg "min" = none) (m_range:mg "range" = none) (m_all:mg "all" = none)
  (read:Rd sp 1 (WH S_law_are S_law_gcd S_law_is_cells S_law_is) WL):Fn3 P w K mg base (k+1) "_law_is" sp:=
 qQ (t3:=(WH S_law_are S_law_gcd S_law_is_cells S_law_is)) F VV bd hm (λcdv A outer s H E hr=>(qf (ze (jpt (JW (jD (zG (zU (qb 0) rfl m_isinstance rfl m_tuple PyProof.Rows.boot_tuple))) (JW (qx (qJ hr.units) qs (qb 0) (qK qe) (qo _)) (ZL (jD (zG (zU (qB (qb 0) qd) rfl m_isinstance rfl m_str PyProof.Rows.boot_str))))))) (qm (qp J8)) qz) (qf (ER (i:=1) (j:=2) rfl VV.nd rfl rfl (by decide) rfl rfl (qa (qB (qb 0) qd) (qa (jB (qb 0) (qN qd) zH) qe))) (qf (ze (qx (qJ hr.units) qs (qb 1) qI (qo _)) (qm (qp (zV (zC (qJ hr.units) qs (qq qD qW rfl m_len PySem.boot_len (qa (qb 2) qe)) qd (qo _)) (zV (qh qG hr rfl (qa (jB (qb 2) zH (qN qd)) (qa qd qe))) (ZF (qh qG hr rfl (qa (jB (qb 2) (qN qd) zH) (qa qd qe)))))))) qz) (qf (ze (qx (qJ hr.units) qs (qb 1) qI (qo _)) (qf (ze (jpt (JW (qx (J7 hr.units) QR (qq qD qW rfl m_len PySem.boot_len (qa (qb 2) qe)) qd (qo _)) (ZL (jD (zG (qh qG hr rfl (qa (qb 2) (qa qd qe)))))))) (qm (qp J8)) qz) (qm (qp (zV (zC (qJ hr.units) qs (qh F_law_gcd hr rfl (qa (qB (qb 2) qd) (qa (qB (qb 2) qd) qe))) qd (qo _)) (ZF (zC qaN jN (ZJ (qB (qb 2) qd) (qB (qb 2) qd)) (ZJ (qB (qb 2) qd) (qB (qb 2) qd)) (qo _))))))) qz) (qf (ze (qx (qJ hr.units) qs (qb 1) qI (qo _)) (qf (ze (jpt (JW (qx (J7 hr.units) QR (qq qD qW rfl m_len PySem.boot_len (qa (qb 2) qe)) qd (qo _)) (JW (jD (zG (qh qG hr rfl (qa (jB (qb 2) zH (qN qd)) (qa qd qe))))) (ZL (jD (zG (zU (qB (qb 2) qd) rfl m_isinstance rfl m_tuple PyProof.Rows.boot_tuple))))))) (qm (qp J8)) qz) (qf (zl 3 VV.nd qd) (qf (SZ PassesOwn.never rfl (jp rfl m_range (qa (qq (SX rfl) qaW rfl m_min PyProof.Rows.boot_min (qa (zf (qB (qb 2) qd) (qB (qb 2) qd)) (qa qd qe))) qe) (h1:=by intro _ _ _ h;simpa [qc,qi] using h)) (qO (i:=4) (VV.nd)) (qm (zl 3 VV.nd (ZJ (qb 3) qd)))) (qm (qp (zV (qh qG hr rfl (qa (qB (qb 2) qd) (qa qd qe))) (ZF (qq (qX rfl) JZ rfl m_all PyProof.Rows.boot_all (qa (U1 ["_law_mask","_law_wide"] [none,some 3] rfl (VY (qB (qb 2) qd)) (λ_ _ _=>(jgn 0)) (λ_ _ _=>QA) (λ_ _ _=>(zC qav jN (qb 0) (qb 1) (qo _))) (by kernel_rfl) (by kernel_rfl)) qe))))))))) qz) (qf (ze (qx (qJ hr.units) qs (qb 1) qI (qo _)) (qm (qp (zV (zC (qJ hr.units) qs (qq qD qW rfl m_len PySem.boot_len (qa (qb 2) qe)) qd (qo _)) (zV (qh qG hr rfl (qa (jB (qb 2) zH (qN qd)) (qa qd qe))) (ZF (qh zz hr rfl (qa (qB (qb 2) qd) (qa (qB (qb 2) qd) qe)))))))) qz) (qm (qp (zV (zC (qJ hr.units) qs (qb 1) qI (qo _)) (zV (zC (qJ hr.units) qs (qq qD qW rfl m_len PySem.boot_len (qa (qb 2) qe)) qd (qo _)) (zV (qh F_law_is hr rfl (qa (qB (qb 2) qd) qe)) (ZF (qh F_law_is hr rfl (qa (qB (qb 2) qd) qe))))))))))))))) read
abbrev zO:Stmt:=top 31
abbrev zW:List Str:=["_law_left_here","_law_row","_law_way","_law_at","_law_odd","_law_two"]
abbrev QM:List Str:=["_law_left_here","_law_row"]
def jl:FnScope zW QM (qk zO):=⟨rfl,rfl,rfl,by decide +kernel,rfl,by decide +kernel,by decide +kernel⟩
def jy (S_law_pick:Sp3):TS3:=(qH (WD 2 3 (qc (cb3 S_law_pick (qc (v3 0) (qc (c3 (.int 7)) qi))) (qc (cb3 S_law_pick (qc (v3 0) (qc (o3 YB (cb3 JL (qc (v3 1) qi)) (c3 (.int 1))) qi))) qi))) (qH (zw (o3 ix3 (VO (qc (c3 .non) (qc (c3 (.bl true)) (qc (c3 (.int 0)) (qc (u3 XZ (c3 (.int 1))) (qc (c3 (.str "skew")) (qc (ju qi) (qc (ju (qc (c3 (.int 0)) qi)) (qc (ju (qc (ju (qc (c3 (.int 0)) qi)) qi)) (qc (c3 (.int 7)) (qc (c3 (.str "a")) qi))))))))))) (cb3 S_law_pick (qc (v3 0) (qc (c3 (.int 10)) qi)))) (gn3 4)) (qH (zw (EM (v3 1) (sp3 (v3 3)) (sp3 (o3 YB (v3 3) (c3 (.int 2))))) (gn3 5)) (qH (zJ (tb3 (o3 (zF false) (v3 2) (c3 (.int 0)))) (qV (cb3 CK (qc (v3 1) qi))) qy) (qH (zJ (tb3 (o3 (zF false) (v3 2) (c3 (.int 1)))) (qV (o3 YB (EM (v3 1) np3 (sp3 (v3 3))) (EM (v3 1) (sp3 (o3 YB (v3 3) (c3 (.int 1)))) np3))) qy) (qH (zJ (tb3 (o3 (zF false) (v3 2) (c3 (.int 2)))) (qV (o3 YB (o3 YB (EM (v3 1) np3 (sp3 (v3 3))) (EM (v3 1) (sp3 (v3 3)) (sp3 (o3 YB (v3 3) (c3 (.int 1)))))) (EM (v3 1) (sp3 (v3 3)) np3))) qy) (qH (zJ (tb3 (o3 (zF false) (v3 2) (c3 (.int 3)))) (qV (o3 YB (o3 YB (EM (v3 1) np3 (sp3 (v3 3))) (qlU (v3 5) (sp3 (u3 XZ (c3 (.int 1)))))) (EM (v3 1) (sp3 (o3 YB (v3 3) (c3 (.int 2)))) np3))) qy) (qV (if3 (tb3 (o3 (zF false) (v3 2) (c3 (.int 4)))) (qlU (v3 1) (sp3 (u3 XZ (c3 (.int 1))))) (o3 YB (o3 YB (EM (v3 1) np3 (sp3 (v3 3))) (ju (qc (v3 4) qi))) (EM (v3 1) (sp3 (o3 (iI (·-·)) (o3 YB (v3 3) (v3 2)) (c3 (.int 5)))) np3)))))))))))
def EB {S_law_pick:Sp3} (F:Fun K "_law_other_tuple" "_law_other_tuple" zO f fd) (bd:zX K fd QM []) (hm:mg "_law_other_tuple" = some (.ref f)) (F_law_pick:Fn3 P w K mg base k "_law_pick" S_law_pick) (m_len:mg "len" = none) (m_list:mg "list" = none)
  (read:Rd sp 2 (jy S_law_pick) zW):Fn3 P w K mg base (k+1) "_law_other_tuple" sp:=
 qQ (t3:=(jy S_law_pick)) F jl bd hm (λcdv A outer s H E hr=>(qf (ER (i:=2) (j:=3) rfl jl.nd rfl rfl (by decide) rfl rfl (qa (qh F_law_pick hr rfl (qa (qb 0) (qa qd qe))) (qa (qh F_law_pick hr rfl (qa (qb 0) (qa (zT (qq qD qW rfl m_len PySem.boot_len (qa (qb 1) qe)) qd) qe))) qe))) (qf (zl 4 jl.nd (qB (JB (qa S4 (qa J8 (qa qd (qa (D8 qd) (qa qI (qa (qK qe) (qa (qK (qa qd qe)) (qa (qK (qa (qK (qa qd qe)) qe)) (qa qd (qa qI qe))))))))))) (qh F_law_pick hr rfl (qa (qb 0) (qa qd qe))))) (qf (zl 5 jl.nd (jc (qb 1) (qN (qb 3)) (qN (zT (qb 3) qd)))) (qf (ze (qx (qJ hr.units) qs (qb 2) qd (qo _)) (qm (qp (jr TN qca rfl m_list PyProof.Rows.boot_list (qa (qb 1) qe)))) qz) (qf (ze (qx (qJ hr.units) qs (qb 2) qd (qo _)) (qm (qp (zT (jc (qb 1) zH (qN (qb 3))) (jc (qb 1) (qN (zT (qb 3) qd)) zH)))) qz) (qf (ze (qx (qJ hr.units) qs (qb 2) qd (qo _)) (qm (qp (zT (zT (jc (qb 1) zH (qN (qb 3))) (jc (qb 1) (qN (qb 3)) (qN (zT (qb 3) qd)))) (jc (qb 1) (qN (qb 3)) zH)))) qz) (qf (ze (qx (qJ hr.units) qs (qb 2) qd (qo _)) (qm (qp (zT (zT (jc (qb 1) zH (qN (qb 3))) (qdO (qb 5) (qN (D8 qd)) (ops:=λ_ _=>_) (by intro _ _;with_unfolding_all rfl))) (jc (qb 1) (qN (zT (qb 3) qd)) zH)))) qz) (qm (qp (qgs (qx (qJ hr.units) qs (qb 2) qd (qo _)) (qdO (qb 1) (qN (D8 qd)) (ops:=λ_ _=>_) (by intro _ _;with_unfolding_all rfl)) (zT (zT (jc (qb 1) zH (qN (qb 3))) (qK (qa (qb 4) qe))) (jc (qb 1) (qN (qkX (zT (qb 3) (qb 2)) qd)) zH))))))))))))) read
abbrev zY:Stmt:=top 32
abbrev je:List Str:=["_law_left_here","_law_text","_law_signs","_law_way","_law_at","_law_sign","_law_words"]
abbrev ZH:List Str:=["_law_left_here","_law_text"]
def jz:FnScope je ZH (qk zY):=⟨rfl,rfl,rfl,by decide +kernel,rfl,by decide +kernel,by decide +kernel⟩
def jP (S_law_pick:Sp3):TS3:=(qH (zw (c3 (.str "abcdefghijklmnopqrstuvwxyzABZ 09_")) (gn3 2)) (qH (zw (ju (qc (cb3 S_law_pick (qc (v3 0) (qc (c3 (.int 4)) qi))) (qc (cb3 S_law_pick (qc (v3 0) (qc (o3 j5 (cb3 JL (qc (v3 1) qi)) (c3 (.int 1))) qi))) (qc (o3 qlN (v3 2) (cb3 S_law_pick (qc (v3 0) (qc (c3 (.int 33)) qi)))) qi)))) (QK 3 (qC (gn3 3) (qC (gn3 4) (qC (gn3 5) QI))))) (qH (zw (VO (qc (c3 (.str "skew")) (qc (c3 (.str "rests")) (qc (c3 (.str "bits")) (qc (c3 (.str "table")) (qc (c3 (.str "joined")) (qc (c3 (.str "")) qi))))))) (gn3 6)) (qH (zJ (tb3 (o3 (zF false) (v3 3) (c3 (.int 0)))) (qV (o3 ix3 (v3 6) (o3 (iC (λ_ j=>0<j) (·%·)) (v3 4) (c3 (.int 6))))) qy) (qV (o3 qbp (o3 qbp (qcM (v3 1) np3 (sp3 (v3 4))) (o3 qcj (v3 5) (cb3 qbV (qc (o3 (zF true) (v3 3) (c3 (.int 1))) qi)))) (qcM (v3 1) (sp3 (o3 j5 (v3 4) (cb3 qbV (qc (o3 (zF true) (v3 3) (c3 (.int 2))) qi)))) np3)))))))
def EX {S_law_pick:Sp3} (F:Fun K "_law_other_text" "_law_other_text" zY f fd) (bd:zX K fd ZH []) (hm:mg "_law_other_text" = some (.ref f)) (F_law_pick:Fn3 P w K mg base k "_law_pick" S_law_pick) (m_len:mg "len" = none) (m_int:mg "int" = none)
  (read:Rd sp 2 (jP S_law_pick) je):Fn3 P w K mg base (k+1) "_law_other_text" sp:=
 qQ (t3:=(jP S_law_pick)) F jz bd hm (λcdv A outer s H E hr=>(qf (zl 2 jz.nd qI) (qf (qfp (i:=3) (j:=4) (k:=5) rfl jz.nd rfl rfl rfl (by decide) (by decide) (by decide) rfl rfl rfl (qa (qh F_law_pick hr rfl (qa (qb 0) (qa qd qe))) (qa (qh F_law_pick hr rfl (qa (qb 0) (qa (zf (qq qD qW rfl m_len PySem.boot_len (qa (qb 1) qe)) qd) qe))) (qa (qld (qb 2) (qh F_law_pick hr rfl (qa (qb 0) (qa qd qe)))) qe)))) (qf (zl 6 jz.nd (JB (qa qI (qa qI (qa qI (qa qI (qa qI (qa qI qe)))))))) (qf (ze (qx (qJ hr.units) qs (qb 3) qd (qo _)) (qm (qp (qB (qb 6) (UG (qb 4) qd)))) qz) (qm (qp (MA (MA (S8 (qb 1) zH (qN (qb 4))) (qe9 (qb 5) (jr SB qbq rfl m_int PyProof.Rows.boot_int (qa (zC (J7 hr.units) QR (qb 3) qd (qo _)) qe)))) (S8 (qb 1) (qN (zf (qb 4) (jr SB qbq rfl m_int PyProof.Rows.boot_int (qa (zC (J7 hr.units) QR (qb 3) qd (qo _)) qe)))) zH))))))))) read
abbrev j9:Stmt:=top 33
abbrev Q8:List Str:=["_law_left_here","_law_thing","_law_deeper","_law_at","_law_way"]
abbrev VP:List Str:=["_law_left_here","_law_thing"]
def ZM:FnScope Q8 VP (qk j9):=⟨rfl,rfl,rfl,by decide +kernel,rfl,by decide +kernel,by decide +kernel⟩
def JR (S_law_pick:Sp3) (S_law_spoilt:Sp3) (S_law_other_tuple:Sp3) (S_law_other_text:Sp3):TS3:=(qH (zw (cb3 S_law_pick (qc (v3 0) (qc (c3 (.int 4)) qi))) (gn3 2)) (qH (zJ (TB (tb3 (J1 (λt=>zA t "tuple") (v3 1))) (TB (tb3 (o3 (zF true) (v3 1) (ju qi))) (tb3 (o3 (iB λi j=>decide (j<i)) (v3 2) (c3 (.int 0)))))) (qH (zw (cb3 S_law_pick (qc (v3 0) (qc (cb3 JL (qc (v3 1) qi)) qi))) (gn3 3)) (qV (o3 YB (o3 YB (EM (v3 1) np3 (sp3 (v3 3))) (ju (qc (cb3 S_law_spoilt (qc (v3 0) (qc (o3 ix3 (v3 1) (v3 3)) qi))) qi))) (EM (v3 1) (sp3 (o3 YB (v3 3) (c3 (.int 1)))) np3)))) qy) (qH (zJ (tb3 (J1 (λt=>zA t "tuple") (v3 1))) (qV (cb3 S_law_other_tuple (qc (v3 0) (qc (v3 1) qi)))) qy) (qH (zJ (tb3 (J1 (λt=>zA t "str") (v3 1))) (qV (cb3 S_law_other_text (qc (v3 0) (qc (v3 1) qi)))) qy) (qH (zJ (UE (tb3 (J1 (λt=>zA t "int") (v3 1)))) (qV (ju (qc (c3 (.int 0)) qi))) qy) (qH (zw (cb3 S_law_pick (qc (v3 0) (qc (c3 (.int 9)) qi))) (gn3 4)) (qV (o3 ix3 (VO (qc (o3 (nI3 (·+·)) (v3 1) (c3 (.int 1))) (qc (o3 (nI3 (·-·)) (v3 1) (c3 (.int 1))) (qc (o3 nR3 (u3 XZ (c3 (.int 1))) (v3 1)) (qc (c3 (.int 0)) (qc (o3 nG3 (v3 1) (c3 (.int 1))) (qc (cb3 (SS true) (qc (v3 1) qi)) (qc (c3 .non) (qc (ju (qc (v3 1) qi)) (qc (VO (qc (v3 1) qi)) qi)))))))))) (v3 4)))))))))
def zv {S_law_pick:Sp3} {S_law_spoilt:Sp3} {S_law_other_tuple:Sp3} {S_law_other_text:Sp3} (F:Fun K "_law_spoilt" "_law_spoilt" j9 f fd) (bd:zX K fd VP []) (hm:mg "_law_spoilt" = some (.ref f)) (F_law_pick:Fn3 P w K mg base k "_law_pick" S_law_pick) (F_law_spoilt:Fn3 P w K mg base k "_law_spoilt" S_law_spoilt) (F_law_other_tuple:Fn3 P w K mg base k "_law_other_tuple" S_law_other_tuple) (F_law_other_text:Fn3 P w K mg base k "_law_other_text" S_law_other_text) (m_isinstance:mg "isinstance" = none) (m_tuple:mg "tuple" = none) (m_len:mg "len" = none) (m_str:mg "str" = none) (m_int:mg "int" = none)
  (read:Rd sp 2 (JR S_law_pick S_law_spoilt S_law_other_tuple S_law_other_text) Q8):Fn3 P w K mg base (k+1) "_law_spoilt" sp:=
 qQ (t3:=(JR S_law_pick S_law_spoilt S_law_other_tuple S_law_other_text)) F ZM bd hm (λcdv A outer s H E hr=>(qf (zl 2 ZM.nd (qh F_law_pick hr rfl (qa (qb 0) (qa qd qe)))) (qf (ze (jpt (XB (zG (zU (qb 1) rfl m_isinstance rfl m_tuple PyProof.Rows.boot_tuple)) (XB (qx (J7 hr.units) QR (qb 1) (qK qe) (qo _)) (XH (qx K8 jN (qb 2) qd (qo _)))))) (qf (zl 3 ZM.nd (qh F_law_pick hr rfl (qa (qb 0) (qa (qq qD qW rfl m_len PySem.boot_len (qa (qb 1) qe)) qe)))) (qm (qp (zT (zT (jc (qb 1) zH (qN (qb 3))) (qK (qa (qh F_law_spoilt hr rfl (qa (qb 0) (qa (qB (qb 1) (qb 3)) qe))) qe))) (jc (qb 1) (qN (zT (qb 3) qd)) zH))))) qz) (qf (ze (zG (zU (qb 1) rfl m_isinstance rfl m_tuple PyProof.Rows.boot_tuple)) (qm (qp (qh F_law_other_tuple hr rfl (qa (qb 0) (qa (qb 1) qe))))) qz) (qf (ze (zG (zU (qb 1) rfl m_isinstance rfl m_str PyProof.Rows.boot_str)) (qm (qp (qh F_law_other_text hr rfl (qa (qb 0) (qa (qb 1) qe))))) qz) (qf (ze (jD (zG (zU (qb 1) rfl m_isinstance rfl m_int PyProof.Rows.boot_int))) (qm (qp (qK (qa qd qe)))) qz) (qf (zl 4 ZM.nd (qh F_law_pick hr rfl (qa (qb 0) (qa qd qe)))) (qm (qp (qB (JB (qa (qgr (qb 1) qd) (qa (qe1 (qb 1) qd) (qa (qcH (D8 qd) (qb 1)) (qa qd (qa (zC qiX qiE (qb 1) qd (qo _)) (qa (jr (K7 hr.gd hr.units) RR rfl m_str PyProof.Rows.boot_str (qa (qb 1) qe)) (qa S4 (qa (qK (qa (qb 1) qe)) (qa (JB (qa (qb 1) qe)) qe)))))))))) (qb 4))))))))))) read
abbrev QB:Stmt:=top 34
abbrev Q2:List Str:=["_law_dealing_here","_law_rows","_law_columns","_law_banks"]
abbrev VW:List Str:=["_law_dealing_here"]
def ZR:FnScope Q2 VW (qk QB):=⟨rfl,rfl,rfl,by decide +kernel,rfl,by decide +kernel,by decide +kernel⟩
def JO (S_law_within:Sp3) (S_law_size:Sp3):TS3:=(qH (zJ (TB (tb3 (o3 (zF false) (o3 ix3 (v3 0) (c3 (.int 0))) (c3 (.str "joined")))) (UE (TB (tb3 (cb3 S_law_within (qc (o3 ix3 (v3 0) (c3 (.int 1))) qi))) (tb3 (cb3 S_law_within (qc (o3 ix3 (v3 0) (c3 (.int 2))) qi)))))) (qV (c3 (.bl false))) qy) (qH (zJ (TB (tb3 (o3 (zF false) (o3 ix3 (v3 0) (c3 (.int 0))) (c3 (.str "bits")))) (tb3 (o3 (iB λi j=>decide (j<i)) (cb3 qcS (qc (o3 ix3 (v3 0) (c3 (.int 1))) (qc (o3 ix3 (v3 0) (c3 (.int 2))) qi))) (c3 (.int 4))))) (qV (c3 (.bl false))) qy) (qH (zw (cb3 S_law_size (qc (v3 0) qi)) (QK 3 (qC (gn3 1) (qC (gn3 2) (qC (gn3 3) QI))))) (qV (ji (o3 (iB λi j=>decide (i<=j)) (v3 1) (c3 (.int 16))) (ji (o3 (iB λi j=>decide (i<=j)) (v3 2) (c3 (.int 16))) (o3 (iB λi j=>decide (i<=j)) (v3 3) (c3 (.int 32)))))))))
def zk {S_law_within:Sp3} {S_law_size:Sp3} (F:Fun K "_law_within" "_law_within" QB f fd) (bd:zX K fd VW []) (hm:mg "_law_within" = some (.ref f)) (F_law_within:Fn3 P w K mg base k "_law_within" S_law_within) (F_law_size:Fn3 P w K mg base k "_law_size" S_law_size) (m_max:mg "max" = none)
  (read:Rd sp 1 (JO S_law_within S_law_size) Q2):Fn3 P w K mg base (k+1) "_law_within" sp:=
 qQ (t3:=(JO S_law_within S_law_size)) F ZR bd hm (λcdv A outer s H E hr=>(qf (ze (jpt (XB (qx (qJ hr.units) qs (qB (qb 0) qd) qI (qo _)) (XH (jD (jpt (XB (zG (qh F_law_within hr rfl (qa (qB (qb 0) qd) qe))) (XH (zG (qh F_law_within hr rfl (qa (qB (qb 0) qd) qe)))))))))) (qm (qp J8)) qz) (qf (ze (jpt (XB (qx (qJ hr.units) qs (qB (qb 0) qd) qI (qo _)) (XH (qx K8 jN (qq (qbm rfl) qgD rfl m_max PyProof.Rows.boot_max (qa (qB (qb 0) qd) (qa (qB (qb 0) qd) qe))) qd (qo _))))) (qm (qp J8)) qz) (qf (VC (qh F_law_size hr rfl (qa (qb 0) qe)) (VG rfl (qT (qO (i:=1) (ZR.nd)) (qT (qO (i:=2) (ZR.nd)) (qT (qO (i:=3) (ZR.nd)) VF))))) (qm (qp (zV (zC qb3 jN (qb 1) qd (qo _)) (zV (zC qb3 jN (qb 2) qd (qo _)) (ZF (zC qb3 jN (qb 3) qd (qo _))))))))))) read
abbrev VN:Stmt:=top 35
abbrev qat:List Str:=["_law_script","_law_k","_law_left_here","_law_dealing_here","_law_turn","_law_made","_law_kept","_law_found"]
abbrev qh3:List Str:=["_law_script"]
def D6:FnScope qat qh3 (qk VN):=⟨rfl,rfl,rfl,by decide +kernel,rfl,by decide +kernel,by decide +kernel⟩
def qgh (S_law_left:Sp3) (S_law_dealing:Sp3) (S_law_spoilt:Sp3) (S_law_pick:Sp3) (S_is_dealing:Sp3) (S_law_is:Sp3) (S_size_of:Sp3) (S_law_size:Sp3) (S_law_same:Sp3) (S_law_within:Sp3):TS3:=(qH (LK (ZI (qc (o3 j5 (c3 (.int 1)) (cb3 NS (qc (c3 (.int 4)) (qc (cb3 JL (qc (v3 0) qi)) qi)))) qi)) (gn3 1) (qH (zw (cb3 S_law_left (qc (v3 0) (qc (v3 1) qi))) (gn3 2)) (qH (zw (cb3 S_law_dealing (qc (v3 2) qi)) (gn3 3)) (LK (ZI (qc (c3 (.int 20)) qi)) (gn3 4) (qH (zw (cb3 S_law_spoilt (qc (v3 2) (qc (v3 3) qi))) (gn3 5)) (qH (zJ (tb3 (o3 (zF false) (cb3 S_law_pick (qc (v3 2) (qc (c3 (.int 3)) qi))) (c3 (.int 0)))) (zw (cb3 S_law_spoilt (qc (v3 2) (qc (v3 5) qi))) (gn3 5)) qy) (qH (WD 6 7 (qc (cb3 (SS false) (qc (v3 5) qi)) (qc (cb3 S_is_dealing (qc (v3 5) qi)) qi))) (qH (zJ (or3 (UE (tb3 (J1 (λt=>zA t "bool") (v3 7)))) (or3 (tb3 (o3 (zF true) (v3 7) (cb3 S_law_is (qc (v3 5) qi)))) (tb3 (o3 (zF true) (cb3 (SS false) (qc (v3 5) qi)) (v3 6))))) (qV (c3 (.bl false))) qy) (zJ (TB (tb3 (v3 7)) (TB (tb3 (cb3 S_law_within (qc (v3 5) qi))) (UE (tb3 (cb3 S_law_same (qc (cb3 S_size_of (qc (v3 5) qi)) (qc (cb3 S_law_size (qc (v3 5) qi)) qi))))))) (qV (c3 (.bl false))) qy))))))))) (qV (c3 (.bl true))))
def qlu {S_law_left:Sp3} {S_law_dealing:Sp3} {S_law_spoilt:Sp3} {S_law_pick:Sp3} {S_is_dealing:Sp3} {S_law_is:Sp3} {S_size_of:Sp3} {S_law_size:Sp3} {S_law_same:Sp3} {S_law_within:Sp3} (F:Fun K "law" "law" VN f fd) (F_law_left:Fn3 P w K mg base k "_law_left" S_law_left) (F_law_dealing:Fn3 P w K mg base k "_law_dealing" S_law_dealing) (F_law_spoilt:Fn3 P w K mg base k "_law_spoilt" S_law_spoilt) (F_law_pick:Fn3 P w K mg base k "_law_pick" S_law_pick) (F_is_dealing:Fn3 P w K mg base k "is_dealing" S_is_dealing) (F_law_is:Fn3 P w K mg base k "_law_is" S_law_is) (F_size_of:Fn3 P w K mg base k "size_of" S_size_of) (F_law_size:Fn3 P w K mg base k "_law_size" S_law_size) (F_law_same:Fn3 P w K mg base k "_law_same" S_law_same) (F_law_within:Fn3 P w K mg base k "_law_within" S_law_within) (m_len:mg "len" = none) (m_min:mg "min" = none) (m_range:mg "range" = none) (m_repr:mg "repr" = none) (m_isinstance:mg "isinstance" = none) (m_bool:mg "bool" = none)
  (read:Rd sp 1 (qgh S_law_left S_law_dealing S_law_spoilt S_law_pick S_is_dealing S_law_is S_size_of S_law_size S_law_same S_law_within) qat):FnOk P w K mg base CX0 (k+1) f fd qh3 (lSp K sp):=
 qbX (t3:=(qgh S_law_left S_law_dealing S_law_spoilt S_law_pick S_is_dealing S_law_is S_size_of S_law_size S_law_same S_law_within)) F D6 (λcdv A outer s H E hr=>(qf (SZ PassesOwn.never rfl (jp rfl m_range (qa (zf qd (qq (SX rfl) qaW rfl m_min PyProof.Rows.boot_min (qa qd (qa (qq qD qW rfl m_len PySem.boot_len (qa (qb 0) qe)) qe)))) qe) (h1:=by intro _ _ _ h;simpa [qc,qi] using h)) (qO (i:=1) (D6.nd)) (qf (zl 2 D6.nd (qh F_law_left hr rfl (qa (qb 0) (qa (qb 1) qe)))) (qf (zl 3 D6.nd (qh F_law_dealing hr rfl (qa (qb 2) qe))) (qm (SZ PassesOwn.never rfl (jp rfl m_range (qa qd qe) (h1:=by intro _ _ _ h;simpa [qc,qi] using h)) (qO (i:=4) (D6.nd)) (qf (zl 5 D6.nd (qh F_law_spoilt hr rfl (qa (qb 2) (qa (qb 3) qe)))) (qf (ze (qx (qJ hr.units) qs (qh F_law_pick hr rfl (qa (qb 2) (qa qd qe))) qd (qo _)) (qm (zl 5 D6.nd (qh F_law_spoilt hr rfl (qa (qb 2) (qa (qb 5) qe))))) qz) (qf (ER (i:=6) (j:=7) rfl D6.nd rfl rfl (by decide) rfl rfl (qa (qq (DY hr.gd hr.units) RR rfl m_repr PyProof.Rows.boot_repr (qa (qb 5) qe)) (qa (qh F_is_dealing hr rfl (qa (qb 5) qe)) qe))) (qf (ze (jpt (JW (jD (zG (zU (qb 7) rfl m_isinstance rfl m_bool PyProof.Rows.boot_bool))) (JW (qx (J7 hr.units) QR (qb 7) (qh F_law_is hr rfl (qa (qb 5) qe)) (qo _)) (ZL (qx (J7 hr.units) QR (qq (DY hr.gd hr.units) RR rfl m_repr PyProof.Rows.boot_repr (qa (qb 5) qe)) (qb 6) (qo _)))))) (qm (qp J8)) qz) (qm (ze (jpt (XB (zG (qb 7)) (XB (zG (qh F_law_within hr rfl (qa (qb 5) qe))) (XH (jD (zG (qh F_law_same hr rfl (qa (qh F_size_of hr rfl (qa (qb 5) qe)) (qa (qh F_law_size hr rfl (qa (qb 5) qe)) qe))))))))) (qm (qp J8)) qz))))))))))) (qm (qp J8)))) read
end K09
namespace K09
open PySem L2 L3 Pu
def YJ:PuS (Bk.YU):=(JE (ZQ (WT (λt=>zA t "int") (bV 0)) (qgp (WT (λt=>zA t "bool") (bV 0)))))
def jo:List PyData->Option PyData:=Pu.run YJ.f 1 1 1000000000 false
def S6:Rd (PSp jo false) 1 (Bk.YU) YX:=jv YJ YX 1 1000000000 false
def TH {x0:PyData}:jo [x0]=X0 false (YJ.f 1000000000 [.sh x0]):=id rfl
def ZV:PuS (K09.ZP (PSp jo false)):=(JE (ZQ (qv (zS jo false) (qg (bV 0) qE)) (bO (opB λi j=>decide (j<=i)) (bV 0) (bV 1))))
def qM:List PyData->Option PyData:=Pu.run ZV.f 2 2 1000000000 false
def CC:Rd (PSp qM false) 2 (K09.ZP (PSp jo false)) QH:=jv ZV QH 2 1000000000 false
def X5 {x0 x1:PyData}:qM [x0,x1]=X0 false (ZV.f 1000000000 [.sh x0,.sh x1]):=id rfl
def QU:PuS (K09.QW (PSp qM false)):=(JE (qv qbu (qg (bLc (qbS (bV 0)) (gN 0) bTt (qv (zS qM false) (qg (bV 0) (qg (bV 1) qE))) [none,some 1] ⟨rfl⟩) qE)))
def qj:List PyData->Option PyData:=Pu.run QU.f 2 2 1000000000 false
def XF:Rd (PSp qj false) 2 (K09.QW (PSp qM false)) QT:=jv QU QT 2 1000000000 false
def XJ {x0 x1:PyData}:qj [x0,x1]=X0 false (QU.f 1000000000 [.sh x0,.sh x1]):=id rfl
def jk:PuS (K09.jj):=(JP (sWh (bTb (bO (opB λi j=>decide (j<i)) (bV 1) (qw 0))) (qlX (qg (bV 1) (qg (bO (opC (λ_ j=>0<j) (·%·)) (bV 0) (bV 1)) qE)) 0 1 [true,true] ⟨rfl⟩)) (JE (bO (ZN false) (bV 0) (qw 1))))
def qP:List PyData->Option PyData:=Pu.run jk.f 2 2 1000000000 false
def U0:Rd (PSp qP false) 2 (K09.jj) zN:=jv jk zN 2 1000000000 false
def UV {x0 x1:PyData}:qP [x0,x1]=X0 false (jk.f 1000000000 [.sh x0,.sh x1]):=id rfl
def jL:PuS (K09.U7 (PSp qj false)):=(JE (ZQ (bO (ZN false) (qv DZ (qg (bV 0) qE)) (qw 6)) (ZQ (qv (zS qj false) (qg (bSl (bV 0) (bSp (qw 1)) (bSp (qw 4))) (qg (qw 1) qE))) (qv (zS qj false) (qg (bSl (bV 0) (bSp (qw 4)) bNp) (qg (qw 0) qE))))))
def ZD:List PyData->Option PyData:=Pu.run jL.f 1 1 1000000000 false
def MY:Rd (PSp ZD false) 1 (K09.U7 (PSp qj false)) EN:=jv jL EN 1 1000000000 false
def MS {x0:PyData}:ZD [x0]=X0 false (jL.f 1000000000 [.sh x0]):=id rfl
def jf:PuS (K09.VZ (PSp qj false) (PSp qP false)):=(JP (sIf (bOr (bTb (bO (ZN true) (qv DZ (qg (bV 0) qE)) (qw 5))) (WG (bTb (qv (zS qj false) (qg (bSl (bV 0) (bSp (qw 1)) bNp) (qg (qw 1) qE)))))) (JE (bBl false)) j2) (JP (TZ (bSl (bV 0) (bSp (qw 1)) bNp) (qae 4 (QZ (gN 1) (QZ (gN 2) (QZ (gN 3) (QZ (gN 4) qbO))))) [true] ⟨rfl⟩) (JE (ZQ (qv (zS qP false) (qg (bV 3) (qg (bV 4) qE))) (bO (opB λi j=>decide (j<=i)) (bO (opC V9 (·*·)) (bV 3) (bV 4)) (bO (opC V9 (·*·)) (bV 1) (bV 2)))))))
def jZ:List PyData->Option PyData:=Pu.run jf.f 1 5 1000000000 false
def KD:Rd (PSp jZ false) 1 (K09.VZ (PSp qj false) (PSp qP false)) J3:=jv jf J3 1 1000000000 false
def KN {x0:PyData}:jZ [x0]=X0 false (jf.f 1000000000 [.sh x0,.un,.un,.un,.un]):=id rfl
def js:PuS (K09.EQ (PSp qj false)):=(JP (sIf (bOr (bTb (bO (ZN true) (qv DZ (qg (bV 0) qE)) (qw 4))) (WG (bTb (qv (zS qj false) (qg (bSl (bV 0) (bSp (qw 1)) (bSp (qw 3))) (qg (qw 0) qE)))))) (JE (bBl false)) j2) (JP (TZ (bSl (bV 0) (bSp (qw 1)) bNp) (qae 3 (QZ (gN 1) (QZ (gN 2) (QZ (gN 3) qbO)))) [true] ⟨rfl⟩) (JP (sIf (bOr (WG (bTb (WT (λt=>zA t "tuple") (bV 3)))) (WG (bTb (qv (zS qj false) (qg (bV 3) (qg (qw 0) qE)))))) (JE (bBl false)) j2) (JE (qv qbu (qg (bLc (qbS (bV 3)) (gN 0) bTt (bO (opB λi j=>decide (i<=j)) (qok (bV 0)) (bO qbK (bV 1) (bV 2))) [none,some 1,some 2] ⟨rfl⟩) qE))))))
def ZE:List PyData->Option PyData:=Pu.run js.f 1 4 1000000000 false
def M9:Rd (PSp ZE false) 1 (K09.EQ (PSp qj false)) EL:=jv js EL 1 1000000000 false
def NK {x0:PyData}:ZE [x0]=X0 false (js.f 1000000000 [.sh x0,.un,.un,.un]):=id rfl
def zZ:PuS (K09.ZS (PSp qj false)):=(JP (sIf (bOr (WG (bTb (WT (λt=>zA t "tuple") (bV 0)))) (bOr (bTb (bO (ZN true) (qv DZ (qg (bV 0) qE)) (bV 1))) (WG (bTb (qv (zS qj false) (qg (bV 0) (qg (qw 0) qE))))))) (JE (bBl false)) j2) (JE (qv qbu (qg (bLc (qbS (bV 0)) (gN 0) bTt (bO (opB λi j=>decide (i<j)) (bV 0) (bV 1)) [none,some 2] ⟨rfl⟩) qE))))
def zL:List PyData->Option PyData:=Pu.run zZ.f 3 3 1000000000 false
def CI:Rd (PSp zL false) 3 (K09.ZS (PSp qj false)) ZT:=jv zZ ZT 3 1000000000 false
def CG {x0 x1 x2:PyData}:zL [x0,x1,x2]=X0 false (zZ.f 1000000000 [.sh x0,.sh x1,.sh x2]):=id rfl
def zI:PuS (K09.V4 (PSp qM false) (PSp zL false)):=(JP (sIf (bOr (bTb (bO (ZN true) (qv DZ (qg (bV 0) qE)) (qw 3))) (WG (bTb (qv (zS qM false) (qg (bO jF (bV 0) (qw 1)) (qg (qw 1) qE)))))) (JE (bBl false)) j2) (JP (TZ (bSl (bV 0) (bSp (qw 1)) bNp) (qae 2 (QZ (gN 1) (QZ (gN 2) qbO))) [true] ⟨rfl⟩) (JP (sIf (bOr (WG (bTb (WT (λt=>zA t "tuple") (bV 2)))) (bTb (bO (ZN false) (qv DZ (qg (bV 2) qE)) (qw 0)))) (JE (bBl false)) j2) (JP (sIf (bOr (WG (bTb (WT (λt=>zA t "tuple") (bO jF (bV 2) (qw 0))))) (bTb (bO (ZN false) (qv DZ (qg (bO jF (bV 2) (qw 0)) qE)) (qw 0)))) (JE (bBl false)) j2) (JE (qv qbu (qg (bLc (qbS (bV 2)) (gN 0) bTt (qv (zS zL false) (qg (bV 0) (qg (qv DZ (qg (bO jF (bV 2) (qw 0)) qE)) (qg (bV 1) qE)))) [none,some 1,some 2] ⟨rfl⟩) qE)))))))
def jY:List PyData->Option PyData:=Pu.run zI.f 1 3 1000000000 false
def KL:Rd (PSp jY false) 1 (K09.V4 (PSp qM false) (PSp zL false)) V6:=jv zI V6 1 1000000000 false
def KP {x0:PyData}:jY [x0]=X0 false (zI.f 1000000000 [.sh x0,.un,.un]):=id rfl
def jW (Ff:List PyData->Option PyData):PuS (K09.YF (PSp Ff false)):=(JE (ZQ (bO (ZN false) (qv DZ (qg (bV 0) qE)) (qw 3)) (ZQ (qv (zS Ff false) (qg (bO jF (bV 0) (qw 1)) qE)) (qv (zS Ff false) (qg (bO jF (bV 0) (qw 2)) qE)))))
def QP (Ff:List PyData->Option PyData):List PyData->Option PyData:=Pu.run (jW Ff).f 1 1 1000000000 false
def zb (Ff:List PyData->Option PyData):Rd (PSp (QP Ff) false) 1 (K09.YF (PSp Ff false)) jR:=jv (jW Ff) jR 1 1000000000 false
def SJ {Ff:List PyData->Option PyData} {x0:PyData}:QP Ff [x0]=X0 false ((jW Ff).f 1000000000 [.sh x0]):=id rfl
def q0 (Ff:List PyData->Option PyData):PuS (K09.JQ (PSp ZD false) (PSp jZ false) (PSp ZE false) (PSp jY false) (PSp (QP Ff) false)):=(JP (sIf (bOr (WG (bTb (WT (λt=>zA t "tuple") (bV 0)))) (bTb (bO (ZN false) (qv DZ (qg (bV 0) qE)) (qw 0)))) (JE (bBl false)) j2) (JP (qg4 (bO jF (bV 0) (qw 0)) 1 [true] ⟨rfl⟩) (JP (sIf (bTb (bO NB (bV 1) (U3 "skew"))) (JE (qv (zS ZD false) (qg (bV 0) qE))) j2) (JP (sIf (bTb (bO NB (bV 1) (U3 "rests"))) (JE (qv (zS jZ false) (qg (bV 0) qE))) j2) (JP (sIf (bTb (bO NB (bV 1) (U3 "bits"))) (JE (qv (zS ZE false) (qg (bV 0) qE))) j2) (JP (sIf (bTb (bO NB (bV 1) (U3 "table"))) (JE (qv (zS jY false) (qg (bV 0) qE))) j2) (JE (ZQ (bO NB (bV 1) (U3 "joined")) (qv (zS (QP Ff) false) (qg (bV 0) qE))))))))))
def qr:Nat->List PyData->Option PyData
 |0=>λ_=>none
 |j+1=>Pu.run (q0 (qr j)).f 1 2 1000000000 false
def qR (j:Nat):Rd (PSp (qr (j+1)) false) 1 (K09.JQ (PSp ZD false) (PSp jZ false) (PSp ZE false) (PSp jY false) (PSp (QP (qr j)) false)) Q5:=jv (q0 (qr j)) Q5 1 1000000000 false
def RN {j:Nat} {x0:PyData}:qr (j+1) [x0]=X0 false ((q0 (qr j)).f 1000000000 [.sh x0,.un]):=id rfl
def Q0 (Ff:List PyData->Option PyData):PuS (Bk.EG (PSp Ff false)):=(JP (qg4 (bO jF (bV 0) (qw 0)) 1 [true] ⟨rfl⟩) (JP (sIf (bTb (bO (ZN false) (bV 1) (U3 "bits"))) (JE (WM (qg (bO (opC TW (λi j=>i*2 ^ j.toNat)) (qw 1) (bO jF (bV 0) (qw 1))) (qg (bO (opC TW (λi j=>i*2 ^ j.toNat)) (qw 1) (bO jF (bV 0) (qw 2))) (qg (bO (opC TW (λi j=>i*2 ^ j.toNat)) (qw 1) (qv DZ (qg (bO jF (bV 0) (qw 3)) qE))) qE))) ⟨rfl⟩)) j2) (JP (sIf (bTb (bO (ZN false) (bV 1) (U3 "table"))) (JE (WM (qg (qv DZ (qg (bO jF (bV 0) (qw 2)) qE)) (qg (qv DZ (qg (bO jF (bO jF (bV 0) (qw 2)) (qw 0)) qE)) (qg (bO jF (bV 0) (qw 1)) qE))) ⟨rfl⟩)) j2) (JP (sIf (bTb (bO (ZN false) (bV 1) (U3 "joined"))) (JP (TZ (qv (zS Ff false) (qg (bO jF (bV 0) (qw 1)) qE)) (qae 3 (QZ (gN 2) (QZ (gN 3) (QZ (gN 4) qbO)))) [true] ⟨rfl⟩) (JP (TZ (qv (zS Ff false) (qg (bO jF (bV 0) (qw 2)) qE)) (qae 3 (QZ (gN 5) (QZ (gN 6) (QZ (gN 7) qbO)))) [true] ⟨rfl⟩) (JE (WM (qg (bO (opC V9 (·*·)) (bV 2) (bV 5)) (qg (bO (opC V9 (·*·)) (bV 3) (bV 6)) (qg (bO (opC V9 (·*·)) (bV 4) (bV 7)) qE))) ⟨rfl⟩)))) j2) (JE (WM (qg (bO jF (bV 0) (qw 1)) (qg (bO jF (bV 0) (qw 2)) (qg (bO jF (bV 0) (qw 3)) qE))) ⟨rfl⟩))))))
def jq:Nat->List PyData->Option PyData
 |0=>λ_=>none
 |j+1=>Pu.run (Q0 (jq j)).f 1 8 1000000000 false
def jg (j:Nat):Rd (PSp (jq (j+1)) false) 1 (Bk.EG (PSp (jq j) false)) VT:=jv (Q0 (jq j)) VT 1 1000000000 false
def J9 {j:Nat} {x0:PyData}:jq (j+1) [x0]=X0 false ((Q0 (jq j)).f 1000000000 [.sh x0,.un,.un,.un,.un,.un,.un,.un]):=id rfl
def j0 (Ff:List PyData->Option PyData):PuS (Bk.UA (PSp Ff false)):=(JP (sIf (bTb (bO (qog false) (bO jF (bV 0) (qw 0)) (WM (qg (U3 "skew") (qg (U3 "rests") qE)) ⟨rfl⟩))) (JE (bSl (bV 0) (bSp (qw 1)) (bSp (qw 4)))) j2) (JP (sIf (bTb (bO (ZN false) (bO jF (bV 0) (qw 0)) (U3 "bits"))) (JP (qg4 (qaC (qg (qw 1) (qg (qw 2) (qg (qw 4) (qg (qw 8) (qg (qw 16) (qg (qw 32) (qg (qw 64) (qg (qw 128) (qg (qw 256) (qg (qw 512) qE)))))))))) ⟨rfl⟩) 1 [] ⟨rfl⟩) (JE (WM (qg (bO jF (bV 1) (bO jF (bV 0) (qw 1))) (qg (bO jF (bV 1) (bO jF (bV 0) (qw 2))) (qg (bO jF (bV 1) (qv DZ (qg (bO jF (bV 0) (qw 3)) qE))) qE))) ⟨rfl⟩))) j2) (JP (sIf (bTb (bO (ZN false) (bO jF (bV 0) (qw 0)) (U3 "table"))) (JE (WM (qg (qv DZ (qg (bO jF (bV 0) (qw 2)) qE)) (qg (qv DZ (qg (bO jF (bO jF (bV 0) (qw 2)) (qw 0)) qE)) (qg (bO jF (bV 0) (qw 1)) qE))) ⟨rfl⟩)) j2) (JP (qlX (qg (qv (zS Ff false) (qg (bO jF (bV 0) (qw 1)) qE)) (qg (qv (zS Ff false) (qg (bO jF (bV 0) (qw 2)) qE)) qE)) 2 3 [true] ⟨rfl⟩) (JE (qv qmZ (qg (bLc (qoF (qg (bV 2) (qg (bV 3) qE))) (qae 2 (QZ (gN 0) (QZ (gN 1) qbO))) bTt (bO (opC V9 (·*·)) (bV 0) (bV 1)) [none,none] ⟨rfl⟩) qE)))))))
def zc:Nat->List PyData->Option PyData
 |0=>λ_=>none
 |j+1=>Pu.run (j0 (zc j)).f 1 4 1000000000 false
def zR (j:Nat):Rd (PSp (zc (j+1)) false) 1 (Bk.UA (PSp (zc j) false)) V8:=jv (j0 (zc j)) V8 1 1000000000 false
def ZZ {j:Nat} {x0:PyData}:zc (j+1) [x0]=X0 false ((j0 (zc j)).f 1000000000 [.sh x0,.un,.un,.un]):=id rfl
def U4:PuS (K09.EI):=(JE (qv qbu (qg (bLc (qbS (bV 0)) (gN 0) bTt (ZQ (WT (λt=>zA t "int") (bV 0)) (ZQ (qgp (WT (λt=>zA t "bool") (bV 0))) (bO (opB λi j=>decide (j<=i)) (bV 0) (bV 1)))) [none,some 1] ⟨rfl⟩) qE)))
def qG:List PyData->Option PyData:=Pu.run U4.f 2 2 1000000000 false
def NE:Rd (PSp qG false) 2 (K09.EI) U6:=jv U4 U6 2 1000000000 false
def M6 {x0 x1:PyData}:qG [x0,x1]=X0 false (U4.f 1000000000 [.sh x0,.sh x1]):=id rfl
def zh:PuS (K09.QY (PSp qG false)):=(JP (sIf (bOr (WG (bTb (WT (λt=>zA t "tuple") (bV 0)))) (bOr (bTb (bO (ZN false) (bV 0) (WM qE ⟨rfl⟩))) (WG (bTb (qv qbu (qg (bLc (qbS (bV 0)) (gN 0) bTt (WT (λt=>zA t "tuple") (bV 0)) [none] ⟨rfl⟩) qE)))))) (JE (bBl false)) j2) (JP (sIf (bOr (bTb (bO (ZN false) (bO jF (bV 0) (qw 0)) (WM qE ⟨rfl⟩))) (WG (bTb (qv qbu (qg (bLc (qbS (bV 0)) (gN 0) bTt (ZQ (bO (ZN false) (qv DZ (qg (bV 0) qE)) (qv DZ (qg (bO jF (bV 1) (qw 0)) qE))) (qv (zS qG false) (qg (bV 0) (qg (qw 0) qE)))) [none,some 0] ⟨rfl⟩) qE))))) (JE (bBl false)) j2) (JE (qv qbu (qg (bLc (qbS (bV 0)) (gN 0) bTt (bO (opB λi j=>decide (i<j)) (qv qhW (qg (bV 0) qE)) (bV 1)) [none,some 1] ⟨rfl⟩) qE)))))
def zz:List PyData->Option PyData:=Pu.run zh.f 2 2 1000000000 false
def W8:Rd (PSp zz false) 2 (K09.QY (PSp qG false)) QV:=jv zh QV 2 1000000000 false
def WV {x0 x1:PyData}:zz [x0,x1]=X0 false (zh.f 1000000000 [.sh x0,.sh x1]):=id rfl
def zi (Ff:List PyData->Option PyData):PuS (K09.WH (PSp qG false) Bk.ZX (PSp zz false) (PSp Ff false)):=(JP (sIf (bOr (WG (bTb (WT (λt=>zA t "tuple") (bV 0)))) (bOr (bTb (bO (ZN false) (bV 0) (WM qE ⟨rfl⟩))) (WG (bTb (WT (λt=>zA t "str") (bO jF (bV 0) (qw 0))))))) (JE (bBl false)) j2) (JP (qlX (qg (bO jF (bV 0) (qw 0)) (qg (bSl (bV 0) (bSp (qw 1)) bNp) qE)) 1 2 [true] ⟨rfl⟩) (JP (sIf (bTb (bO (ZN false) (bV 1) (U3 "skew"))) (JE (ZQ (bO (ZN false) (qv DZ (qg (bV 2) qE)) (qw 5)) (ZQ (qv (zS qG false) (qg (bSl (bV 2) bNp (bSp (qw 3))) (qg (qw 1) qE))) (qv (zS qG false) (qg (bSl (bV 2) (bSp (qw 3)) bNp) (qg (qw 0) qE)))))) j2) (JP (sIf (bTb (bO (ZN false) (bV 1) (U3 "rests"))) (JP (sIf (bOr (bTb (bO (ZN true) (qv DZ (qg (bV 2) qE)) (qw 4))) (WG (bTb (qv (zS qG false) (qg (bV 2) (qg (qw 1) qE)))))) (JE (bBl false)) j2) (JE (ZQ (bO (ZN false) (qv qmb (qg (bO jF (bV 2) (qw 2)) (qg (bO jF (bV 2) (qw 3)) qE))) (qw 1)) (bO (opB λi j=>decide (j<=i)) (bO (opC V9 (·*·)) (bO jF (bV 2) (qw 2)) (bO jF (bV 2) (qw 3))) (bO (opC V9 (·*·)) (bO jF (bV 2) (qw 0)) (bO jF (bV 2) (qw 1))))))) j2) (JP (sIf (bTb (bO (ZN false) (bV 1) (U3 "bits"))) (JP (sIf (bOr (bTb (bO (ZN true) (qv DZ (qg (bV 2) qE)) (qw 3))) (bOr (WG (bTb (qv (zS qG false) (qg (bSl (bV 2) bNp (bSp (qw 2))) (qg (qw 0) qE))))) (WG (bTb (WT (λt=>zA t "tuple") (bO jF (bV 2) (qw 2))))))) (JE (bBl false)) j2) (JP (qg4 (qw 1) 3 [] ⟨rfl⟩) (JP (qor (qlR (qg (qv qon (qg (bO qbK (bO jF (bV 2) (qw 0)) (bO jF (bV 2) (qw 1))) (qg (qw 99) qE))) qE)) (gN 4) (qg4 (bO (opC V9 (·*·)) (bV 3) (qw 2)) 3 [false,false,false,true] ⟨rfl⟩) [false,false,true] ⟨rfl⟩) (JE (ZQ (qv (zS qG false) (qg (bO jF (bV 2) (qw 2)) (qg (qw 0) qE))) (qv qbu (qg (bLc (qbS (bO jF (bV 2) (qw 2))) (gN 0) bTt (bO (opB λi j=>decide (i<j)) (bV 0) (bV 1)) [none,some 3] ⟨rfl⟩) qE))))))) j2) (JP (sIf (bTb (bO (ZN false) (bV 1) (U3 "table"))) (JE (ZQ (bO (ZN false) (qv DZ (qg (bV 2) qE)) (qw 2)) (ZQ (qv (zS qG false) (qg (bSl (bV 2) bNp (bSp (qw 1))) (qg (qw 1) qE))) (qv (zS zz false) (qg (bO jF (bV 2) (qw 1)) (qg (bO jF (bV 2) (qw 0)) qE)))))) j2) (JE (ZQ (bO (ZN false) (bV 1) (U3 "joined")) (ZQ (bO (ZN false) (qv DZ (qg (bV 2) qE)) (qw 2)) (ZQ (qv (zS Ff false) (qg (bO jF (bV 2) (qw 0)) qE)) (qv (zS Ff false) (qg (bO jF (bV 2) (qw 1)) qE))))))))))))
def zM:Nat->List PyData->Option PyData
 |0=>λ_=>none
 |j+1=>Pu.run (zi (zM j)).f 1 5 1000000000 false
def jb (j:Nat):Rd (PSp (zM (j+1)) false) 1 (K09.WH (PSp qG false) Bk.ZX (PSp zz false) (PSp (zM j) false)) WL:=jv (zi (zM j)) WL 1 1000000000 false
def j8 {j:Nat} {x0:PyData}:zM (j+1) [x0]=X0 false ((zi (zM j)).f 1000000000 [.sh x0,.un,.un,.un,.un]):=id rfl
def jC:PwS 0 (K09.jy Bk.qA):=(U2 (ql6 (KQ (eDr EK (aOf (qg (qw 7) qE))) (KQ (eDr EK (aOf (qg (bO QL (qv DZ (qg (bV 1) qE)) (qw 1)) qE))) (aOf qE))) 2 3 [false,true] ⟨rfl⟩ ⟨rfl⟩) (U2 (NI (eO jF (eOf (qaC (qg qkq (qg (bBl true) (qg (qw 0) (qg (qln (qw 1)) (qg (U3 "skew") (qg (WM qE ⟨rfl⟩) (qg (WM (qg (qw 0) qE) ⟨rfl⟩) (qg (WM (qg (WM (qg (qw 0) qE) ⟨rfl⟩) qE) ⟨rfl⟩) (qg (qw 7) (qg (U3 "a") qE)))))))))) ⟨rfl⟩)) (eDr EK (aOf (qg (qw 10) qE)))) 4 [] ⟨rfl⟩ ⟨rfl⟩) (U2 (NI (eOf (LB (bV 1) (bSp (bV 3)) (bSp (bO QL (bV 3) (qw 2))))) 5 [false,true,false,true] ⟨rfl⟩ ⟨rfl⟩) (U2 (wIf (cOf (bTb (bO (ZN false) (bV 2) (qw 0)))) (CY (eOf (qv qnY (qg (bV 1) qE)))) UD) (U2 (wIf (cOf (bTb (bO (ZN false) (bV 2) (qw 1)))) (CY (eOf (bO QL (LB (bV 1) bNp (bSp (bV 3))) (LB (bV 1) (bSp (bO QL (bV 3) (qw 1))) bNp)))) UD) (U2 (wIf (cOf (bTb (bO (ZN false) (bV 2) (qw 2)))) (CY (eOf (bO QL (bO QL (LB (bV 1) bNp (bSp (bV 3))) (LB (bV 1) (bSp (bV 3)) (bSp (bO QL (bV 3) (qw 1))))) (LB (bV 1) (bSp (bV 3)) bNp)))) UD) (U2 (wIf (cOf (bTb (bO (ZN false) (bV 2) (qw 3)))) (CY (eOf (bO QL (bO QL (LB (bV 1) bNp (bSp (bV 3))) (qlG (bV 5))) (LB (bV 1) (bSp (bO QL (bV 3) (qw 2))) bNp)))) UD) (CY (eOf (bIf (bTb (bO (ZN false) (bV 2) (qw 4))) (qlG (bV 1)) (bO QL (bO QL (LB (bV 1) bNp (bSp (bV 3))) (WM (qg (bV 4) qE) ⟨rfl⟩)) (LB (bV 1) (bSp (bO (opI (·-·)) (bO QL (bV 3) (bV 2)) (qw 5))) bNp))))))))))))
def zg:Wm:=qlB jC 2 6 false
def ES:Rd (DSp zg.W false) 2 (K09.jy Bk.qA) zW:=K1 jC zW 2 false
def EV {x0:PyData} {n:Nat} {Q:QD}:zg.W [x0] n Q=(2=2/\jC.w [.un,.sh x0,.un,.un,.un,.un] n (qfa false Q)):=id rfl
def jO:PwS 0 (K09.jP Bk.qA):=(U2 (NI (eOf (U3 "abcdefghijklmnopqrstuvwxyzABZ 09_")) 2 [] ⟨rfl⟩ ⟨rfl⟩) (U2 (qhl (qmp (KQ (eDr EK (aOf (qg (qw 4) qE))) (KQ (eDr EK (aOf (qg (bO qbK (qv qgT (qg (bV 1) qE)) (qw 1)) qE))) (KQ (eO qfw (eOf (bV 2)) (eDr EK (aOf (qg (qw 33) qE)))) (aOf qE)))) ⟨rfl⟩) (qae 3 (QZ (gN 3) (QZ (gN 4) (QZ (gN 5) qbO)))) [false,true,true] ⟨rfl⟩ ⟨rfl⟩) (U2 (NI (eOf (qaC (qg (U3 "skew") (qg (U3 "rests") (qg (U3 "bits") (qg (U3 "table") (qg (U3 "joined") (qg (U3 "") qE)))))) ⟨rfl⟩)) 6 [] ⟨rfl⟩ ⟨rfl⟩) (U2 (wIf (cOf (bTb (bO (ZN false) (bV 3) (qw 0)))) (CY (eOf (bO jF (bV 6) (bO (opC (λ_ j=>0<j) (·%·)) (bV 4) (qw 6))))) UD) (CY (eOf (bO LN (bO LN (qlL (bV 1) bNp (bSp (bV 4))) (bO qaF (bV 5) (qv qnH (qg (bO (ZN true) (bV 3) (qw 1)) qE)))) (qlL (bV 1) (bSp (bO qbK (bV 4) (qv qnH (qg (bO (ZN true) (bV 3) (qw 2)) qE)))) bNp))))))))
def zr:Wm:=qlB jO 2 7 false
def DG:Rd (DSp zr.W false) 2 (K09.jP Bk.qA) je:=K1 jO je 2 false
def DC {x0:PyData} {n:Nat} {Q:QD}:zr.W [x0] n Q=(2=2/\jO.w [.un,.sh x0,.un,.un,.un,.un,.un] n (qfa false Q)):=id rfl
def JN (Wf:Wm):PwS 0 (K09.JR Bk.qA (DSp Wf.W false) (DSp zg.W false) (DSp zr.W false)):=(U2 (NI (eDr EK (aOf (qg (qw 4) qE))) 2 [] ⟨rfl⟩ ⟨rfl⟩) (U2 (wIf (cOf (qej (bTb (WT (λt=>zA t "tuple") (bV 1))) (qej (bTb (bO (ZN true) (bV 1) (WM qE ⟨rfl⟩))) (bTb (bO (opB λi j=>decide (j<i)) (bV 2) (qw 0)))))) (U2 (NI (eDr EK (aOf (qg (qv DZ (qg (bV 1) qE)) qE))) 3 [false,true] ⟨rfl⟩ ⟨rfl⟩) (CY (eO QL (eO QL (eOf (LB (bV 1) bNp (bSp (bV 3)))) (qmp (KQ (eDr (dSp Wf false) (aOf (qg (bO jF (bV 1) (bV 3)) qE))) (aOf qE)) ⟨rfl⟩)) (eOf (LB (bV 1) (bSp (bO QL (bV 3) (qw 1))) bNp))))) UD) (U2 (wIf (cOf (bTb (WT (λt=>zA t "tuple") (bV 1)))) (CY (eDr (dSp zg false) (aOf (qg (bV 1) qE)))) UD) (U2 (wIf (cOf (bTb (WT (λt=>zA t "str") (bV 1)))) (CY (eDr (dSp zr false) (aOf (qg (bV 1) qE)))) UD) (U2 (wIf (cOf (WG (bTb (WT (λt=>zA t "int") (bV 1))))) (CY (eOf (WM (qg (qw 0) qE) ⟨rfl⟩))) UD) (U2 (NI (eDr EK (aOf (qg (qw 9) qE))) 4 [] ⟨rfl⟩ ⟨rfl⟩) (CY (eOf (bO jF (qaC (qg (bO (opN (·+·)) (bV 1) (qw 1)) (qg (bO (opN (·-·)) (bV 1) (qw 1)) (qg (bO qk4 (qln (qw 1)) (bV 1)) (qg (qw 0) (qg (bO qiT (bV 1) (qw 1)) (qg (qv (K9 true) (qg (bV 1) qE)) (qg qkq (qg (WM (qg (bV 1) qE) ⟨rfl⟩) (qg (qaC (qg (bV 1) qE) ⟨rfl⟩) qE))))))))) ⟨rfl⟩) (bV 4))))))))))
def zo:Nat->Wm
 |0=>wNo
 |j+1=>qlB (JN (zo j)) 2 5 false
def zu (j:Nat):Rd (DSp (zo (j+1)).W false) 2 (K09.JR Bk.qA (DSp (zo j).W false) (DSp zg.W false) (DSp zr.W false)) Q8:=K1 (JN (zo j)) Q8 2 false
def RB {j:Nat} {x0:PyData} {n:Nat} {Q:QD}:(zo (j+1)).W [x0] n Q=(2=2/\(JN (zo j)).w [.un,.sh x0,.un,.un,.un] n (qfa false Q)):=id rfl
def zm (Ff:List PyData->Option PyData):PuS (K09.JO (PSp Ff false) (PSp (zc 10) false)):=(JP (sIf (qej (bTb (bO (ZN false) (bO jF (bV 0) (qw 0)) (U3 "joined"))) (WG (qej (bTb (qv (zS Ff false) (qg (bO jF (bV 0) (qw 1)) qE))) (bTb (qv (zS Ff false) (qg (bO jF (bV 0) (qw 2)) qE)))))) (JE (bBl false)) j2) (JP (sIf (qej (bTb (bO (ZN false) (bO jF (bV 0) (qw 0)) (U3 "bits"))) (bTb (bO (opB λi j=>decide (j<i)) (qv qoz (qg (bO jF (bV 0) (qw 1)) (qg (bO jF (bV 0) (qw 2)) qE))) (qw 4)))) (JE (bBl false)) j2) (JP (TZ (qv (zS (zc 10) false) (qg (bV 0) qE)) (qae 3 (QZ (gN 1) (QZ (gN 2) (QZ (gN 3) qbO)))) [true] ⟨rfl⟩) (JE (ZQ (bO (opB λi j=>decide (i<=j)) (bV 1) (qw 16)) (ZQ (bO (opB λi j=>decide (i<=j)) (bV 2) (qw 16)) (bO (opB λi j=>decide (i<=j)) (bV 3) (qw 32))))))))
def zq:Nat->List PyData->Option PyData
 |0=>λ_=>none
 |j+1=>Pu.run (zm (zq j)).f 1 4 1000000000 false
def zj (j:Nat):Rd (PSp (zq (j+1)) false) 1 (K09.JO (PSp (zq j) false) (PSp (zc 10) false)) Q2:=jv (zm (zq j)) Q2 1 1000000000 false
def jA {j:Nat} {x0:PyData}:zq (j+1) [x0]=X0 false ((zm (zq j)).f 1000000000 [.sh x0,.un,.un,.un]):=id rfl
def qme (S_law_dealing:Sp3) (S_law_spoilt:Sp3) (S_law_pick:Sp3) (S_is_dealing:Sp3) (S_law_is:Sp3) (S_size_of:Sp3) (S_law_size:Sp3) (S_law_same:Sp3) (S_law_within:Sp3):TS3:=(qH (zw (cb3 S_law_dealing (qc (v3 2) qi)) (gn3 3)) (LK (ZI (qc (c3 (.int 20)) qi)) (gn3 4) (qH (zw (cb3 S_law_spoilt (qc (v3 2) (qc (v3 3) qi))) (gn3 5)) (qH (zJ (tb3 (o3 (zF false) (cb3 S_law_pick (qc (v3 2) (qc (c3 (.int 3)) qi))) (c3 (.int 0)))) (zw (cb3 S_law_spoilt (qc (v3 2) (qc (v3 5) qi))) (gn3 5)) qy) (qH (WD 6 7 (qc (cb3 (SS false) (qc (v3 5) qi)) (qc (cb3 S_is_dealing (qc (v3 5) qi)) qi))) (qH (zJ (or3 (UE (tb3 (J1 (λt=>zA t "bool") (v3 7)))) (or3 (tb3 (o3 (zF true) (v3 7) (cb3 S_law_is (qc (v3 5) qi)))) (tb3 (o3 (zF true) (cb3 (SS false) (qc (v3 5) qi)) (v3 6))))) (qV (c3 (.bl false))) qy) (zJ (TB (tb3 (v3 7)) (TB (tb3 (cb3 S_law_within (qc (v3 5) qi))) (UE (tb3 (cb3 S_law_same (qc (cb3 S_size_of (qc (v3 5) qi)) (qc (cb3 S_law_size (qc (v3 5) qi)) qi))))))) (qV (c3 (.bl false))) qy)))))))
def RC:=((U2 (NI (eDr (dSp (zo 9) false) (aOf (qg (bV 3) qE))) 5 [false,false,false,true] ⟨rfl⟩ ⟨rfl⟩) (U2 (wIf (cTb (eO (ZN false) (eDr EK (aOf (qg (qw 3) qE))) (eOf (qw 0)))) (NI (eDr (dSp (zo 9) false) (aOf (qg (bV 5) qE))) 5 [false,false,false,false,false,true] ⟨rfl⟩ ⟨rfl⟩) UD) (U2 (ql6 (aOf (qg (qv (K9 false) (qg (bV 5) qE)) (qg (qv (zS (qr 12) false) (qg (bV 5) qE)) qE))) 6 7 [false,false,false,false,false,true] ⟨rfl⟩ ⟨rfl⟩) (U2 (wIf (cOf (bOr (WG (bTb (WT (λt=>zA t "bool") (bV 7)))) (bOr (bTb (bO (ZN true) (bV 7) (qv (zS (zM 12) false) (qg (bV 5) qE)))) (bTb (bO (ZN true) (qv (K9 false) (qg (bV 5) qE)) (bV 6)))))) (CY (eOf (bBl false))) UD) (wIf (cOf (qej (bTb (bV 7)) (qej (bTb (qv (zS (zq 10) false) (qg (bV 5) qE))) (WG (bTb (qv (qgS 3) (qg (qv (zS (jq 10) false) (qg (bV 5) qE)) (qg (qv (zS (zc 10) false) (qg (bV 5) qE)) qE)))))))) (CY (eOf (bBl false))) UD))))):PwS 2 _)
def qcq:PwS 2 (qme Bk.QS (DSp (zo 9).W false) Bk.qA (PSp (qr 12) false) (PSp (zM 12) false) (PSp (jq 10) false) (PSp (zc 10) false) (Bk.QQ 4) (PSp (zq 10) false)):=(U2 (NI (eDr RW (aOf qE)) 3 [] ⟨rfl⟩ ⟨rfl⟩) (qoa (iOf (qlR (qg (qw 20) qE))) (gN 4) RC [] ⟨rfl⟩ ⟨rfl⟩))
def qkG (h:∀ k:Nat,k<=60->qcq.w [.un,.sh (.int k),.un,.un,.un,.un,.un,.un] 0 okW):Rd CU 1 (K09.qgh Bk.Y0 Bk.QS (DSp (zo 9).W false) Bk.qA (PSp (qr 12) false) (PSp (zM 12) false) (PSp (jq 10) false) (PSp (zc 10) false) (Bk.QQ 4) (PSp (zq 10) false)) qat:=qb0 qcq qat 4 5 ⟨by decide,by decide⟩ rfl h
end K09
namespace K09
open PySem L2 L3 Pu Pv
open Bk (SD SDs ZK EU qbd qa4 j6 KK)
def Th (L B:Nat):Nat->PyData->Prop
 |_,.none=>True
 |_,.bool _=>True
 |_,.int i=>-(B:Int)<=i/\i<=B
 |_,.str s=>s.cps.size<=L+14/\(s.cps.toList.all λc=>decide (c<16 ^ 8))=true
 |n+1,.list ds=>ds.length<=L/\∀ d∈ds,Th L B n d
 |n+1,.tuple ds=>ds.length<=L/\∀ d∈ds,Th L B n d
 |_,_=>False
def qmd {L B:Nat} (n:Nat):Th L B n .none:=by cases n<;>trivial
def qlY {L B:Nat} (n:Nat) {b:Bool}:Th L B n (.bool b):=by cases n<;>trivial
def XI {L B:Nat} (n:Nat) {i:Int}:Th L B n (.int i)=(-(B:Int)<=i/\i<=B):=by cases n<;>rfl
def MQ {L B:Nat} (n:Nat) {s:Str}:Th L B n (.str s)=(s.cps.size<=L+14/\(s.cps.toList.all λc=>decide (c<16 ^ 8))=true):=by cases n<;>rfl
def SU {L B n:Nat} {ds:List PyData} (hl:ds.length<=L) (h:∀ d∈ds,Th L B n d):Th L B (n+1) (.tuple ds):=⟨hl,h⟩
def qoH {L B n:Nat} {ds:List PyData} (hl:ds.length<=L) (h:∀ d∈ds,Th L B n d):Th L B (n+1) (.list ds):=⟨hl,h⟩
def zB {L B L' B':Nat} (hL:L<=L') (hB:B<=B'):∀ {n:Nat} (m:Nat) {d:PyData},Th L B n d->n<=m->Th L' B' m d
 |n,m,.none,_,_=>qmd m
 |n,m,.bool _,_,_=>qlY m
 |n,m,.int i,h,_=>by rw [XI] at h ⊢;omega
 |n,m,.str s,h,_=>by rw [MQ] at h ⊢;exact ⟨by omega,h.2⟩
 |n+1,m+1,.list ds,⟨h1,h2⟩,e=>⟨by omega,λd hd=>zB hL hB m (h2 d hd) (by omega)⟩
 |n+1,m+1,.tuple ds,⟨h1,h2⟩,e=>⟨by omega,λd hd=>zB hL hB m (h2 d hd) (by omega)⟩
 |0,_,.list ds,h,_=>h.elim
 |0,_,.tuple ds,h,_=>h.elim
 |n+1,0,.list ds,h,e=>by omega
 |n+1,0,.tuple ds,h,e=>by omega
 |0,_,.dict _,h,_=>h.elim
 |n+1,_,.dict _,h,_=>h.elim
def bd (L:Nat):Nat->Nat
 |0=>L+14
 |n+1=>L*(bd L n+1)+(L+14)
def qgU {L B:Nat} (hB:B<=1000000):∀ {n:Nat} {d:PyData},Th L B n d->SD n (bd L n) d
 |n,.none,_=>qbd _ _
 |n,.bool _,_=>qa4 _ _ _
 |n,.int i,h=>by rw [XI] at h;exact ZK _ _ (by omega)
 |n,.str s,h=>by
  rw [MQ] at h;exact EU _ _ (by cases n<;>simp only [bd]<;>omega) h.2
 |n+1,.list ds,⟨h1,h2⟩=>(KK (Bk.DJ λd hd=>qgU hB (h2 d hd))).mono (Nat.le_refl _) (by simp only [bd];have:=Nat.mul_le_mul h1 (Nat.le_refl (bd L n+1));omega)
 |n+1,.tuple ds,⟨h1,h2⟩=>(j6 (Bk.DJ λd hd=>qgU hB (h2 d hd))).mono (Nat.le_refl _) (by simp only [bd];have:=Nat.mul_le_mul h1 (Nat.le_refl (bd L n+1));omega)
 |0,.list ds,h=>h.elim
 |0,.tuple ds,h=>h.elim
 |0,.dict _,h=>h.elim
 |n+1,.dict _,h=>h.elim
def isN:PyData->Bool
 |.int _=>true
 |_=>false
def geN (m:Int):PyData->Bool
 |.int i=>decide (m<=i)
 |_=>false
def a1:zA "NoneType" "int" = false:=rfl
def a2:zA "bool" "int" = true:=rfl
def a3:zA "int" "int" = true:=rfl
def a4:zA "str" "int" = false:=rfl
def a5:zA "list" "int" = false:=rfl
def a6:zA "tuple" "int" = false:=rfl
def a7:zA "bool" "bool" = true:=rfl
def a8:zA "int" "bool" = false:=rfl
def c1:zA "NoneType" "tuple" = false:=rfl
def c2:zA "bool" "tuple" = false:=rfl
def cq3:zA "int" "tuple" = false:=rfl
def c4:zA "str" "tuple" = false:=rfl
def c5:zA "list" "tuple" = false:=rfl
def c6:zA "tuple" "tuple" = true:=rfl
def d1:zA "NoneType" "str" = false:=rfl
def d2:zA "bool" "str" = false:=rfl
def d3:zA "int" "str" = false:=rfl
def d4:zA "str" "str" = true:=rfl
def d5:zA "list" "str" = false:=rfl
def d6:zA "tuple" "str" = false:=rfl
def qnp {L B n:Nat} {d:PyData} (h:Th L B n d):jo [d]=some (.bool (isN d)):=by
 rw [TH];cases d with
 |dict _=>cases n<;>exact h.elim
 |_=>try simp only [Pu.pwA,YJ,isN,a1,a2,a3,a4,a5,a6,a7,a8,Bool.not_true,Bool.not_false]
def qkY {L B n:Nat} {d:PyData} {e:Int} (h:Th L B n d):qM [d,.int e]=some (.bool (geN e d)):=by
 have k:=qnp h;rw [X5];cases d<;>try simp only [Pu.pwA,ZV,k,isN,geN]
def C2 {h:PyData->Option (Option PyData)} {k:PyData->PyData} {ds:List PyData} (hh:∀ d∈ds,h d=some (some (k d))):lcP h ds=some (ds.map k):=by
 have:=N9 (g:=id) (k:=k) (xs:=ds) hh;rw [List.map_id] at this;exact this
def MV {L B n:Nat} {ds:List PyData} {e:Int} (h:∀ d∈ds,Th L B n d) (hl:ds.length<=1000):qj [.tuple ds,.int e]=some (.bool (ds.all (geN e))):=by
 rw [XJ]
 try simp only [Pu.pwA,QU]
 rw [UH (ds:=ds) (fs:=(ds.map (geN e)).map PyData.bool)]
 ·try simp only [Pu.pwA,VH]
  rw [List.all_map];rfl
 ·try simp only [Pu.pwA]
 ·rw [map_map];refine C2 λd hd=>?_
  try simp only [Pu.pwA,WB,qkY (h d hd),Function.comp_def]
 ·simp;omega
end K09
namespace K09
open PySem L2 L3 Pu Pv
def qhn {cf:Rho->Option Bool} {bf:Rho->Option Ot} (hc:∀ a b:Int,cf [.sh (.int a),.sh (.int b)]=some (decide (0<b))) (hb:∀ a b:Int,0<b->bf [.sh (.int a),.sh (.int b)]=some (.nx [.sh (.int b),.sh (.int (a%b))])):∀ (b a N:Nat),b<N->whP cf bf N [.sh (.int (a:Int)),.sh (.int (b:Int))]=some (.nx [.sh (.int ((Nat.gcd a b:Nat):Int)),.sh (.int 0)]):=by
 intro b;induction b using Nat.strongRecOn with
 |_ b ih=>
  intro a N hN;obtain ⟨M,rfl⟩:∃ M,N=M+1:=⟨N-1,by omega⟩
  simp only [whP,hc,Option.bind_some];by_cases z:b=0
  ·subst z;simp
  ·have p:(0:Int)<(b:Int):=by omega
   have lt:=Nat.mod_lt a (show 0<b by omega);rw [decide_eq_true p,if_pos rfl,hb _ _ p];simp only [Option.bind_some];have:=ih (a%b) lt b M (by omega);rw [show ((a%b:Nat):Int)=(a:Int)%(b:Int) from Int.natCast_emod a b] at this;rw [this,Nat.gcd_comm b (a%b),← Nat.gcd_rec,Nat.gcd_comm]
def qm9 {a b:Nat} (h:b<1000000000):qP [.int (a:Int),.int (b:Int)]=some (.bool (decide (Nat.gcd a b=1))):=by
 rw [UV]
 try simp only [Pu.pwA,jk]
 rw [qhn (λa b=>by try simp only [Pu.pwA]) (λa b hb=>by try simp (disch:=omega) only [Pu.pwA,qjY]) b a _ h];have e:decide (((Nat.gcd a b:Nat):Int)=1)=decide (Nat.gcd a b=1):=by rw [decide_eq_decide];omega
 try simp only [Pu.pwA,e]
def skW (r:List PyData):Bool:=match r with
 |[a,b,c,x,y]=>(geN 1 a&&(geN 1 b&&geN 1 c))&&(geN 0 x&&geN 0 y)
 |_=>false
def qmD {L B n:Nat} {k:PyData} {r:List PyData} (h:∀ d∈r,Th L B n d):ZD [.tuple (k::r)]=some (.bool (skW r)):=by
 rw [MS]
 match r,h with
 |[a,b,c,x,y],h=>
  have e:(((0+1+1+1+1+1+1:Nat):Int)=6):=by decide
  have s1:slD (.tuple [k,a,b,c,x,y]) (some 1) (some 4)=some (.tuple [a,b,c]):=jV (by simp [HT.sIx]);have s2:slD (.tuple [k,a,b,c,x,y]) (some 4) none=some (.tuple [x,y]):=jV (by simp [HT.sIx]);have f1:=MV (e:=1) (ds:=[a,b,c]) (λd hd=>h d (by simp at hd ⊢;rcases hd with rfl|rfl|rfl<;>simp)) (by simp);have f2:=MV (e:=0) (ds:=[x,y]) (λd hd=>h d (by simp at hd ⊢;rcases hd with rfl|rfl<;>simp)) (by simp)
  try simp only [Pu.pwA,jL,skW,s1,s2,f1,f2,e,List.all_cons,List.all_nil,Bool.and_true,decide_true]
  cases (geN 1 a&&(geN 1 b&&geN 1 c))<;>try simp only [Pu.pwA,Bool.true_and,Bool.false_and]
 |[],_=>try simp only [Pu.pwA,jL,skW];rfl
 |[a],_=>try simp only [Pu.pwA,jL,skW];rfl
 |[a,b],_=>try simp only [Pu.pwA,jL,skW];rfl
 |[a,b,c],_=>try simp only [Pu.pwA,jL,skW];rfl
 |[a,b,c,x],_=>try simp only [Pu.pwA,jL,skW];rfl
 |a::b::c::x::y::z::r,_=>
  have e:¬ (((r.length+1+1+1+1+1+1+1:Nat):Int)=6):=by omega
  try simp only [Pu.pwA,jL,skW,length_cons,e,decide_false]
def rsW (r:List PyData):Bool:=match r with
 |[.int a,.int b,.int c,.int p]=>(decide (1<=a)&&(decide (1<=b)&&(decide (1<=c)&&decide (1<=p))))&&(decide (Nat.gcd c.toNat p.toNat=1)&&decide (a*b<=c*p))
 |_=>false
def ql8 {L B n:Nat} {k:PyData} {r:List PyData} (h:∀ d∈r,Th L B n d) (hB:B<=900000):jZ [.tuple (k::r)]=some (.bool (rsW r)):=by
 rw [KN]
 match r,h with
 |[a,b,c,p],h=>
  have e:(((0+1+1+1+1+1:Nat):Int)=5):=by decide
  have s1:slD (.tuple [k,a,b,c,p]) (some 1) none=some (.tuple [a,b,c,p]):=jV (by simp [HT.sIx]);have f1:=MV (e:=1) (ds:=[a,b,c,p]) h (by simp);by_cases al:[a,b,c,p].all (geN 1)=true
  ·have gi:∀ d,geN 1 d=true->∃ i:Int,d=.int i/\1<=i:=λd hd=>by
    cases d<;>simp [geN] at hd;exact ⟨_,rfl,hd⟩
   have al':=al;simp only [List.all_cons,List.all_nil,Bool.and_true,Bool.and_eq_true] at al';obtain ⟨i1,rfl,g1⟩:=gi a al'.1;obtain ⟨i2,rfl,g2⟩:=gi b al'.2.1;obtain ⟨i3,rfl,g3⟩:=gi c al'.2.2.1;obtain ⟨i4,rfl,g4⟩:=gi p al'.2.2.2;have t1:=h (.int i1) (by simp);have t2:=h (.int i2) (by simp);have t3:=h (.int i3) (by simp);have t4:=h (.int i4) (by simp);rw [XI] at t1 t2 t3 t4;have sd:=qm9 (a:=i3.toNat) (b:=i4.toNat) (by omega);rw [show ((i3.toNat:Nat):Int)=i3 by omega,show ((i4.toNat:Nat):Int)=i4 by omega] at sd;rw [al] at f1
   try simp (disch:=omega) only [Pu.pwA,jf,rsW,s1,f1,e,sd,g1,g2,g3,g4,R4,decide_true,Bool.not_true,Bool.true_and]
   cases decide (Nat.gcd i3.toNat i4.toNat=1)<;>try simp only [Pu.pwA,Bool.true_and,Bool.false_and]
  ·have al2:[a,b,c,p].all (geN 1)=false:=by simpa using al
   rw [al2] at f1;have z:rsW [a,b,c,p]=false:=by
    unfold rsW;split
    ·rename_i e';cases e';simp only [List.all_cons,List.all_nil,geN,Bool.and_true] at al2;rw [al2,Bool.false_and]
    ·rfl
   try simp only [Pu.pwA,jf,z,s1,f1,e,decide_true,Bool.not_true,Bool.not_false]
 |[],_=>try simp only [Pu.pwA,jf,rsW];rfl
 |[a],_=>try simp only [Pu.pwA,jf,rsW];rfl
 |[a,b],_=>try simp only [Pu.pwA,jf,rsW];rfl
 |[a,b,c],_=>try simp only [Pu.pwA,jf,rsW];rfl
 |a::b::c::x::y::r,_=>
  have e:¬ (((r.length+1+1+1+1+1+1:Nat):Int)=5):=by omega
  try simp only [Pu.pwA,jf,rsW,length_cons,e,decide_false,Bool.not_false]
def T2 {h:PyData->Option (Option PyData)} {k:PyData->PyData} {ds:List PyData} (hh:∀ d∈ds,h d=some (some (k d))):lcP h ds=some (ds.map k):=by
 have:=N9 (g:=id) (k:=k) (xs:=ds) hh;rw [List.map_id] at this;exact this
def ltN (m:Int):PyData->Bool
 |.int i=>decide (i<m)
 |_=>false
def RJ {m:Int} {d:PyData} (h:geN m d=true):∃ i:Int,d=.int i/\m<=i:=by
 cases d<;>simp [geN] at h;exact ⟨_,rfl,h⟩
def qbj (wide banks:Int):PyData->Bool
 |.tuple ds=>decide ((ds.length:Int)=wide)&&(ds.all (geN 0)&&ds.all (ltN banks))
 |_=>false
def qny {L B n:Nat} {d:PyData} {wide banks:Int} (h:Th L B (n+1) d) (hL:L<=1000):zL [d,.int wide,.int banks]=some (.bool (qbj wide banks d)):=by
 rw [CG];cases d with
 |dict _=>exact h.elim
 |tuple ds=>
  obtain ⟨hl,ha⟩:=h;have f:=MV (e:=0) ha (by omega);by_cases e:(ds.length:Int)=wide
  ·by_cases g:ds.all (geN 0)=true
   ·rw [g] at f
    try simp only [Pu.pwA,zZ,qbj,c6,e,f,g,decide_true,Bool.not_true,Bool.true_and]
    rw [UH (ds:=ds) (fs:=(ds.map (ltN banks)).map PyData.bool)]
    ·try simp only [Pu.pwA,VH,List.all_map]
     rfl
    ·try simp only [Pu.pwA]
    ·rw [map_map];refine T2 λd hd=>?_;obtain ⟨i,rfl,_⟩:=RJ (List.all_eq_true.mp g d hd)
     try simp only [Pu.pwA,WB,ltN,Function.comp_def]
    ·simp;omega
   ·have g':ds.all (geN 0)=false:=by simpa using g
    rw [g'] at f
    try simp only [Pu.pwA,zZ,qbj,c6,e,f,g',decide_true,Bool.not_true,Bool.not_false,Bool.true_and,Bool.false_and]
  ·try simp only [Pu.pwA,zZ,qbj,c6,e,decide_false,Bool.not_true,Bool.not_false,Bool.false_and]
 |_=>try simp only [Pu.pwA,zZ,qbj,c1,c2,cq3,c4,c5,Bool.not_false]
def tbW (r:List PyData):Bool:=match r with
 |[.int b,.tuple (.tuple (x::xs)::rs)]=>decide (1<=b)&&(PyData.tuple (x::xs)::rs).all (qbj ((x::xs).length:Int) b)
 |_=>false
def qnO {L B n:Nat} {k:PyData} {r:List PyData} (h:∀ d∈r,Th L B (n+2) d) (hL:L<=1000):jY [.tuple (k::r)]=some (.bool (tbW r)):=by
 rw [KP]
 match r,h with
 |[b,cs],h=>
  have e:(((0+1+1+1:Nat):Int)=3):=by decide
  have s1:slD (.tuple [k,b,cs]) (some 1) none=some (.tuple [b,cs]):=jV (by simp [HT.sIx]);have f1:=qkY (e:=1) (h b (by simp));by_cases g:geN 1 b=true
  ·obtain ⟨i,rfl,gi⟩:=RJ g;rw [g] at f1;have hc:=h cs (by simp);cases cs with
   |dict _=>exact hc.elim
   |tuple rs=>
    obtain ⟨hl,ha⟩:=hc;cases rs with
    |nil=>try simp only [Pu.pwA,zI,tbW,s1,f1,e,c6,decide_true,Bool.not_true,length_nil,Int.natCast_zero]
    |cons d rs=>
     have l0:¬ (((rs.length+1:Nat):Int)=0):=by omega
     have hd:=ha d (by simp);cases d with
     |dict _=>exact hd.elim
     |tuple xs=>
      cases xs with
      |nil=>try simp only [Pu.pwA,zI,tbW,s1,f1,e,c6,l0,decide_true,decide_false,Bool.not_true,length_cons,length_nil,Int.natCast_zero]
      |cons x xs=>
       have l1:¬ (((xs.length+1:Nat):Int)=0):=by omega
       try simp only [Pu.pwA,zI,tbW,s1,f1,e,c6,l0,l1,gi,decide_true,decide_false,Bool.not_true,length_cons,Bool.true_and]
       rw [UH (ds:=PyData.tuple (x::xs)::rs) (fs:=((PyData.tuple (x::xs)::rs).map (qbj ((xs.length+1:Nat):Int) i)).map PyData.bool)]
       ·try simp only [Pu.pwA,VH]
        rw [List.all_map];rfl
       ·try simp only [Pu.pwA]
       ·rw [map_map];refine T2 λd hd=>?_
        try simp only [Pu.pwA,WB,qny (ha d hd) hL,length_cons,Function.comp_def]
       ·simp at hl ⊢;omega
     |_=>try simp only [Pu.pwA,zI,tbW,s1,f1,e,c6,c1,c2,cq3,c4,c5,l0,decide_true,decide_false,Bool.not_true,Bool.not_false,length_cons]
   |_=>try simp only [Pu.pwA,zI,tbW,s1,f1,e,c1,c2,cq3,c4,c5,decide_true,Bool.not_true,Bool.not_false]
  ·have g':geN 1 b=false:=by simpa using g
   rw [g'] at f1;have z:tbW [b,cs]=false:=by
    unfold tbW;split
    ·rename_i b' x xs rs e';cases e';simp only [geN] at g';rw [g',Bool.false_and]
    ·rfl
   try simp only [Pu.pwA,zI,z,f1,e,decide_true,Bool.not_true,Bool.not_false]
 |[],_=>try simp only [Pu.pwA,zI,tbW];rfl
 |[a],_=>try simp only [Pu.pwA,zI,tbW];rfl
 |a::b::c::r,_=>
  have e:¬ (((r.length+1+1+1+1:Nat):Int)=3):=by omega
  try simp only [Pu.pwA,zI,tbW,length_cons,e,decide_false,Bool.not_false]
def biN (w:Int):PyData->Bool
 |.int i=>decide (((Builtin.Int.intBits i:Nat):Int)<=w)
 |_=>false
def btW (r:List PyData):Bool:=match r with
 |[.int a,.int b,.tuple ms]=>(decide (0<=a)&&decide (0<=b))&&(ms.all (geN 0)&&ms.all (biN (a+b)))
 |_=>false
def qmu {L B n:Nat} {k:PyData} {r:List PyData} (h:∀ d∈r,Th L B (n+1) d) (hL:L<=1000):ZE [.tuple (k::r)]=some (.bool (btW r)):=by
 rw [NK]
 match r,h with
 |[a,b,c],h=>
  have e:(((0+1+1+1+1:Nat):Int)=4):=by decide
  have s1:slD (.tuple [k,a,b,c]) (some 1) (some 3)=some (.tuple [a,b]):=jV (by simp [HT.sIx]);have s2:slD (.tuple [k,a,b,c]) (some 1) none=some (.tuple [a,b,c]):=jV (by simp [HT.sIx]);have f1:=MV (e:=0) (ds:=[a,b]) (λd hd=>h d (by simp at hd ⊢;rcases hd with rfl|rfl<;>simp)) (by simp);by_cases al:[a,b].all (geN 0)=true
  ·have al':=al;simp only [List.all_cons,List.all_nil,Bool.and_true,Bool.and_eq_true] at al';obtain ⟨i1,rfl,g1⟩:=RJ al'.1;obtain ⟨i2,rfl,g2⟩:=RJ al'.2;rw [al] at f1;have hc:=h c (by simp);cases c with
   |dict _=>exact hc.elim
   |tuple ms=>
    obtain ⟨hl,ha⟩:=hc;have f2:=MV (e:=0) ha (by omega);by_cases g:ms.all (geN 0)=true
    ·rw [g] at f2
     try simp only [Pu.pwA,js,btW,s1,s2,f1,f2,e,g,g1,g2,c6,decide_true,Bool.not_true,Bool.true_and]
     rw [UH (ds:=ms) (fs:=(ms.map (biN (i1+i2))).map PyData.bool)]
     ·try simp only [Pu.pwA,VH,List.all_map]
      rfl
     ·try simp only [Pu.pwA]
     ·rw [map_map];refine T2 λd hd=>?_;obtain ⟨i,rfl,_⟩:=RJ (List.all_eq_true.mp g d hd)
      try simp only [Pu.pwA,WB,biN,Function.comp_def]
     ·simp;omega
    ·have g':ms.all (geN 0)=false:=by simpa using g
     rw [g'] at f2
     try simp only [Pu.pwA,js,btW,s1,s2,f1,f2,e,g',g1,g2,c6,decide_true,Bool.not_true,Bool.not_false,Bool.true_and,Bool.false_and]
   |_=>try simp only [Pu.pwA,js,btW,s1,s2,f1,e,c1,c2,cq3,c4,c5,decide_true,Bool.not_true,Bool.not_false]
  ·have al2:[a,b].all (geN 0)=false:=by simpa using al
   rw [al2] at f1;have z:btW [a,b,c]=false:=by
    unfold btW;split
    ·rename_i a' b' ms e';cases e';simp only [List.all_cons,List.all_nil,geN,Bool.and_true] at al2;rw [al2,Bool.false_and]
    ·rfl
   try simp only [Pu.pwA,js,z,s1,f1,e,decide_true,Bool.not_true,Bool.not_false]
 |[],_=>try simp only [Pu.pwA,js,btW];rfl
 |[a],_=>try simp only [Pu.pwA,js,btW];rfl
 |[a,b],_=>try simp only [Pu.pwA,js,btW];rfl
 |a::b::c::x::r,_=>
  have e:¬ (((r.length+1+1+1+1+1:Nat):Int)=4):=by omega
  try simp only [Pu.pwA,js,btW,length_cons,e,decide_false,Bool.not_false]
def jnW (f:PyData->Bool) (r:List PyData):Bool:=match r with
 |[a,b]=>f a&&f b
 |_=>false
def isD:Nat->PyData->Bool
 |0,_=>false
 |j+1,.tuple (.str s::r)=>if s=Str.ofString "skew" then skW r else if s=Str.ofString "rests" then rsW r else if s=Str.ofString "bits" then btW r else if s=Str.ofString "table" then tbW r else if s=Str.ofString "joined" then jnW (isD j) r else false
 |_+1,_=>false
def qnj {j:Nat} {k:PyData} {r:List PyData} {G:List PyData->Option PyData} (g:∀ d∈r,G [d]=some (.bool (isD j d))):QP G [.tuple (k::r)]=some (.bool (jnW (isD j) r)):=by
 rw [SJ]
 match r,g with
 |[a,b],g=>
  have e:(((0+1+1+1:Nat):Int)=3):=by decide
  have e1:=g a (by simp);have e2:=g b (by simp)
  try simp only [Pu.pwA,jW,jnW,e,e1,e2,decide_true]
  cases isD j a<;>try simp only [Pu.pwA,Bool.true_and,Bool.false_and]
 |[],_=>try simp only [Pu.pwA,jW,jnW];rfl
 |[a],_=>try simp only [Pu.pwA,jW,jnW];rfl
 |a::b::c::r,_=>
  have e:¬ (((r.length+1+1+1+1:Nat):Int)=3):=by omega
  try simp only [Pu.pwA,jW,jnW,length_cons,e,decide_false]
def qpB {s:Str}:qcC .none (.str s)=some (.bool false):=id rfl
def qpx {b:Bool} {s:Str}:qcC (.bool b) (.str s)=some (.bool false):=id rfl
def qpf {i:Int} {s:Str}:qcC (.int i) (.str s)=some (.bool false):=id rfl
def qgZ {x s:Str}:qcC (.str x) (.str s)=some (.bool (decide (x=s))):=by
 rw [qn0,eqS];rfl
def qmf {L B:Nat} (hL:L<=1000) (hB:B<=900000):∀ {j n:Nat} {d:PyData},Th L B n d->n<j->qr j [d]=some (.bool (isD j d)):=by
 intro j;induction j with
 |zero=>intro n d _ h;omega
 |succ j ih=>
  intro n d h hn;rw [RN];cases d with
  |dict _=>cases n<;>exact h.elim
  |tuple ds=>
   cases n with
   |zero=>exact h.elim
   |succ n=>
   obtain ⟨hl,ha⟩:=h;cases ds with
   |nil=>try simp only [Pu.pwA,q0,isD,c6,length_nil,Int.natCast_zero,decide_true,Bool.not_true]
   |cons k r=>
    have l0:¬ (((r.length+1:Nat):Int)=0):=by omega
    have hk:=ha k (by simp);have hr:∀ d∈r,Th L B n d:=λd hd=>ha d (by simp [hd]);have hr2:∀ m,n<=m->∀ d∈r,Th L B m d:=λm hm d hd=>zB (Nat.le_refl _) (Nat.le_refl _) m (hr d hd) hm;cases k with
    |dict _=>cases n<;>exact hk.elim
    |str s=>
     have f1:=qmD (k:=.str s) hr;have f2:=ql8 (k:=.str s) hr hB;have f3:=qmu (k:=.str s) (n:=n) (hr2 _ (by omega)) hL;have f4:=qnO (k:=.str s) (n:=n) (hr2 _ (by omega)) hL;have f5:=qnj (k:=.str s) (G:=qr j) (j:=j) (r:=r) (λd hd=>ih (hr d hd) (by omega));by_cases b1:s=Str.ofString "skew"
     ·subst b1
      try simp only [Pu.pwA,q0,isD,c6,l0,UI,qgZ,f1,if_true,length_cons,decide_true,decide_false,Bool.not_true]
     by_cases b2:s=Str.ofString "rests"
     ·subst b2
      try simp only [Pu.pwA,q0,isD,c6,l0,UI,qgZ,f2,b1,if_true,if_false,length_cons,decide_true,decide_false,Bool.not_true]
     by_cases b3:s=Str.ofString "bits"
     ·subst b3
      try simp only [Pu.pwA,q0,isD,c6,l0,UI,qgZ,f3,b1,b2,if_true,if_false,length_cons,decide_true,decide_false,Bool.not_true]
     by_cases b4:s=Str.ofString "table"
     ·subst b4
      try simp only [Pu.pwA,q0,isD,c6,l0,UI,qgZ,f4,b1,b2,b3,if_true,if_false,length_cons,decide_true,decide_false,Bool.not_true]
     by_cases b5:s=Str.ofString "joined"
     ·subst b5
      try simp only [Pu.pwA,q0,isD,c6,l0,UI,qgZ,f5,b1,b2,b3,b4,if_true,if_false,length_cons,decide_true,decide_false,Bool.not_true]
     ·try simp only [Pu.pwA,q0,isD,c6,l0,UI,qgZ,b1,b2,b3,b4,b5,if_true,if_false,length_cons,decide_true,decide_false,Bool.not_true]
    |_=>try simp only [Pu.pwA,q0,isD,c6,l0,UI,qpB,qpx,qpf,qmB,qnV,length_cons,decide_true,decide_false,Bool.not_true]
  |_=>try simp only [Pu.pwA,q0,isD,c1,c2,cq3,c4,c5,Bool.not_false]
open Bk (Dl)
def al0 {P:PyData->Prop}:∀ d∈([]:List PyData),P d:=λ_ h=>nomatch h
def alc {P:PyData->Prop} {x:PyData} {r:List PyData} (h:P x) (t:∀ d∈r,P d):∀ d∈x::r,P d:=λd hd=>by
 rcases mem_cons.mp hd with rfl|hd
 ·exact h
 ·exact t d hd
def qfh {m:Int} {k:Nat} (h0:0<=m) (h1:m<2 ^ k):((Builtin.Int.intBits m:Nat):Int)<=k:=by
 unfold Builtin.Int.intBits;by_cases z:m=0
 ·subst z;simp
 ·have:(m==0)=false:=by simp [z]
  rw [this,if_neg Bool.false_ne_true];have e:((2 ^ k:Nat):Int)=2 ^ k:=by simp
  have h2:m.natAbs<2 ^ k:=by omega
  have:=(Nat.log2_lt (by omega)).mpr h2;omega
def qgj:∀ (d:Dl),d.Ok->Th 60 100000 (d.dep+3) (dlD d)
 |.skew r c b x y,ok=>by
  simp only [Dl.Ok] at ok;refine zB (n:=1) (Nat.le_refl _) (Nat.le_refl _) _ (SU (by simp) ?_) (by omega);refine alc (by rw [MQ];exact ⟨by decide,by decide⟩) (alc ?_ (alc ?_ (alc ?_ (alc ?_ (alc ?_ al0)))))<;>(rw [XI];omega)
 |.rests r c b p,ok=>by
  simp only [Dl.Ok] at ok;refine zB (n:=1) (Nat.le_refl _) (Nat.le_refl _) _ (SU (by simp) ?_) (by omega);refine alc (by rw [MQ];exact ⟨by decide,by decide⟩) (alc ?_ (alc ?_ (alc ?_ (alc ?_ al0))))<;>(rw [XI];omega)
 |.bits h l ms,ok=>by
  obtain ⟨h1,h2,h3,h4⟩:=ok;have pw:(2:Int) ^ (h+l)<=256:=by
   have:2 ^ (h+l)<=2 ^ 8:=Nat.pow_le_pow_right (by omega) (by omega);have e:((2 ^ (h+l):Nat):Int)=2 ^ (h+l):=by simp
   omega
  refine zB (n:=2) (Nat.le_refl _) (Nat.le_refl _) _ (SU (by simp) ?_) (by omega);refine alc (by rw [MQ];exact ⟨by decide,by decide⟩) (alc (by rw [XI];omega) (alc (by rw [XI];omega) (alc (SU (by simp;omega) λd hd=>?_) al0)));obtain ⟨m,hm,rfl⟩:=mem_map.mp hd;have:=h4 m hm;rw [XI];omega
 |.table b cells,ok=>by
  obtain ⟨h1,h2,h3,h4,c,c1,c2,hr⟩:=ok;refine zB (n:=3) (Nat.le_refl _) (Nat.le_refl _) _ (SU (by simp) ?_) (by omega);refine alc (by rw [MQ];exact ⟨by decide,by decide⟩) (alc (by rw [XI];omega) (alc (SU (by simp;omega) λd hd=>?_) al0));obtain ⟨row,hrow,rfl⟩:=mem_map.mp hd;obtain ⟨l1,hx⟩:=hr row hrow;refine SU (by simp;omega) λd hd=>?_;obtain ⟨x,hx',rfl⟩:=mem_map.mp hd;have:=hx x hx';rw [XI];omega
 |.joined d e,ok=>by
  obtain ⟨o1,o2,_⟩:=ok;have t1:=qgj d o1;have t2:=qgj e o2;simp only [Dl.dep];refine zB (n:=max d.dep e.dep+3+1) (Nat.le_refl _) (Nat.le_refl _) _ (SU (by simp) ?_) (by omega);exact alc (by rw [MQ];exact ⟨by decide,by decide⟩) (alc (zB (Nat.le_refl _) (Nat.le_refl _) _ t1 (by omega)) (alc (zB (Nat.le_refl _) (Nat.le_refl _) _ t2 (by omega)) al0))
end K09
namespace K09
open PySem L2 L3 Pu Pv
mutual
def TD {L B:Nat}:∀ {n:Nat} {d:PyData},Th L B n d->dpt d<=n
 |n,.none,_=>Nat.zero_le _
 |n,.bool _,_=>Nat.zero_le _
 |n,.int _,_=>Nat.zero_le _
 |n,.str _,_=>Nat.zero_le _
 |n+1,.list ds,h=>by
  simp only [dpt];have:=VR (ds:=ds) (n:=n) h.2;omega
 |n+1,.tuple ds,h=>by
  simp only [dpt];have:=VR (ds:=ds) (n:=n) h.2;omega
 |0,.list ds,h=>h.elim
 |0,.tuple ds,h=>h.elim
 |0,.dict _,h=>h.elim
 |n+1,.dict _,h=>h.elim
def VR {L B:Nat}:∀ {n:Nat} {ds:List PyData},(∀ d∈ds,Th L B n d)->NU ds<=n
 |n,[],_=>Nat.zero_le _
 |n,d::ds,h=>by
  simp only [NU];exact Nat.max_le.mpr ⟨TD (h d (by simp)),VR λx hx=>h x (by simp [hx])⟩
end
def X4 {g:Bool} {ds:List PyData} (h:dpt (.tuple ds)<=40):eqD g (.tuple ds) (.tuple [])=some (.bool (if g then !ds.isEmpty else ds.isEmpty)):=by
 have z:qcY (.tuple ds) (.tuple [])=none:=rfl;unfold eqD;rw [z];simp only;rw [zn ⟨h,by simp [dpt]⟩];cases ds<;>cases g<;>simp [VI,EF]
def T8 {L B n:Nat} {ds:List PyData} {e:Int} (h:∀ d∈ds,Th L B n d) (hl:ds.length<=1000):qG [.tuple ds,.int e]=some (.bool (ds.all (geN e))):=by
 rw [M6]
 try simp only [Pu.pwA,U4]
 rw [UH (ds:=ds) (fs:=(ds.map (geN e)).map PyData.bool)]
 ·try simp only [Pu.pwA,VH]
  rw [List.all_map];rfl
 ·try simp only [Pu.pwA]
 ·rw [map_map];refine C2 λd hd=>?_;have t:=h d hd;cases d with
  |dict _=>cases n<;>exact t.elim
  |bool b=>cases b<;>try simp only [Pu.pwA,WB,geN,a1,a2,a3,a4,a5,a6,a7,a8,Bool.not_true,Bool.not_false,Function.comp_def]
  |_=>try simp only [Pu.pwA,WB,geN,a1,a2,a3,a4,a5,a6,a7,a8,Bool.not_true,Bool.not_false,Function.comp_def]
 ·simp;omega
def isT:PyData->Bool
 |.tuple _=>true
 |_=>false
def cW (b:Int) (d:PyData):Bool:=match d with
 |.tuple (.tuple (x::xs)::rs)=>(PyData.tuple (x::xs)::rs).all (qbj ((x::xs).length:Int) b)
 |_=>false
def qaf:∀ {ds:List PyData},ds.all (geN 0)=true->∃ ns:List Int,ds=ns.map PyData.int
 |[],_=>⟨[],rfl⟩
 |d::ds,h=>by
  simp only [List.all_cons,Bool.and_eq_true] at h;obtain ⟨i,rfl,_⟩:=RJ h.1;obtain ⟨ns,rfl⟩:=qaf h.2;exact ⟨i::ns,rfl⟩
def qmz {ns:List Int} {b:Int} (h:ns≠[]):decide (mx ns<b)=(ns.map PyData.int).all (ltN b):=by
 by_cases c:mx ns<b
 ·rw [decide_eq_true c,Eq.comm,List.all_eq_true];intro d hd;obtain ⟨n,hn,rfl⟩:=mem_map.mp hd;have:=qfs hn;simp only [ltN,decide_eq_true_eq];omega
 ·rw [decide_eq_false c,Eq.comm,List.all_eq_false];exact ⟨.int (mx ns),mem_map.mpr ⟨_,qaV h,rfl⟩,by simpa [ltN] using c⟩
def rW (w:Int) (d:PyData):Bool:=match d with
 |.tuple ds=>decide ((ds.length:Int)=w)&&ds.all (geN 0)
 |_=>false
def lW (b:Int) (d:PyData):Bool:=match d with
 |.tuple ds=>ds.all (ltN b)
 |_=>false
def qhU {w b:Int} {d:PyData}:qbj w b d=(rW w d&&lW b d):=by
 cases d<;>simp only [qbj,rW,lW,Bool.and_assoc,Bool.false_and]
def qeU {w b:Int} (D:List PyData):D.all (qbj w b)=(D.all (rW w)&&D.all (lW b)):=by
 induction D with
 |nil=>rfl
 |cons d D ih=>simp only [List.all_cons,ih,qhU];cases rW w d<;>cases lW b d<;>cases D.all (rW w)<;>rfl
def qmE {d:PyData} (h:isT d=true):∃ ds,d=.tuple ds:=by cases d<;>simp [isT] at h;exact ⟨_,rfl⟩
def qnI {L B n:Nat} {d:PyData} {b:Int} (h:Th L B (n+2) d) (hL:L<=1000) (hn:n<=30):zz [d,.int b]=some (.bool (cW b d)):=by
 rw [WV];cases d with
 |dict _=>exact h.elim
 |tuple rows=>
  have hl:=h.1;have dp:dpt (.tuple rows)<=40:=by have:=TD h;omega
  have e0:=X4 (g:=false) dp;cases rows with
  |nil=>try simp only [Pu.pwA,zh,cW,c6,e0,List.isEmpty_nil,Bool.not_true,Bool.false_eq_true,if_false]
  |cons r0 rs=>
  have th:=h.2;generalize hD:r0::rs=D at *;have q1:lcF (λρ=>(vw ρ 0).bind LZ) (lcH (λd=>some [(0,d)]) (λx=>some true) λρ=>((vw ρ 0).bind λx=>(tyD x).map λt=>PyData.bool (zA t "tuple"))) [none] [Sl.sh (.tuple D),.sh (.int b)]=some (.list ((D.map isT).map PyData.bool)):=by
   rw [UH (ds:=D) (fs:=(D.map isT).map PyData.bool)]
   ·try simp only [Pu.pwA]
   ·rw [map_map];refine C2 λd hd=>?_;have t:=th d hd;cases d with
    |dict _=>cases n<;>exact t.elim
    |_=>try simp only [Pu.pwA,WB,isT,c1,c2,cq3,c4,c5,c6,Function.comp_def]
   ·simp;omega
  have e0':eqD false (.tuple D) (.tuple [])=some (.bool false):=by rw [e0,← hD];rfl
  by_cases al:D.all isT=true
  ·have al':(D.map isT).all id=true:=by rw [List.all_map];exact al
   have ta:∀ d∈D,∃ ds,d=.tuple ds:=λd hd=>qmE (List.all_eq_true.mp al d hd);obtain ⟨xs,ex⟩:=ta r0 (by rw [← hD];simp);subst ex;have tx:=th (.tuple xs) (by rw [← hD];simp);have i0:L2.atI D 0=some (.tuple xs):=by rw [← hD];exact at0
   have ix0:ixD (.tuple D) (.int 0)=some (.tuple xs):=by rw [qeZ];exact i0
   have e1:=X4 (g:=false) (ds:=xs) (by have:=TD tx;omega);cases xs with
   |nil=>
    try simp only [Pu.pwA,zh,c6,e0',q1,VH,al',i0,e1,List.isEmpty_nil,Bool.false_eq_true,if_false,Bool.not_true]
    rw [← hD];rfl
   |cons x xs=>
   have q2:lcF (λρ=>(vw ρ 0).bind LZ) (lcH (λd=>some [(0,d)]) (λx=>some true) λρ=>(((((vw ρ 0).bind λx=>some [x]).bind qgF).bind λx=>((((vw ρ 1).bind λx=>ixD x (PyData.int 0)).bind λx=>some [x]).bind qgF).bind λy=>eqD false x y).bind asB).bind λk=>if k=true then ((vw ρ 0).bind λx=>some [x,PyData.int 0]).bind qG else some (PyData.bool false)) [none,some 0] [Sl.sh (.tuple D),.sh (.int b)]=some (.list ((D.map (rW ((xs.length+1:Nat):Int))).map PyData.bool)):=by
    rw [UH (ds:=D) (fs:=(D.map (rW ((xs.length+1:Nat):Int))).map PyData.bool)]
    ·try simp only [Pu.pwA]
    ·rw [map_map];refine C2 λd hd=>?_;obtain ⟨ds,rfl⟩:=ta d hd;have t:=th _ hd;have f:=T8 (e:=0) t.2 (by have:=t.1;omega);by_cases c:(ds.length:Int)=((xs.length+1:Nat):Int)
     ·try simp only [Pu.pwA,WB,rW,ix0,c,f,length_cons,decide_true,Bool.true_and,Function.comp_def]
     ·try simp only [Pu.pwA,WB,rW,ix0,c,f,length_cons,decide_false,Bool.false_and,Function.comp_def]
    ·simp;omega
   have cw:cW b (.tuple D)=(D.all (rW ((xs.length+1:Nat):Int))&&D.all (lW b)):=by
    rw [← qeU,← hD];rfl
   rw [cw];by_cases ar:D.all (rW ((xs.length+1:Nat):Int))=true
   ·have ar':(D.map (rW ((xs.length+1:Nat):Int))).all id=true:=by rw [List.all_map];exact ar
    have q3:lcF (λρ=>(vw ρ 0).bind LZ) (lcH (λd=>some [(0,d)]) (λx=>some true) λρ=>(((vw ρ 0).bind λx=>some [x]).bind qg1).bind λx=>(vw ρ 1).bind λy=>(opB λi j=>decide (i<j)).f x y) [none,some 1] [Sl.sh (.tuple D),.sh (.int b)]=some (.list ((D.map (lW b)).map PyData.bool)):=by
     rw [UH (ds:=D) (fs:=(D.map (lW b)).map PyData.bool)]
     ·try simp only [Pu.pwA]
     ·rw [map_map];refine C2 λd hd=>?_;obtain ⟨ds,rfl⟩:=ta d hd;have r:=List.all_eq_true.mp ar _ hd;simp only [rW,Bool.and_eq_true,decide_eq_true_eq] at r;obtain ⟨ns,rfl⟩:=qaf r.2;have ne:ns≠[]:=by intro z;subst z;have:=r.1;simp at this;omega
      try simp only [Pu.pwA,WB,lW,qnE ne,← qmz ne,Function.comp_def]
     ·simp;omega
    have al3:(D.map (lW b)).all id=D.all (lW b):=by rw [List.all_map];rfl
    try simp only [Pu.pwA,zh,c6,e0',q1,q2,q3,qgB,VH,al',ar',al3,i0,e1,ar,List.isEmpty_cons,Bool.false_eq_true,if_false,Bool.not_true,Bool.true_and]
   ·have ar2:D.all (rW ((xs.length+1:Nat):Int))=false:=by simpa using ar
    have ar':(D.map (rW ((xs.length+1:Nat):Int))).all id=false:=by rw [List.all_map];exact ar2
    try simp only [Pu.pwA,zh,c6,e0',q1,q2,VH,al',ar',i0,e1,ar2,List.isEmpty_cons,Bool.false_eq_true,if_false,Bool.not_true,Bool.not_false,Bool.false_and]
  ·have al':(D.map isT).all id=false:=by rw [List.all_map];simpa using al
   try simp only [Pu.pwA,zh,c6,e0',q1,VH,al',Bool.not_true,Bool.not_false]
   have z:cW b (.tuple D)=false:=by
    unfold cW;split
    ·rename_i x xs rs' e;cases e;rw [qeU];have:(PyData.tuple (x::xs)::rs').all (rW ((x::xs).length:Int))=false:=by
      rw [List.all_eq_false];have al2:(PyData.tuple (x::xs)::rs').all isT=false:=by simpa using al
      obtain ⟨d,hd,nd⟩:=List.all_eq_false.mp al2;refine ⟨d,hd,?_⟩;cases d<;>simp [isT,rW] at nd ⊢
     rw [this,Bool.false_and]
    ·rfl
   rw [z]
 |_=>try simp only [Pu.pwA,zh,cW,c1,c2,cq3,c4,c5,Bool.not_false]
def LS {α:Type} (xs:List α) (k:Nat):EJ xs none (some (k:Int))=xs.take k:=by
 unfold EJ;rw [HT.WU,HT.LR,List.drop_zero,Nat.sub_zero,List.take_eq_take_iff];omega
def RU {α:Type} (xs:List α) (k:Nat):EJ xs (some (k:Int)) none=xs.drop k:=by
 unfold EJ;rw [HT.WU,HT.LR,List.take_of_length_le (by simp)];by_cases c:k<=xs.length
 ·rw [Nat.min_eq_left c]
 ·rw [Nat.min_eq_right (by omega),List.drop_of_length_le (Nat.le_refl _),List.drop_of_length_le (by omega)]
def jS {k:PyData} {r:List PyData}:slD (.tuple (k::r)) (some 1) none=some (.tuple r):=by
 have c:EJ (k::r) (some 1) none=r:=RU (k::r) 1;unfold slD;simp only;rw [jV,c];intro z;have:=z.1;rw [show (1:Int)=((1:Nat):Int) from rfl,HT.WU] at this;simp at this
def n1:¬ (Str.ofString "rests" = Str.ofString "skew"):=by decide
def n2:¬ (Str.ofString "bits" = Str.ofString "skew"):=by decide
def n3:¬ (Str.ofString "bits" = Str.ofString "rests"):=by decide
def n4:¬ (Str.ofString "table" = Str.ofString "skew"):=by decide
def n5:¬ (Str.ofString "table" = Str.ofString "rests"):=by decide
def n6:¬ (Str.ofString "table" = Str.ofString "bits"):=by decide
def n7:¬ (Str.ofString "joined" = Str.ofString "skew"):=by decide
def n8:¬ (Str.ofString "joined" = Str.ofString "rests"):=by decide
def n9:¬ (Str.ofString "joined" = Str.ofString "bits"):=by decide
def n0:¬ (Str.ofString "joined" = Str.ofString "table"):=by decide
def Z7 {i j:Nat} {m:List Bool} {x:Str} {r:List PyData} {ρ:Rho}:qbT i j m [.str x,.tuple r] ρ=some (.nx (((dm m ρ).set i (.sh (.str x))).set j (.sh (.tuple r)))):=id rfl
def qoA {r:List PyData} (h:r.length=2):∃ a b,r=[a,b]:=by match r,h with|[a,b],_=>exact ⟨a,b,rfl⟩
def ql4 {r:List PyData} (h:r.length=3):∃ a b c,r=[a,b,c]:=by match r,h with|[a,b,c],_=>exact ⟨a,b,c,rfl⟩
def qoL {r:List PyData} (h:r.length=4):∃ a b c d,r=[a,b,c,d]:=by match r,h with|[a,b,c,d],_=>exact ⟨a,b,c,d,rfl⟩
def qoj {r:List PyData} (h:r.length=5):∃ a b c d e,r=[a,b,c,d,e]:=by match r,h with|[a,b,c,d,e],_=>exact ⟨a,b,c,d,e,rfl⟩
def qoD {r:List PyData} (h:¬ r.length=5):skW r=false:=by
 unfold skW;split
 ·exact absurd rfl h
 ·rfl
def qo0 {r:List PyData} (h:¬ r.length=4):rsW r=false:=by
 unfold rsW;split
 ·exact absurd rfl h
 ·rfl
def qpM {r:List PyData} (h:¬ r.length=3):btW r=false:=by
 unfold btW;split
 ·exact absurd rfl h
 ·rfl
def qmw {r:List PyData} (h:¬ r.length=2):tbW r=false:=by
 unfold tbW;split
 ·exact absurd rfl h
 ·rfl
def qo3 {f:PyData->Bool} {r:List PyData} (h:¬ r.length=2):jnW f r=false:=by
 unfold jnW;split
 ·exact absurd rfl h
 ·rfl
section
variable {L B n j:Nat} {r:List PyData}
def qpc (h:∀ d∈r,Th L B n d) (hn:n<=30):zM (j+1) [.tuple (.str "skew" :: r)]=some (.bool (skW r)):=by
 have e0:eqD false (.tuple (.str "skew" :: r)) (.tuple [])=some (.bool false):=X4 (by simp only [dpt,NU];have:=VR h;omega);rw [j8];by_cases hl:r.length=5
 ·obtain ⟨a,b,c,x,y,rfl⟩:=qoj hl;have e:(((0+1+1+1+1+1:Nat):Int)=5):=by decide
  have s1:slD (.tuple [a,b,c,x,y]) none (some 3)=some (.tuple [a,b,c]):=jV (by simp [HT.sIx]);have s2:slD (.tuple [a,b,c,x,y]) (some 3) none=some (.tuple [x,y]):=jV (by simp [HT.sIx]);have f1:=T8 (e:=1) (ds:=[a,b,c]) (λd hd=>h d (by simp at hd ⊢;rcases hd with rfl|rfl|rfl<;>simp)) (by simp);have f2:=T8 (e:=0) (ds:=[x,y]) (λd hd=>h d (by simp at hd ⊢;rcases hd with rfl|rfl<;>simp)) (by simp)
  try simp only [Pu.pwA,zi,c6,d4,e0,jS,Z7,skW,s1,s2,f1,f2,e,List.all_cons,List.all_nil,length_cons,length_nil,Bool.and_true,Bool.not_true,decide_true]
  cases (geN 1 a&&(geN 1 b&&geN 1 c))<;>try simp only [Pu.pwA,Bool.true_and,Bool.false_and]
 ·have e:¬ ((r.length:Int)=5):=by omega
  try simp only [Pu.pwA,zi,c6,d4,e0,jS,Z7,qoD hl,e,Bool.not_true,decide_true,decide_false]
def qpI (h:∀ d∈r,Th L B n d) (hB:B<=900000) (hn:n<=30) (hL:r.length<=1000):zM (j+1) [.tuple (.str "rests" :: r)]=some (.bool (rsW r)):=by
 have e0:eqD false (.tuple (.str "rests" :: r)) (.tuple [])=some (.bool false):=X4 (by simp only [dpt,NU];have:=VR h;omega);rw [j8];by_cases hl:r.length=4
 ·obtain ⟨a,b,c,p,rfl⟩:=qoL hl;have e:(((0+1+1+1+1:Nat):Int)=4):=by decide
  have f1:=T8 (e:=1) (ds:=[a,b,c,p]) h (by simp);by_cases al:[a,b,c,p].all (geN 1)=true
  ·have al':=al;simp only [List.all_cons,List.all_nil,Bool.and_true,Bool.and_eq_true] at al';obtain ⟨i1,rfl,g1⟩:=RJ al'.1;obtain ⟨i2,rfl,g2⟩:=RJ al'.2.1;obtain ⟨i3,rfl,g3⟩:=RJ al'.2.2.1;obtain ⟨i4,rfl,g4⟩:=RJ al'.2.2.2;have t1:=h (.int i1) (by simp);have t2:=h (.int i2) (by simp);have t3:=h (.int i3) (by simp);have t4:=h (.int i4) (by simp);rw [XI] at t1 t2 t3 t4;rw [al] at f1;have gc:qmb.f [.int i3,.int i4]=some (.int (Nat.gcd i3.toNat i4.toNat)):=by
    rw [qkt,qmg ⟨by omega,by omega⟩];have u1:i3.natAbs=i3.toNat:=by omega
    have u2:i4.natAbs=i4.toNat:=by omega
    rw [Int.gcd,u1,u2]
   have ge:decide ((((Nat.gcd i3.toNat i4.toNat):Nat):Int)=1)=decide (Nat.gcd i3.toNat i4.toNat=1):=by
    congr 1;apply propext;omega
   try simp (disch:=omega) only [Pu.pwA,zi,c6,d4,e0,n1,jS,Z7,rsW,f1,e,gc,ge,g1,g2,g3,g4,R4,length_cons,length_nil,decide_true,decide_false,Bool.not_true,Bool.true_and]
   cases decide (Nat.gcd i3.toNat i4.toNat=1)<;>try simp only [Pu.pwA,Bool.true_and,Bool.false_and]
  ·have al2:[a,b,c,p].all (geN 1)=false:=by simpa using al
   rw [al2] at f1;have z:rsW [a,b,c,p]=false:=by
    unfold rsW;split
    ·rename_i e';cases e';simp only [List.all_cons,List.all_nil,geN,Bool.and_true] at al2;rw [al2,Bool.false_and]
    ·rfl
   try simp only [Pu.pwA,zi,c6,d4,e0,n1,jS,Z7,z,f1,e,length_cons,length_nil,decide_true,decide_false,Bool.not_true,Bool.not_false]
 ·have e:¬ ((r.length:Int)=4):=by omega
  try simp only [Pu.pwA,zi,c6,d4,e0,n1,jS,Z7,qo0 hl,e,Bool.not_true,Bool.not_false,decide_true,decide_false]
def qlx {m:Int} {k:Nat} (h0:0<=m):biN (k:Int) (.int m)=decide (m<2 ^ k):=by
 simp only [biN];by_cases c:m<2 ^ k
 ·rw [decide_eq_true c,decide_eq_true (qfh h0 c)]
 ·rw [decide_eq_false c,decide_eq_false];intro z;unfold Builtin.Int.intBits at z;have e:((2 ^ k:Nat):Int)=2 ^ k:=by simp
  have p:=Nat.one_le_two_pow (n:=k);have m0:¬ m=0:=by omega
  have:(m==0)=false:=by simp [m0]
  rw [this,if_neg Bool.false_ne_true] at z;have h2:2 ^ k<=m.natAbs:=by omega
  have:=(Nat.le_log2 (by omega)).mpr h2;omega
def qiu {m:Int} {k:Nat} (h0:0<=m) (h1:m<=900000):biN (k:Int) (.int m)=decide (m<2 ^ min k 99):=by
 rw [qlx h0];by_cases c:k<=99
 ·rw [Nat.min_eq_left c]
 ·rw [Nat.min_eq_right (by omega)];have a1:(2:Nat) ^ 20<=2 ^ k:=Nat.pow_le_pow_right (by decide) (by omega);have e1:((2 ^ k:Nat):Int)=2 ^ k:=by simp
  have e2:(2:Nat) ^ 20=1048576:=by decide
  have a2:(2:Int) ^ 20<=2 ^ 99:=by decide
  have e3:(2:Int) ^ 20=1048576:=by decide
  rw [decide_eq_true (by omega),decide_eq_true (by omega)]
def qob (lo:Int) (n:Nat):(qcB lo n).length=n:=by simp [qcB]
def qph (h:∀ d∈r,Th L B (n+1) d) (hB:B<=900000) (hL:L<=1000) (hn:n<=30):zM (j+1) [.tuple (.str "bits" :: r)]=some (.bool (btW r)):=by
 have e0:eqD false (.tuple (.str "bits" :: r)) (.tuple [])=some (.bool false):=X4 (by simp only [dpt,NU];have:=VR h;omega);rw [j8];by_cases hl:r.length=3
 ·obtain ⟨a,b,c,rfl⟩:=ql4 hl;have e:(((0+1+1+1:Nat):Int)=3):=by decide
  have s1:slD (.tuple [a,b,c]) none (some 2)=some (.tuple [a,b]):=jV (by simp [HT.sIx]);have f1:=T8 (e:=0) (ds:=[a,b]) (λd hd=>h d (by simp at hd ⊢;rcases hd with rfl|rfl<;>simp)) (by simp);by_cases al:[a,b].all (geN 0)=true
  ·have al':=al;simp only [List.all_cons,List.all_nil,Bool.and_true,Bool.and_eq_true] at al';obtain ⟨i1,rfl,g1⟩:=RJ al'.1;obtain ⟨i2,rfl,g2⟩:=RJ al'.2;rw [al] at f1;have hc:=h c (by simp);cases c with
   |dict _=>exact hc.elim
   |tuple ms=>
    obtain ⟨hl,ha⟩:=hc;have f2:=T8 (e:=0) ha (by omega);have mi:qh6 [.int (i1+i2),.int 99]=some (.int ((min (i1+i2).toNat 99:Nat):Int)):=by
     rw [qbk];congr 2;split<;>omega
    try simp (disch:=omega) only [Pu.pwA,zi,c6,d4,e0,n2,n3,jS,Z7,s1,f1,e,mi,qn1,length_cons,length_nil,decide_true,decide_false,Bool.not_true]
    generalize hK:min (i1+i2).toNat 99=K at *;have kb:∀ d∈ms,geN 0 d=true->biN (i1+i2) d=ltN (2 ^ K) d:=λd hd g=>by
     obtain ⟨i,rfl,gi⟩:=RJ g;have t:=ha _ hd;rw [XI] at t;have:=qiu (m:=i) (k:=(i1+i2).toNat) gi (by omega);rw [show (((i1+i2).toNat:Nat):Int)=i1+i2 by omega,hK] at this;rw [this];rfl
    refine qgL (Q:=λo=>X0 false (Option.bind o _)=_) (qcB 0 ((K:Nat):Int).toNat) (λi ρ=>∃ s4,ρ=[.sh (.tuple [.str "bits",.int i1,.int i2,.tuple ms]),.sh (.str "bits"),.sh (.tuple [.int i1,.int i2,.tuple ms]),.sh (.int (2 ^ i)),s4]) ⟨_,rfl⟩ ?_ ?_
    ·rintro i x ρ hx ⟨s4,rfl⟩;have:(2:Int) ^ (i+1)=2 ^ i*2:=Int.pow_succ 2 i
     try simp (disch:=omega) only [Pu.pwA,qhT]
     exact ⟨_,by rw [this]⟩
    ·rintro ρ ⟨s4,rfl⟩;rw [qob,Int.toNat_natCast];by_cases g:ms.all (geN 0)=true
     ·rw [g] at f2;have kc:ms.all (biN (i1+i2))=(ms.map (ltN (2 ^ K))).all id:=by
       rw [List.all_map];have:∀ (xs:List PyData),(∀ d∈xs,d∈ms)->xs.all (biN (i1+i2))=xs.all (id∘ltN (2 ^ K)):=λxs=>by
        induction xs with
        |nil=>intro _;rfl
        |cons y ys ih=>
         intro hy;simp only [List.all_cons,ih λd hd=>hy d (by simp [hd]),kb y (hy y (by simp)) (List.all_eq_true.mp g y (hy y (by simp)))];rfl
       exact this ms λ_ h=>h
      generalize (2:Int) ^ K=P at *;have q:lcF (λρ=>((vw ρ 2).bind λx=>ixD x (PyData.int 2)).bind LZ) (lcH (λd=>some [(0,d)]) (λx=>some true) λρ=>(vw ρ 0).bind λx=>(vw ρ 1).bind λy=>(opB λi j=>decide (i<j)).f x y) [none,some 3] [.sh (.tuple [.str "bits",.int i1,.int i2,.tuple ms]),.sh (.str "bits"),.sh (.tuple [.int i1,.int i2,.tuple ms]),.sh (.int P),s4]=some (.list ((ms.map (ltN P)).map PyData.bool)):=by
       rw [UH (ds:=ms) (fs:=(ms.map (ltN P)).map PyData.bool)]
       ·try simp only [Pu.pwA]
       ·rw [map_map];refine C2 λd hd=>?_;obtain ⟨i,rfl,_⟩:=RJ (List.all_eq_true.mp g d hd)
        try simp only [Pu.pwA,WB,ltN,Function.comp_def]
       ·simp;omega
      try simp only [Pu.pwA,btW,f2,q,VH,g,g1,g2,kc,decide_true,Bool.true_and]
     ·have g':ms.all (geN 0)=false:=by simpa using g
      rw [g'] at f2
      try simp only [Pu.pwA,btW,f2,g',g1,g2,decide_true,Bool.true_and,Bool.false_and]
   |_=>try simp only [Pu.pwA,zi,btW,c6,d4,e0,n2,n3,jS,Z7,s1,f1,e,c1,c2,cq3,c4,c5,length_cons,length_nil,decide_true,decide_false,Bool.not_true,Bool.not_false]
  ·have al2:[a,b].all (geN 0)=false:=by simpa using al
   rw [al2] at f1;have z:btW [a,b,c]=false:=by
    unfold btW;split
    ·rename_i a' b' ms e';cases e';simp only [List.all_cons,List.all_nil,geN,Bool.and_true] at al2;rw [al2,Bool.false_and]
    ·rfl
   try simp only [Pu.pwA,zi,c6,d4,e0,n2,n3,jS,Z7,z,s1,f1,e,length_cons,length_nil,decide_true,decide_false,Bool.not_true,Bool.not_false]
 ·have e:¬ ((r.length:Int)=3):=by omega
  try simp only [Pu.pwA,zi,c6,d4,e0,n2,n3,jS,Z7,qpM hl,e,Bool.not_true,Bool.not_false,decide_true,decide_false]
end
section
variable {L B n j:Nat} {r:List PyData}
def qo2 {a c:PyData}:tbW [a,c]=(geN 1 a&&(match a with|.int b=>cW b c|_=>false)):=by
 unfold tbW cW;cases a with
 |int b=>
  simp only [geN];split
  ·rename_i e;cases e;rfl
  ·rename_i ne;split
   ·rename_i x xs rs;exact absurd rfl (ne b x xs rs)
   ·rw [Bool.and_false]
 |_=>rfl
def qpu (h:∀ d∈r,Th L B (n+2) d) (hL:L<=1000) (hn:n<=30):zM (j+1) [.tuple (.str "table" :: r)]=some (.bool (tbW r)):=by
 have e0:eqD false (.tuple (.str "table" :: r)) (.tuple [])=some (.bool false):=X4 (by simp only [dpt,NU];have:=VR h;omega);rw [j8];by_cases hl:r.length=2
 ·obtain ⟨a,c,rfl⟩:=qoA hl;have e:(((0+1+1:Nat):Int)=2):=by decide
  have s1:slD (.tuple [a,c]) none (some 1)=some (.tuple [a]):=jV (by simp [HT.sIx]);have f1:=T8 (e:=1) (ds:=[a]) (λd hd=>h d (by simp at hd ⊢;exact .inl hd)) (by simp);simp only [List.all_cons,List.all_nil,Bool.and_true] at f1;rw [qo2];by_cases g:geN 1 a=true
  ·obtain ⟨i,rfl,gi⟩:=RJ g;have f2:=qnI (b:=i) (h c (by simp)) hL hn;rw [g] at f1
   try simp only [Pu.pwA,zi,c6,d4,e0,n4,n5,n6,jS,Z7,s1,f1,f2,e,g,length_cons,length_nil,decide_true,decide_false,Bool.not_true,Bool.true_and]
  ·have g':geN 1 a=false:=by simpa using g
   rw [g'] at f1
   try simp only [Pu.pwA,zi,c6,d4,e0,n4,n5,n6,jS,Z7,s1,f1,e,g',length_cons,length_nil,decide_true,decide_false,Bool.not_true,Bool.false_and]
 ·have e:¬ ((r.length:Int)=2):=by omega
  try simp only [Pu.pwA,zi,c6,d4,e0,n4,n5,n6,jS,Z7,qmw hl,e,Bool.not_true,decide_true,decide_false]
def qoM (h:∀ d∈r,Th L B n d) (hn:n<=30) (g:∀ d∈r,zM j [d]=some (.bool (isD j d))):zM (j+1) [.tuple (.str "joined" :: r)]=some (.bool (jnW (isD j) r)):=by
 have e0:eqD false (.tuple (.str "joined" :: r)) (.tuple [])=some (.bool false):=X4 (by simp only [dpt,NU];have:=VR h;omega);rw [j8];by_cases hl:r.length=2
 ·obtain ⟨a,c,rfl⟩:=qoA hl;have e:(((0+1+1:Nat):Int)=2):=by decide
  have g1:=g a (by simp);have g2:=g c (by simp)
  try simp only [Pu.pwA,zi,jnW,c6,d4,e0,n7,n8,n9,n0,jS,Z7,g1,g2,e,length_cons,length_nil,decide_true,decide_false,Bool.not_true]
  cases isD j a<;>try simp only [Pu.pwA,Bool.true_and,Bool.false_and]
 ·have e:¬ ((r.length:Int)=2):=by omega
  try simp only [Pu.pwA,zi,c6,d4,e0,n7,n8,n9,n0,jS,Z7,qo3 hl,e,Bool.not_true,decide_true,decide_false]
end
def qnw {L B:Nat} (hL:L<=1000) (hB:B<=900000):∀ {j n:Nat} {d:PyData},Th L B n d->n<j->n<=30->zM j [d]=some (.bool (isD j d)):=by
 intro j;induction j with
 |zero=>intro n d _ h;omega
 |succ j ih=>
  intro n d h hn h30;cases d with
  |dict _=>cases n<;>exact h.elim
  |tuple ds=>
   have dp:dpt (.tuple ds)<=40:=by have:=TD h;omega
   cases n with
   |zero=>exact h.elim
   |succ n=>
   obtain ⟨hl,ha⟩:=h;cases ds with
   |nil=>
    have e0:=X4 (g:=false) dp;rw [j8]
    try simp only [Pu.pwA,zi,isD,c6,e0,List.isEmpty_nil,Bool.false_eq_true,if_false,Bool.not_true]
   |cons k r=>
    have e0:eqD false (.tuple (k::r)) (.tuple [])=some (.bool false):=X4 dp;have hk:=ha k (by simp);have hr:∀ d∈r,Th L B n d:=λd hd=>ha d (by simp [hd]);have hr2:∀ m,n<=m->∀ d∈r,Th L B m d:=λm hm d hd=>zB (Nat.le_refl _) (Nat.le_refl _) m (hr d hd) hm;cases k with
    |dict _=>cases n<;>exact hk.elim
    |str s=>
     have hlr:r.length<=1000:=by simp at hl;omega
     by_cases b1:s=Str.ofString "skew"
     ·subst b1;rw [qpc hr (by omega)];simp only [isD,if_true]
     by_cases b2:s=Str.ofString "rests"
     ·subst b2;rw [qpI hr hB (by omega) hlr];simp only [isD,n1,if_true,if_false]
     by_cases b3:s=Str.ofString "bits"
     ·subst b3;rw [qph (n:=n) (hr2 _ (by omega)) hB hL (by omega)];simp only [isD,n2,n3,if_true,if_false]
     by_cases b4:s=Str.ofString "table"
     ·subst b4;rw [qpu (n:=n) (hr2 _ (by omega)) hL (by omega)];simp only [isD,n4,n5,n6,if_true,if_false]
     by_cases b5:s=Str.ofString "joined"
     ·subst b5;rw [qoM hr (by omega) λd hd=>ih (hr d hd) (by omega) (by omega)];simp only [isD,n7,n8,n9,n0,if_true,if_false]
     ·rw [j8]
      try simp only [Pu.pwA,zi,isD,c6,d4,e0,jS,Z7,b1,b2,b3,b4,b5,if_false,decide_true,decide_false,Bool.not_true]
    |_=>
     rw [j8]
     try simp only [Pu.pwA,zi,isD,c6,d1,d2,d3,d5,d6,e0,Bool.not_true,Bool.not_false]
  |_=>
   rw [j8]
   try simp only [Pu.pwA,zi,isD,c1,c2,cq3,c4,c5,Bool.not_false]
def Mk:Nat->PyData->Prop
 |0,_=>True
 |j+1,d=>(∀ (a b:Int) ms,d=.tuple [.str "bits",.int a,.int b,.tuple ms]->ms.all (geN 0)=true->ms.length<=9)/\(∀ a b,d=.tuple [.str "joined",a,b]->Mk j a/\Mk j b)
def qf4 {i:Nat} {d:PyData} (h:isD i d=true):∃ i' r,i=i'+1/\((d=.tuple (.str "skew" :: r)/\skW r=true)\/(d=.tuple (.str "rests" :: r)/\rsW r=true)\/(d=.tuple (.str "bits" :: r)/\btW r=true)\/(d=.tuple (.str "table" :: r)/\tbW r=true)\/(d=.tuple (.str "joined" :: r)/\jnW (isD i') r=true)):=by
 unfold isD at h;split at h
 ·cases h
 ·rename_i j s r;refine ⟨j,r,rfl,?_⟩;split at h
  ·rename_i e;subst e;exact .inl ⟨rfl,h⟩
  split at h
  ·rename_i e;subst e;exact .inr (.inl ⟨rfl,h⟩)
  split at h
  ·rename_i e;subst e;exact .inr (.inr (.inl ⟨rfl,h⟩))
  split at h
  ·rename_i e;subst e;exact .inr (.inr (.inr (.inl ⟨rfl,h⟩)))
  split at h
  ·rename_i e;subst e;exact .inr (.inr (.inr (.inr ⟨rfl,h⟩)))
  ·cases h
 ·cases h
def Sz (j:Nat) (d:PyData) (r c b:Int):Prop:=1<=r/\1<=c/\1<=b/\∀ m,j<=m->jq m [d]=some (.tuple [.int r,.int c,.int b])/\zc m [d]=some (.tuple [.int r,.int c,.int b])
def inS:inD false (.str "skew") (.tuple [.str "skew",.str "rests"])=some (.bool true):=(zn (by simp [W7])).trans rfl
def inR:inD false (.str "rests") (.tuple [.str "skew",.str "rests"])=some (.bool true):=(zn (by simp [W7])).trans rfl
def inB:inD false (.str "bits") (.tuple [.str "skew",.str "rests"])=some (.bool false):=(zn (by simp [W7])).trans rfl
def inT:inD false (.str "table") (.tuple [.str "skew",.str "rests"])=some (.bool false):=(zn (by simp [W7])).trans rfl
def inJ:inD false (.str "joined") (.tuple [.str "skew",.str "rests"])=some (.bool false):=(zn (by simp [W7])).trans rfl
def m1:¬ (Str.ofString "skew" = Str.ofString "bits"):=by decide
def m2:¬ (Str.ofString "skew" = Str.ofString "table"):=by decide
def m3:¬ (Str.ofString "skew" = Str.ofString "joined"):=by decide
def m4:¬ (Str.ofString "rests" = Str.ofString "bits"):=by decide
def m5:¬ (Str.ofString "rests" = Str.ofString "table"):=by decide
def m6:¬ (Str.ofString "rests" = Str.ofString "joined"):=by decide
def m7:¬ (Str.ofString "table" = Str.ofString "joined"):=by decide
def m8:¬ (Str.ofString "bits" = Str.ofString "joined"):=by decide
def m9:¬ (Str.ofString "bits" = Str.ofString "table"):=by decide
def qpC {j:Nat} {r:List PyData} (h:skW r=true):∃ a b c,Sz (j+1) (.tuple (.str "skew" :: r)) a b c:=by
 by_cases hl:r.length=5
 ·obtain ⟨a,b,c,x,y,rfl⟩:=qoj hl;simp only [skW,Bool.and_eq_true] at h;obtain ⟨a,rfl,ha⟩:=RJ h.1.1;obtain ⟨b,rfl,hb⟩:=RJ h.1.2.1;obtain ⟨c,rfl,hc⟩:=RJ h.1.2.2;refine ⟨a,b,c,ha,hb,hc,λm hm=>?_⟩;obtain ⟨m,rfl⟩:∃ k,m=k+1:=⟨m-1,by omega⟩
  have s1:slD (.tuple [.str "skew",.int a,.int b,.int c,x,y]) (some 1) (some 4)=some (.tuple [.int a,.int b,.int c]):=jV (by simp [HT.sIx]);rw [J9,ZZ];refine ⟨?_,?_⟩
  ·try simp only [Pu.pwA,Q0,m1,m2,m3,decide_false]
  ·try simp only [Pu.pwA,j0,inS,s1]
 ·rw [qoD hl] at h;cases h
def qpy {j:Nat} {r:List PyData} (h:rsW r=true):∃ a b c,Sz (j+1) (.tuple (.str "rests" :: r)) a b c:=by
 unfold rsW at h;split at h
 ·rename_i a b c p;simp only [Bool.and_eq_true,decide_eq_true_eq] at h;refine ⟨a,b,c,h.1.1,h.1.2.1,h.1.2.2.1,λm hm=>?_⟩;obtain ⟨m,rfl⟩:∃ k,m=k+1:=⟨m-1,by omega⟩
  have s1:slD (.tuple [.str "rests",.int a,.int b,.int c,.int p]) (some 1) (some 4)=some (.tuple [.int a,.int b,.int c]):=jV (by simp [HT.sIx]);rw [J9,ZZ];refine ⟨?_,?_⟩
  ·try simp only [Pu.pwA,Q0,m4,m5,m6,decide_false]
  ·try simp only [Pu.pwA,j0,inR,s1]
 ·cases h
def qo5 {j:Nat} {r:List PyData} (h:tbW r=true):∃ a b c,Sz (j+1) (.tuple (.str "table" :: r)) a b c:=by
 unfold tbW at h;split at h
 ·rename_i b x xs rs;simp only [Bool.and_eq_true,decide_eq_true_eq] at h;refine ⟨((rs.length+1:Nat):Int),((xs.length+1:Nat):Int),b,by omega,by omega,h.1,λm hm=>?_⟩;obtain ⟨m,rfl⟩:∃ k,m=k+1:=⟨m-1,by omega⟩
  rw [J9,ZZ];refine ⟨?_,?_⟩
  ·try simp only [Pu.pwA,Q0,n6,length_cons,decide_false,decide_true]
  ·try simp only [Pu.pwA,j0,inT,n6,length_cons,decide_false,decide_true]
 ·cases h
def qa9 {k:Nat} (h:k<=9):L2.atI [PyData.int 1,.int 2,.int 4,.int 8,.int 16,.int 32,.int 64,.int 128,.int 256,.int 512] (k:Int)=some (.int (2 ^ k)):=by
 match k,h with
 |0,_=>rfl
 |1,_=>rfl
 |2,_=>rfl
 |3,_=>rfl
 |4,_=>rfl
 |5,_=>rfl
 |6,_=>rfl
 |7,_=>rfl
 |8,_=>rfl
 |9,_=>rfl
def KS (k:Nat):(1:Int)<=2 ^ k:=by
 have:=Nat.one_le_two_pow (n:=k);have e:((2 ^ k:Nat):Int)=2 ^ k:=by simp
 omega
def qpn {j h l:Nat} {ms:List PyData} (h1:h<=4) (h2:l<=4) (h3:ms.length<=9):∃ a b c,Sz (j+1) (.tuple [.str "bits",.int (h:Int),.int (l:Int),.tuple ms]) a b c:=by
 refine ⟨2 ^ h,2 ^ l,2 ^ ms.length,KS _,KS _,KS _,λm hm=>?_⟩;obtain ⟨m,rfl⟩:∃ k,m=k+1:=⟨m-1,by omega⟩
 have t1:=qa9 (k:=h) (by omega);have t2:=qa9 (k:=l) (by omega);have t3:=qa9 (k:=ms.length) (by omega);have s1:=sh1 (n:=h) (by omega);have s2:=sh1 (n:=l) (by omega);have s3:=sh1 (n:=ms.length) (by omega);rw [J9,ZZ];refine ⟨?_,?_⟩
 ·try simp only [Pu.pwA,Q0,s1,s2,s3,decide_true]
 ·try simp only [Pu.pwA,j0,inB,t1,t2,t3,decide_true]
def qit {i j:Nat} {m:List Bool} {x r:List PyData} {ρ:Rho}:qbT i j m [.tuple x,.tuple r] ρ=some (.nx (((dm m ρ).set i (.sh (.tuple x))).set j (.sh (.tuple r)))):=id rfl
def qpE {j:Nat} {x y:PyData} {a b c a' b' c':Int} (hx:Sz j x a b c) (hy:Sz j y a' b' c') (h1:a<=16) (h2:b<=16) (h3:c<=32):∃ r s t,Sz (j+1) (.tuple [.str "joined",x,y]) r s t:=by
 obtain ⟨p1,p2,p3,ex⟩:=hx;obtain ⟨q1,q2,q3,ey⟩:=hy;have mp:∀ {u v:Int},1<=u->1<=v->1<=u*v:=λhu hv=>by
  have:=Int.mul_le_mul hu hv (by omega) (by omega);omega
 refine ⟨a*a',b*b',c*c',mp p1 q1,mp p2 q2,mp p3 q3,λm hm=>?_⟩;obtain ⟨m,rfl⟩:∃ k,m=k+1:=⟨m-1,by omega⟩
 obtain ⟨x1,x2⟩:=ex m (by omega);obtain ⟨y1,y2⟩:=ey m (by omega);rw [J9,ZZ];refine ⟨?_,?_⟩
 ·try simp (disch:=omega) only [Pu.pwA,Q0,n9,n0,x1,y1,R4,decide_true,decide_false]
 ·try simp (disch:=omega) only [Pu.pwA,j0,inJ,n9,n0,x2,y2,qit,decide_true,decide_false]
  rw [UH (ds:=[.tuple [.int a,.int a'],.tuple [.int b,.int b'],.tuple [.int c,.int c']]) (fs:=[.int (a*a'),.int (b*b'),.int (c*c')])]
  ·try simp only [Pu.pwA]
  ·rfl
  ·try simp (disch:=omega) only [Pu.pwA,lcP,WB,R4]
  ·simp
def ql0 {L B:Nat}:∀ {j i n:Nat} {d:PyData},Th L B n d->n<j->j<=10->isD i d=true->Mk j d ->
  ∃ w,zq j [d]=some (.bool w)/\(w=true->∃ r c b,Sz j d r c b/\r<=16/\c<=16/\b<=32):=by
 intro j;induction j with
 |zero=>intro i n d _ h;omega
 |succ j ih=>
  intro i n d th hn hj hd hm;have fin:∀ {x:PyData} {r c b:Int},Sz (j+1) x r c b->((zc 10) [x]=some (.tuple [.int r,.int c,.int b])):=λz=>(z.2.2.2 10 (by omega)).2;obtain ⟨i',r,rfl,hh⟩:=qf4 hd;rcases hh with ⟨rfl,h⟩|⟨rfl,h⟩|⟨rfl,h⟩|⟨rfl,h⟩|⟨rfl,h⟩
  ·obtain ⟨a,b,c,z⟩:=qpC (j:=j) h;have f:=fin z;rw [jA];refine ⟨decide (a<=16)&&(decide (b<=16)&&decide (c<=32)),?_,λw=>⟨a,b,c,z,by simpa using w⟩⟩
   try simp only [Pu.pwA,zm,m1,m3,f,decide_false]
   cases decide (a<=16)<;>cases decide (b<=16)<;>try simp only [Pu.pwA,Bool.true_and,Bool.false_and]
  ·obtain ⟨a,b,c,z⟩:=qpy (j:=j) h;have f:=fin z;rw [jA];refine ⟨decide (a<=16)&&(decide (b<=16)&&decide (c<=32)),?_,λw=>⟨a,b,c,z,by simpa using w⟩⟩
   try simp only [Pu.pwA,zm,m4,m6,f,decide_false]
   cases decide (a<=16)<;>cases decide (b<=16)<;>try simp only [Pu.pwA,Bool.true_and,Bool.false_and]
  ·unfold btW at h;split at h
   ·rename_i a l ms;simp only [Bool.and_eq_true,decide_eq_true_eq] at h;have lm:=hm.1 _ _ _ rfl h.2.1;obtain ⟨a,rfl⟩:=Int.eq_ofNat_of_zero_le h.1.1;obtain ⟨l,rfl⟩:=Int.eq_ofNat_of_zero_le h.1.2;by_cases c:a<=4/\l<=4
    ·obtain ⟨x,y,t,z⟩:=qpn (j:=j) (ms:=ms) c.1 c.2 lm;have f:=fin z;have mx:qg2 [.int (a:Int),.int (l:Int)]=some (.int ((max a l:Nat):Int)):=by
      rw [MB];congr 2;split<;>omega
     have nm:¬ ((4:Int)<((max a l:Nat):Int)):=by omega
     rw [jA];refine ⟨decide (x<=16)&&(decide (y<=16)&&decide (t<=32)),?_,λw=>⟨x,y,t,z,by simpa using w⟩⟩
     try simp only [Pu.pwA,zm,m8,mx,nm,f,decide_false,decide_true]
     cases decide (x<=16)<;>cases decide (y<=16)<;>try simp only [Pu.pwA,Bool.true_and,Bool.false_and]
    ·have mx:qg2 [.int (a:Int),.int (l:Int)]=some (.int ((max a l:Nat):Int)):=by
      rw [MB];congr 2;split<;>omega
     have nm:(4:Int)<((max a l:Nat):Int):=by omega
     rw [jA];refine ⟨false,?_,λw=>by cases w⟩
     try simp only [Pu.pwA,zm,m8,mx,nm,decide_false,decide_true]
   ·cases h
  ·obtain ⟨a,b,c,z⟩:=qo5 (j:=j) h;have f:=fin z;rw [jA];refine ⟨decide (a<=16)&&(decide (b<=16)&&decide (c<=32)),?_,λw=>⟨a,b,c,z,by simpa using w⟩⟩
   try simp only [Pu.pwA,zm,n6,m7,f,decide_false]
   cases decide (a<=16)<;>cases decide (b<=16)<;>try simp only [Pu.pwA,Bool.true_and,Bool.false_and]
  ·unfold jnW at h;split at h
   ·rename_i x y;simp only [Bool.and_eq_true] at h;obtain ⟨mx,my⟩:=hm.2 _ _ rfl;cases n with
    |zero=>exact th.elim
    |succ n=>
    obtain ⟨wx,fx,kx⟩:=ih (th.2 x (by simp)) (by omega) (by omega) h.1 mx;obtain ⟨wy,fy,ky⟩:=ih (th.2 y (by simp)) (by omega) (by omega) h.2 my;rw [jA];cases wx with
    |false=>
     refine ⟨false,?_,λw=>by cases w⟩
     try simp only [Pu.pwA,zm,fx,Bool.not_false,decide_true]
    |true=>
     cases wy with
     |false=>
      refine ⟨false,?_,λw=>by cases w⟩
      try simp only [Pu.pwA,zm,fx,fy,Bool.not_false,decide_true]
     |true=>
      obtain ⟨a,b,c,zx,b1,b2,b3⟩:=kx rfl;obtain ⟨a',b',c',zy,b1',b2',b3'⟩:=ky rfl;obtain ⟨r,s,t,z⟩:=qpE zx zy b1 b2 b3;have f:=fin z;refine ⟨decide (r<=16)&&(decide (s<=16)&&decide (t<=32)),?_,λw=>⟨r,s,t,z,by simpa using w⟩⟩
      try simp only [Pu.pwA,zm,n9,fx,fy,f,Bool.not_true,decide_false,decide_true]
      cases decide (r<=16)<;>cases decide (s<=16)<;>try simp only [Pu.pwA,Bool.true_and,Bool.false_and]
   ·cases h
def cnt (ds:List PyData):Nat:=ds.countP λd=>!isT d
def qf6:List PyData:=[.none,.bool true,.int 0,.int (-1),.str "skew",.tuple [],.tuple [.int 0],.tuple [.tuple [.int 0]],.int 7,.str "a"]
structure Al (ds es:List PyData):Prop where
 len:es.length<=ds.length+1
 mem:∀ e∈es,e∈ds\/e∈qf6
 sc:cnt es<=cnt ds+1
 bk:PyData.bulkAll es<=2*PyData.bulkAll ds+10
def L0:∀ a b:List PyData,PyData.bulkAll (a++b)=PyData.bulkAll a+PyData.bulkAll b
 |[],b=>by simp [PyData.bulkAll]
 |d::a,b=>by simp only [cons_append,PyData.bulkAll,L0 a b];omega
def N4:∀ {ds:List PyData} {d:PyData},d∈ds->d.bulk+1<=PyData.bulkAll ds
 |e::ds,d,h=>by
  simp only [PyData.bulkAll];rcases mem_cons.mp h with rfl|h
  ·omega
  ·have:=N4 h;omega
def qdQ {es ds:List PyData} (h:es.Sublist ds):PyData.bulkAll es<=PyData.bulkAll ds:=by
 induction h with
 |slnil=>exact Nat.le_refl _
 |cons a _ ih=>simp only [PyData.bulkAll];omega
 |cons_cons a _ ih=>simp only [PyData.bulkAll];omega
def qfP {es ds:List PyData} (h:es.Perm ds):PyData.bulkAll es=PyData.bulkAll ds:=by
 induction h with
 |nil=>rfl
 |cons a _ ih=>simp only [PyData.bulkAll,ih]
 |swap a b l=>simp only [PyData.bulkAll];omega
 |trans _ _ h1 h2=>rw [h1,h2]
def qjd {es ds:List PyData} (h:es.Sublist ds):Al ds es:=⟨by have:=h.length_le;omega,λe he=>.inl (h.subset he),by have:=h.countP_le (p:=λd=>!isT d);unfold cnt;omega,by have:=qdQ h;omega⟩
def qaA {es ds:List PyData} (h:es.Perm ds):Al ds es:=⟨by have:=h.length_eq;omega,λe he=>.inl (h.subset he),by have:=h.countP_eq (p:=λd=>!isT d);unfold cnt;omega,by have:=qfP h;omega⟩
def qhE:∀ d∈qf6,d.bulk<=8:=by
 refine alc ?_ (alc ?_ (alc ?_ (alc ?_ (alc ?_ (alc ?_ (alc ?_ (alc ?_ (alc ?_ (alc ?_ al0)))))))))<;>decide
def qc1 {A X C ds:List PyData} (h:(A++C).Sublist ds) (hx:X.length<=1) (m:∀ e∈X,e∈ds\/e∈qf6):Al ds (A++X++C):=by
 have l:=h.length_le;have c:=h.countP_le (p:=λd=>!isT d);have b:=qdQ h;rw [length_append] at l;rw [List.countP_append] at c;rw [L0] at b;refine ⟨by simp only [length_append];omega,λe he=>?_,?_,?_⟩
 ·rcases List.mem_append.mp he with he|he
  ·rcases List.mem_append.mp he with he|he
   ·exact .inl (h.subset (List.mem_append.mpr (.inl he)))
   ·exact m e he
  ·exact .inl (h.subset (List.mem_append.mpr (.inr he)))
 ·unfold cnt;rw [List.countP_append,List.countP_append];have:=List.countP_le_length (p:=λd=>!isT d) (l:=X);omega
 ·rw [L0,L0]
  match X,hx,m with
  |[],_,_=>simp only [PyData.bulkAll];omega
  |[x],_,m=>
   simp only [PyData.bulkAll];rcases m x (by simp) with z|z
   ·have:=N4 z;omega
   ·have:=qhE x z;omega
def qaj {α:Type} (xs:List α) (a m:Nat):EJ xs (some (a:Int)) (some ((a+m:Nat):Int))=(xs.drop a).take m:=by
 unfold EJ;rw [HT.WU,HT.WU];by_cases c:a<=xs.length
 ·rw [Nat.min_eq_left c,List.take_eq_take_iff];simp only [List.length_drop];omega
 ·rw [Nat.min_eq_right (show xs.length<=a by omega),List.drop_of_length_le (Nat.le_refl _),List.drop_of_length_le (show xs.length<=a by omega)];simp
def qbb {α:Type} (xs:List α) (a b:Nat) (h:a<=b):(xs.take a++xs.drop b).Sublist xs:=by
 have:=List.take_append_drop a xs;have s:(xs.take a++xs.drop b).Sublist (xs.take a++xs.drop a):=List.Sublist.append_left (List.drop_sublist_drop_left xs h) _;rw [this] at s;exact s
def qpw {ds:List PyData} (a:Nat):Al ds (ds.take a++ds.drop (a+1)):=qjd (qbb ds a (a+1) (by omega))
def qpr {ds:List PyData} (a:Nat):Al ds (ds.take a++(ds.drop a).take 1++ds.drop a):=qc1 (qbb ds a a (Nat.le_refl _)) (by simp;omega) λe he=>.inl (List.mem_of_mem_drop (List.mem_of_mem_take he))
def qoX {ds:List PyData} (a:Nat):Al ds (ds.take a++((ds.drop a).take 2).reverse++ds.drop (a+2)):=by
 refine qaA ?_;have e:ds=ds.take a++(ds.drop a).take 2++ds.drop (a+2):=by
  rw [List.append_assoc,← List.drop_drop,List.take_append_drop,List.take_append_drop]
 conv=>rhs;rw [e]
 exact List.Perm.append_right _ (List.Perm.append_left _ (List.reverse_perm _))
def qoQ {ds:List PyData}:Al ds ds.reverse:=qaA (List.reverse_perm _)
def qpG {ds:List PyData} {o:PyData} (a b:Nat) (h:a<=b) (ho:o∈qf6):Al ds (ds.take a++[o]++ds.drop b):=qc1 (qbb ds a b h) (by simp) λe he=>by
 simp at he;subst he;exact .inr ho
def KB {m:List Bool} {i:Nat} {d:PyData} {ρ:Rho} (h:dm m ρ=ρ):TX m false i d ρ=ρ.set i (.sh d):=by
 unfold TX;rw [h];split<;>rfl
def qpb {ds:List PyData} {c:Nat} {Q:QD} (hl:ds.length<=1000) (hc:c<900000) (hL:Q (.list ds) (c+3)) (hT:∀ es,Al ds es->Q (.tuple es) (c+3)):zg.W [.tuple ds] c Q:=by
 rw [EV];refine ⟨rfl,?_⟩;unfold jC;refine jw λY1 h1=>?_;have c0:R9 (.int (ds.length:Int)) (.int 1)=some (.int ((ds.length+1:Nat):Int)):=id rfl
 try simp only [Pu.pwA,YL,Z8,c0]
 refine ⟨by omega,by omega,λw w0 w1=>⟨by omega,by omega,λa a0 a1=>?_⟩⟩;obtain ⟨a,rfl⟩:=Int.eq_ofNat_of_zero_le a0
 try simp only [Pu.pwA]
 rw [h1];refine jw λY2 h2=>?_
 try simp only [Pu.pwA]
 refine ⟨by omega,by omega,λu u0 u1=>?_⟩;refine qjB (P:=λw=>_) 10 rfl u0 u1 λo ho=>?_;have ho:o∈qf6:=ho;rw [KB rfl]
 try simp only [Pu.pwA]
 rw [h2];have s2:slA (.tuple ds) (some (a:Int)) (some ((a+2:Nat):Int))=some (.tuple ((ds.drop a).take 2)):=by rw [NQ,qaj]
 have s1:slA (.tuple ds) (some (a:Int)) (some ((a+1:Nat):Int))=some (.tuple ((ds.drop a).take 1)):=by rw [NQ,qaj]
 have t0:slA (.tuple ds) none (some (a:Int))=some (.tuple (ds.take a)):=by rw [NQ,LS]
 have d0:∀ k:Nat,slA (.tuple ds) (some (k:Int)) none=some (.tuple (ds.drop k)):=λk=>by rw [NQ,RU]
 have k1:R9 (.int (a:Int)) (.int 1)=some (.int ((a+1:Nat):Int)):=id rfl;have k2:R9 (.int (a:Int)) (.int 2)=some (.int ((a+2:Nat):Int)):=id rfl;have la:a<=ds.length:=by omega
 refine jw λY3 h3=>?_
 try simp only [Pu.pwA,C4,DX,YL,Z8,k2,s2]
 rw [h3];refine jw λY4 h4=>?_;by_cases e0:w=0
 ·try simp only [Pu.pwA,e0,decide_true]
  exact ⟨_,by omega,hL⟩
 try simp only [Pu.pwA,e0,decide_false]
 rw [h4];refine jw λY5 h5=>?_;by_cases e1:w=1
 ·have q1:R9 (.tuple (ds.take a)) (.tuple (ds.drop (a+1)))=some (.tuple (ds.take a++ds.drop (a+1))):=EH (by simp;omega)
  try simp only [Pu.pwA,e1,C4,DX,YL,Z8,k1,t0,d0,q1,decide_true]
  exact ⟨_,by omega,hT _ (qpw a)⟩
 try simp only [Pu.pwA,e1,decide_false]
 rw [h5];refine jw λY6 h6=>?_;by_cases e2:w=2
 ·have q1:R9 (.tuple (ds.take a)) (.tuple ((ds.drop a).take 1))=some (.tuple (ds.take a++(ds.drop a).take 1)):=EH (by simp;omega);have q2:R9 (.tuple (ds.take a++(ds.drop a).take 1)) (.tuple (ds.drop a))=some (.tuple (ds.take a++(ds.drop a).take 1++ds.drop a)):=EH (by simp;omega)
  try simp only [Pu.pwA,e2,C4,DX,YL,Z8,k1,t0,s1,d0,q1,q2,decide_true]
  exact ⟨_,by omega,hT _ (qpr a)⟩
 try simp only [Pu.pwA,e2,decide_false]
 rw [h6];refine jw λY7 h7=>?_;by_cases e3:w=3
 ·have q1:R9 (.tuple (ds.take a)) (.tuple ((ds.drop a).take 2).reverse)=some (.tuple (ds.take a++((ds.drop a).take 2).reverse)):=EH (by simp;omega);have q2:R9 (.tuple (ds.take a++((ds.drop a).take 2).reverse)) (.tuple (ds.drop (a+2)))=some (.tuple (ds.take a++((ds.drop a).take 2).reverse++ds.drop (a+2))):=EH (by simp;omega)
  try simp only [Pu.pwA,e3,C4,DX,YL,Z8,qek,qaw,qev,k2,t0,d0,q1,q2,decide_true]
  exact ⟨_,by omega,hT _ (qoX a)⟩
 try simp only [Pu.pwA,e3,decide_false]
 rw [h7];by_cases e4:w=4
 ·try simp only [Pu.pwA,e4,qek,qaw,qev,decide_true]
  exact ⟨_,by omega,hT _ qoQ⟩
 ·obtain ⟨b,rfl⟩:∃ b:Nat,w=((5+b:Nat):Int):=⟨(w-5).toNat,by omega⟩
  have k3:R9 (.int (a:Int)) (.int ((5+b:Nat):Int))=some (.int ((a+(5+b):Nat):Int)):=id rfl;have k4:((a+(5+b):Nat):Int)-5=((a+b:Nat):Int):=by omega
  have q1:R9 (.tuple (ds.take a)) (.tuple [o])=some (.tuple (ds.take a++[o])):=EH (by simp;omega);have q2:R9 (.tuple (ds.take a++[o])) (.tuple (ds.drop (a+b)))=some (.tuple (ds.take a++[o]++ds.drop (a+b))):=EH (by simp;omega)
  try simp only [Pu.pwA,e4,C4,DX,YL,Z8,k3,k4,t0,d0,q1,q2,decide_false]
  exact ⟨_,by omega,hT _ (qpG a (a+b) (by omega) ho)⟩
def ch (x:Str):Prop:=(x.cps.toList.all λc=>decide (c<16 ^ 8))=true
def LC {x:Str} {lo hi:Option Int} (h:ch x):ch (Txt.slice x lo hi):=by
 unfold Txt.slice;split
 ·exact h
 ·unfold ch;rw [List.all_eq_true];intro c hc;simp only [List.mem_filterMap] at hc;obtain ⟨i,_,hi⟩:=hc;have hm:c∈x.cps.toList:=by
   have:=Array.mem_of_getElem? hi;exact Array.mem_toList_iff.mpr this
  exact List.all_eq_true.mp h c hm
def qep {x y:Str} (h:ch x) (k:ch y):ch (x++y):=by
 unfold ch at *;show ((x.cps++y.cps).toList.all _)=true;rw [Array.toList_append,List.all_append,h,k];rfl
def qes {x y:Str}:(x++y).cps.size=x.cps.size+y.cps.size:=by
 show (x.cps++y.cps).size=_;rw [Array.size_append]
def qoZ {x:Str} {c:Nat} {Q:QD} (hx:x.cps.size<=1000) (hc:ch x) (hn:c<900000) (hQ:∀ y,(y.cps.size<=x.cps.size+1\/y.cps.size<=6)->ch y->Q (.str y) (c+3)):zr.W [.str x] c Q:=by
 rw [DC];refine ⟨rfl,?_⟩;unfold jO;have lx:x.length=x.cps.size:=rfl;have sl:=sizeLine_eq;refine jw λY1 h1=>?_
 try simp only [Pu.pwA]
 rw [h1];refine jw λY2 h2=>?_;have l1:qfz [.str x]=some (.int (x.cps.size:Int)):=zn (by omega)
 try simp only [Pu.pwA,qgq,qcP,qgV,qcT,l1]
 refine ⟨by omega,by omega,λw w0 w1=>⟨by omega,by omega,λa a0 a1=>⟨by omega,by omega,λu u0 u1=>?_⟩⟩⟩;obtain ⟨u,rfl⟩:=Int.eq_ofNat_of_zero_le u0;obtain ⟨a,rfl⟩:=Int.eq_ofNat_of_zero_le a0;obtain ⟨sg,es,hs⟩:∃ sg:Str,qhq (.str (Str.ofString "abcdefghijklmnopqrstuvwxyzABZ 09_")) (.int (u:Int))=some (.str sg)/\sg.cps.size=1/\ch sg:=by
  have lz:(Str.ofString "abcdefghijklmnopqrstuvwxyzABZ 09_").cps.toList.length=33:=by decide
  have al:∀ c∈(Str.ofString "abcdefghijklmnopqrstuvwxyzABZ 09_").cps.toList,c<16 ^ 8:=by decide
  have lt:u<(Str.ofString "abcdefghijklmnopqrstuvwxyzABZ 09_").cps.toList.length:=by omega
  have e:=atN (xs:=(Str.ofString "abcdefghijklmnopqrstuvwxyzABZ 09_").cps.toList) lt;rw [getElem?_eq_getElem lt] at e;refine ⟨⟨#[(Str.ofString "abcdefghijklmnopqrstuvwxyzABZ 09_").cps.toList[u]]⟩,?_,rfl,?_⟩
  ·unfold qhq;simp only;rw [zn (by rw [sl];decide),e];rfl
  ·unfold ch;simp only [List.all_cons,List.all_nil,Bool.and_true,decide_eq_true_eq];exact al _ (List.getElem_mem lt)
 refine ⟨_,es,?_⟩;rw [h2];refine jw λY3 h3=>?_
 try simp only [Pu.pwA]
 rw [h3];refine jw λY4 h4=>?_;by_cases e0:w=0
 ·have md:cI (λ_ j=>0<j) (·%·) (.int (a:Int)) (.int 6)=some (.int ((a%6:Nat):Int)):=qby (by decide)
  have wd:∃ y:Str,L2.atI [PyData.str "skew",.str "rests",.str "bits",.str "table",.str "joined",.str ""] ((a%6:Nat):Int)=some (.str y)/\y.cps.size<=6/\ch y:=by
   match a%6,Nat.mod_lt a (show 6 > 0 by decide) with
   |0,_=>exact ⟨_,rfl,by decide,by unfold ch;decide⟩
   |1,_=>exact ⟨_,rfl,by decide,by unfold ch;decide⟩
   |2,_=>exact ⟨_,rfl,by decide,by unfold ch;decide⟩
   |3,_=>exact ⟨_,rfl,by decide,by unfold ch;decide⟩
   |4,_=>exact ⟨_,rfl,by decide,by unfold ch;decide⟩
   |5,_=>exact ⟨_,rfl,by decide,by unfold ch;decide⟩
  obtain ⟨y,ey,y1,y2⟩:=wd
  try simp only [Pu.pwA,e0,md,ey,decide_true]
  exact ⟨_,by omega,hQ y (.inr y1) y2⟩
 try simp only [Pu.pwA,e0,decide_false]
 rw [h4];have n1:=PyProof.Rows.slice_ns_cases x (a:Int) (by omega);have z1:(Txt.slice x none (some (a:Int))).cps.size=a:=by
  have:(Txt.slice x none (some (a:Int))).length=(Txt.slice x none (some (a:Int))).cps.size:=rfl;omega
 have t1:qg0 (.str x) none (some (a:Int))=some (.str (Txt.slice x none (some (a:Int)))):=zn (by rw [sl];show (Txt.slice x none (some (a:Int))).cps.size<=_;omega);have key:∀ (m:Int) (b:Nat) (g:Str),b<=1->g.cps.size<=1->ch g->MU (.str sg) (.int m)=some (.str g)->∃ y,((y.cps.size<=x.cps.size+1\/y.cps.size<=6)/\ch y)/\M8 (.str (Txt.slice x none (some (a:Int)))) (.str g)=some (.str (Txt.slice x none (some (a:Int))++g))/\qg0 (.str x) (some ((a:Int)+(b:Int))) none=some (.str (Txt.slice x (some ((a:Int)+(b:Int))) none))/\M8 (.str (Txt.slice x none (some (a:Int))++g)) (.str (Txt.slice x (some ((a:Int)+(b:Int))) none))=some (.str y):=by
  intro m b g hb hg cg _;have n2:=PyProof.Rows.slice_sn_cases x ((a:Int)+(b:Int)) (by omega);have e2:(Txt.slice x (some ((a:Int)+(b:Int))) none).length=(Txt.slice x (some ((a:Int)+(b:Int))) none).cps.size:=rfl;have z3:(Txt.slice x none (some (a:Int))++g).cps.size=a+g.cps.size:=by rw [qes,z1]
  refine ⟨Txt.slice x none (some (a:Int))++g++Txt.slice x (some ((a:Int)+(b:Int))) none,⟨.inl ?_,qep (qep (LC hc) cg) (LC hc)⟩,qc8 ?_,zn ?_,qc8 ?_⟩
  ·rw [qes,z3];omega
  ·show (Txt.slice x none (some (a:Int))).cps.size+g.cps.size<=_;omega
  ·rw [sl];omega
  ·show (Txt.slice x none (some (a:Int))++g).cps.size+_<=_;omega
 have r0:MU (.str sg) (.int 0)=some (.str ⟨#[]⟩):=zn rfl;have r1:MU (.str sg) (.int 1)=some (.str sg):=(jV (by decide)).trans (zn rfl);have i1:(if (!decide ((1:Int)=2))=true then (1:Int) else 0)=((1:Nat):Int):=by decide
 by_cases e1:w=1
 ·subst e1;obtain ⟨y,hy,k1,k2,k3⟩:=key 0 1 ⟨#[]⟩ (by omega) (by simp) rfl r0
  try simp only [Pu.pwA,qaY,KC,RG,W6,C9,XC,t1,r0,k1]
  rw [i1,k2]
  try simp only [Pu.pwA,k3]
  exact ⟨_,by omega,hQ y hy.1 hy.2⟩
 ·by_cases e2:w=2
  ·subst e2;obtain ⟨y,hy,k1,k2,k3⟩:=key 1 0 sg (by omega) (by omega) hs.2 r1;have j1:(if (!decide ((2:Int)=1))=true then (1:Int) else 0)=1:=by decide
   try simp only [Pu.pwA,qaY,KC,RG,W6,C9,XC,t1,j1,r1,k1]
   have k2':qg0 (.str x) (some ((a:Int)+0)) none=some (.str (Txt.slice x (some ((a:Int)+((0:Nat):Int))) none)):=k2;rw [k2']
   try simp only [Pu.pwA,k3]
   exact ⟨_,by omega,hQ y hy.1 hy.2⟩
  ·have e3:w=3:=by omega
   subst e3;obtain ⟨y,hy,k1,k2,k3⟩:=key 1 1 sg (by omega) (by omega) hs.2 r1;have j1:(if (!decide ((3:Int)=1))=true then (1:Int) else 0)=1:=by decide
   have j3:(if (!decide ((3:Int)=2))=true then (1:Int) else 0)=((1:Nat):Int):=by decide
   try simp only [Pu.pwA,qaY,KC,RG,W6,C9,XC,t1,j1,r1,k1]
   rw [j3,k2]
   try simp only [Pu.pwA,k3]
   exact ⟨_,by omega,hQ y hy.1 hy.2⟩
inductive Spt:PyData->PyData->Prop
 |deep {ds:List PyData} {i:Nat} {x y:PyData}:ds[i]?=some x->Spt x y->Spt (.tuple ds) (.tuple (ds.set i y))
 |lst {ds:List PyData}:Spt (.tuple ds) (.list ds)
 |oth {ds es:List PyData}:Al ds es->Spt (.tuple ds) (.tuple es)
 |txt {x y:Str}:(y.cps.size<=x.cps.size+1\/y.cps.size<=6)->ch y->Spt (.str x) (.str y)
 |zer {d:PyData}:(∀ ds,d≠.tuple ds)->Spt d (.tuple [.int 0])
 |num {d:PyData} {i:Int} {k:Int}:nbD d=some i->-1-(if 0<=i then i else -i)<=k->k<=(if 0<=i then i else -i)+1->Spt d (.int k)
 |nbl {d:PyData} {i:Int} {b:Bool}:nbD d=some i->Spt d (.bool b)
 |nst {d:PyData} {i:Int} {y:Str}:nbD d=some i->y.cps.size<=13->ch y->Spt d (.str y)
 |nno {d:PyData} {i:Int}:nbD d=some i->Spt d .none
 |ntu {d:PyData} {i:Int}:nbD d=some i->Spt d (.tuple [d])
 |nli {d:PyData} {i:Int}:nbD d=some i->Spt d (.list [d])
def qhM (ds:List PyData) (k:Nat) (x:PyData) (h:k<ds.length):ds.take k++[x]++ds.drop (k+1)=ds.set k x:=by
 rw [List.set_eq_take_append_cons_drop,if_pos h];simp
def qhV {d:PyData} {i:Int} (h:nbD d=some i) {f:Int->Int->Int} {j:Int}:nID f d (.int j)=some (.int (f i j)):=by unfold nID;rw [h]
def n_r {d:PyData} {i:Int} (h:nbD d=some i) {j:Int}:nRD (.int j) d=some (.int (j-i)):=by unfold nRD;rw [h]
def n_g {d:PyData} {i:Int} (h:nbD d=some i) {j:Int}:nGD d (.int j)=some (.bool (decide (j<i))):=by unfold nGD;rw [h]
def qn9 {d:PyData} {i:Int} {c:Nat} {s2 s3:Sl} {Q:QD} (h:nbD d=some i) (hi:-1000000<=i/\i<=1000000) (hc:c<900000) (ht:∃ x,SH true [d]=some (.str x)/\x.cps.size<=13/\ch x) (hQ:∀ r,Spt d r->∃ m,c+1<=m/\Q r m) (hs:qcQ d=true) :
  (U2 (NI (eDr EK (aOf (qg (qw 9) qE))) 4 [] ⟨rfl⟩ ⟨rfl⟩) (CY (eOf (bO jF (qaC (qg (bO (opN (·+·)) (bV 1) (qw 1)) (qg (bO (opN (·-·)) (bV 1) (qw 1)) (qg (bO qk4 (qln (qw 1)) (bV 1)) (qg (qw 0) (qg (bO qiT (bV 1) (qw 1)) (qg (qv (K9 true) (qg (bV 1) qE)) (qg qkq (qg (WM (qg (bV 1) qE) ⟨rfl⟩) (qg (qaC (qg (bV 1) qE) ⟨rfl⟩) qE))))))))) ⟨rfl⟩) (bV 4)))):PwS 0 _).w [.un,.sh d,s2,s3,.un] c (qfa false Q):=by
 obtain ⟨x,ex,x1,x2⟩:=ht;refine jw λY1 h1=>?_
 try simp only [Pu.pwA]
 refine ⟨by omega,by omega,λw w0 w1=>?_⟩
 try simp only [Pu.pwA]
 rw [h1]
 try simp only [Pu.pwA,qmI,qix,qlk,qff,qjs,qfG,RD,WK,qhV h,n_r h,n_g h,ex]
 refine qjB (P:=λw=>_) 9 rfl w0 w1 λr hr=>hQ r ?_
 revert r
 have ab:∀ z:Int,(z=i+1\/z=i-1\/z=-1-i\/z=0)->Spt d (.int z):=λz hz=>.num h (by split<;>omega) (by split<;>omega);exact alc (ab _ (.inl rfl)) (alc (ab _ (.inr (.inl rfl))) (alc (ab _ (.inr (.inr (.inl rfl)))) (alc (ab _ (.inr (.inr (.inr rfl)))) (alc (.nbl h) (alc (.nst h x1 x2) (alc (.nno h) (alc (.ntu h) (alc (.nli h) al0))))))))
def qoG {L B:Nat} (hL:L<=900) (hB:B<=900000):∀ {j n:Nat} {d:PyData} {c:Nat} {Q:QD},Th L B n d->n<j->j<=20->c+10*j<900000->(∀ r,Spt d r->Q r (c+10*j))->(zo j).W [d] c Q:=by
 intro j;induction j with
 |zero=>intro n d c Q _ h;omega
 |succ j ih=>
  intro n d c Q th hn hj hc hQ;rw [RB];refine ⟨rfl,?_⟩;unfold JN;refine jw λY1 h1=>?_
  try simp only [Pu.pwA]
  refine ⟨by omega,by omega,λdp p0 p1=>?_⟩
  try simp only [Pu.pwA]
  rw [h1];refine jw λY2 h2=>?_;cases d with
  |dict _=>cases n<;>exact th.elim
  |tuple ds=>
   cases n with
   |zero=>exact th.elim
   |succ n=>
   have dd:dpt (.tuple ds)<=40:=by have:=TD th;omega
   have e0:=X4 (g:=true) dd;obtain ⟨hl,ha⟩:=th;have oth:(U2 (wIf (cOf (bTb (WT (λt=>zA t "tuple") (bV 1)))) (CY (eDr (dSp zg false) (aOf (qg (bV 1) qE)))) UD) (U2 (wIf (cOf (bTb (WT (λt=>zA t "str") (bV 1)))) (CY (eDr (dSp zr false) (aOf (qg (bV 1) qE)))) UD) (U2 (wIf (cOf (WG (bTb (WT (λt=>zA t "int") (bV 1))))) (CY (eOf (WM (qg (qw 0) qE) ⟨rfl⟩))) UD) (U2 (NI (eDr EK (aOf (qg (qw 9) qE))) 4 [] ⟨rfl⟩ ⟨rfl⟩) (CY (eOf (bO jF (qaC (qg (bO (opN (·+·)) (bV 1) (qw 1)) (qg (bO (opN (·-·)) (bV 1) (qw 1)) (qg (bO qk4 (qln (qw 1)) (bV 1)) (qg (qw 0) (qg (bO qiT (bV 1) (qw 1)) (qg (qv (K9 true) (qg (bV 1) qE)) (qg qkq (qg (WM (qg (bV 1) qE) ⟨rfl⟩) (qg (qaC (qg (bV 1) qE) ⟨rfl⟩) qE))))))))) ⟨rfl⟩) (bV 4))))))):PwS 0 _).w [.un,.sh (.tuple ds),.sh (.int dp),.un,.un] (c+1) (qfa false Q):=by
    refine jw λY3 h3=>?_
    try simp only [Pu.pwA,c6]
    refine qpb (by omega) (by omega) ⟨_,by omega,hQ _ .lst⟩ λes he=>⟨_,by omega,hQ _ (.oth he)⟩
   cases ds with
   |nil=>
    try simp only [Pu.pwA,c6,e0,List.isEmpty_nil,Bool.not_true,if_true]
    rw [h2];exact oth
   |cons y ys=>
    generalize hD:y::ys=D at *;have ne:D.isEmpty=false:=by rw [← hD];rfl
    have l0:0<D.length:=by rw [← hD];simp
    by_cases pz:(0:Int)<dp
    ·try simp only [Pu.pwA,c6,e0,ne,pz,Bool.not_false,if_true,decide_true]
     refine ⟨by omega,by omega,λa a0 a1=>?_⟩;obtain ⟨a,rfl⟩:=Int.eq_ofNat_of_zero_le a0;have la:a<D.length:=by omega
     have ea:=atN la;have ga:D[a]?=some D[a]:=getElem?_eq_getElem la;rw [ga] at ea;have t0:slA (.tuple D) none (some (a:Int))=some (.tuple (D.take a)):=by rw [NQ,LS]
     have k1:R9 (.int (a:Int)) (.int 1)=some (.int ((a+1:Nat):Int)):=id rfl;have d0:slA (.tuple D) (some ((a+1:Nat):Int)) none=some (.tuple (D.drop (a+1))):=by rw [NQ,RU]
     try simp only [Pu.pwA,C4,DX,YL,Z8,k1,t0,d0,ea]
     refine ih (ha _ (List.getElem_mem la)) (by omega) (by omega) (by omega) λr hr=>?_;have q1:R9 (.tuple (D.take a)) (.tuple [r])=some (.tuple (D.take a++[r])):=EH (by simp;omega);have q2:R9 (.tuple (D.take a++[r])) (.tuple (D.drop (a+1)))=some (.tuple (D.set a r)):=by
      rw [← qhM D a r la];exact EH (by simp;omega)
     try simp only [Pu.pwA,q1,q2]
     exact ⟨_,by omega,hQ _ (.deep ga hr)⟩
    ·try simp only [Pu.pwA,c6,e0,ne,pz,Bool.not_false,if_true,decide_false]
     rw [h2];exact oth
  |str x=>
   rw [MQ] at th
   try simp only [Pu.pwA,c4]
   rw [h2];refine jw λY3 h3=>?_
   try simp only [Pu.pwA,c4]
   rw [h3];refine jw λY4 h4=>?_
   try simp only [Pu.pwA,d4]
   refine qoZ (by omega) th.2 (by omega) λy y1 y2=>⟨_,by omega,hQ _ (.txt y1 y2)⟩
  |none=>
   try simp only [Pu.pwA,c1]
   rw [h2];refine jw λY3 h3=>?_
   try simp only [Pu.pwA,c1]
   rw [h3];refine jw λY4 h4=>?_
   try simp only [Pu.pwA,d1]
   rw [h4];refine jw λY5 h5=>?_
   try simp only [Pu.pwA,a1,Bool.not_false]
   exact ⟨_,by omega,hQ _ (.zer λds z=>by cases z)⟩
  |list xs=>
   try simp only [Pu.pwA,c5]
   rw [h2];refine jw λY3 h3=>?_
   try simp only [Pu.pwA,c5]
   rw [h3];refine jw λY4 h4=>?_
   try simp only [Pu.pwA,d5]
   rw [h4];refine jw λY5 h5=>?_
   try simp only [Pu.pwA,a5,Bool.not_false]
   exact ⟨_,by omega,hQ _ (.zer λds z=>by cases z)⟩
  |int i=>
   rw [XI] at th
   try simp only [Pu.pwA,cq3]
   rw [h2];refine jw λY3 h3=>?_
   try simp only [Pu.pwA,cq3]
   rw [h3];refine jw λY4 h4=>?_
   try simp only [Pu.pwA,d3]
   rw [h4];refine jw λY5 h5=>?_
   try simp only [Pu.pwA,a3,Bool.not_true]
   rw [h5];have sw:=Pu.qgi 0 (i:=i) (by omega);refine qn9 rfl (by omega) (by omega) ⟨_,qkU (by omega),sw.bk,sw.lv⟩ (λr hr=>⟨_,by omega,hQ r hr⟩) rfl
  |bool b=>
   try simp only [Pu.pwA,c2]
   rw [h2];refine jw λY3 h3=>?_
   try simp only [Pu.pwA,c2]
   rw [h3];refine jw λY4 h4=>?_
   try simp only [Pu.pwA,d2]
   rw [h4];refine jw λY5 h5=>?_
   try simp only [Pu.pwA,a2,Bool.not_true]
   rw [h5];refine qn9 rfl (by cases b<;>simp) (by omega) ⟨_,qiG,?_⟩ (λr hr=>⟨_,by omega,hQ r hr⟩) rfl;cases b<;>exact ⟨by decide,by unfold ch;decide⟩
open Bk (Dl SD)
def qeh {L B m:Nat} (hB:7<=B) (hL:1<=L):∀ o∈qf6,Th L B (m+2) o:=by
 have z:∀ k,Th L B k (.int 0):=λk=>by rw [XI];omega
 refine alc (qmd _) (alc (qlY _) (alc (z _) (alc (by rw [XI];omega) (alc (by rw [MQ];exact ⟨by simp only [show (Str.ofString "skew").cps.size=4 from rfl];omega,by decide⟩) (alc (SU (by simp) al0) (alc (SU (by simpa using hL) (alc (z _) al0)) (alc (SU (by simpa using hL) (alc (SU (by simpa using hL) (alc (z _) al0)) al0)) (alc (by rw [XI];omega) (alc (by rw [MQ];exact ⟨by simp only [show (Str.ofString "a").cps.size=1 from rfl];omega,by decide⟩) al0)))))))))
def ql2 {L B n:Nat} {d:PyData} {i:Int} (h:Th L B n d) (e:nbD d=some i) (hB:1<=B):-(B:Int)<=i/\i<=B:=by
 cases d<;>cases e
 ·rename_i b;cases b<;>simp<;>omega
 ·rw [XI] at h;exact h
def qd5 {L B:Nat} (hL:1<=L) (hB:7<=B) {d r:PyData} (s:Spt d r):∀ {n:Nat},Th L B n d->Th (L+1) (B+1) (n+2) r:=by
 induction s with
 |@deep ds i x y gi _ ih=>
  intro n h;cases n with
  |zero=>exact h.elim
  |succ n=>
   refine SU (by rw [List.length_set];have:=h.1;omega) λe he=>?_;rcases List.mem_or_eq_of_mem_set he with he|rfl
   ·exact zB (by omega) (by omega) _ (h.2 e he) (by omega)
   ·exact ih (h.2 x (mem_of_getElem? gi))
 |lst=>
  intro n h;cases n with
  |zero=>exact h.elim
  |succ n=>exact qoH (by have:=h.1;omega) λe he=>zB (by omega) (by omega) _ (h.2 e he) (by omega)
 |oth a=>
  intro n h;cases n with
  |zero=>exact h.elim
  |succ n=>
   refine SU (by have:=h.1;have:=a.len;omega) λe he=>?_;rcases a.mem e he with he|he
   ·exact zB (by omega) (by omega) _ (h.2 e he) (by omega)
   ·exact qeh (by omega) (by omega) e he
 |txt y1 y2=>intro n h;rw [MQ] at h ⊢;exact ⟨by omega,y2⟩
 |zer _=>intro n h;exact SU (by simp) (alc (by rw [XI];omega) al0)
 |num e k1 k2=>
  intro n h;have:=ql2 h e (by omega);rw [XI];split at k1<;>omega
 |nbl _=>intro n h;exact qlY _
 |nst _ y1 y2=>intro n h;rw [MQ];exact ⟨by omega,y2⟩
 |nno _=>intro n h;exact qmd _
 |ntu _=>intro n h;exact SU (by simp) (alc (zB (by omega) (by omega) _ h (by omega)) al0)
 |nli _=>intro n h;exact qoH (by simp) (alc (zB (by omega) (by omega) _ h (by omega)) al0)
def qee:∀ {ds:List PyData} {i:Nat} {x y:PyData},ds[i]?=some x->PyData.bulkAll (ds.set i y)+x.bulk=PyData.bulkAll ds+y.bulk
 |d::ds,0,x,y,h=>by
  simp only [getElem?_cons_zero,Option.some.injEq] at h;subst h;simp only [set_cons_zero,PyData.bulkAll];omega
 |d::ds,i+1,x,y,h=>by
  simp only [getElem?_cons_succ] at h;have:=qee (y:=y) h;simp only [set_cons_succ,PyData.bulkAll];omega
def KJ:∀ {ds:List PyData} {i:Nat} {y:PyData},cnt (ds.set i y)<=cnt ds+1
 |[],_,_=>by simp [cnt]
 |d::ds,0,y=>by
  simp only [set_cons_zero,cnt,List.countP_cons];split<;>split<;>omega
 |d::ds,i+1,y=>by
  have:=KJ (ds:=ds) (i:=i) (y:=y);simp only [set_cons_succ,cnt,List.countP_cons] at this ⊢;omega
def qii {d:PyData} {i:Int} (e:nbD d=some i):d.bulk=0:=by cases d<;>cases e<;>rfl
def qjy {d r:PyData} (s:Spt d r):r.bulk<=2*d.bulk+50:=by
 induction s with
 |@deep ds i x y gi _ ih=>
  have a:=qee (y:=y) gi;have b:=N4 (mem_of_getElem? gi);simp only [PyData.bulk] at a b ih ⊢;omega
 |lst=>simp only [PyData.bulk];omega
 |oth a=>have:=a.bk;simp only [PyData.bulk];omega
 |@txt x y y1 y2=>
  show y.cps.size<=2*x.cps.size+50;omega
 |zer _=>simp only [PyData.bulk,PyData.bulkAll];omega
 |num e k1 k2=>simp only [PyData.bulk];omega
 |nbl _=>simp only [PyData.bulk];omega
 |@nst d i y _ y1 y2=>
  show y.cps.size<=_;omega
 |nno _=>simp only [PyData.bulk];omega
 |ntu e=>have:=qii e;simp only [PyData.bulk,PyData.bulkAll];omega
 |nli e=>have:=qii e;simp only [PyData.bulk,PyData.bulkAll];omega
def El (P:PyData->Prop) (z:PyData):Prop:=∀ zs,(z=.tuple zs\/z=.list zs)->∀ x∈zs,P x
def Sm (k:Nat) (d:PyData):Prop:=Th (6+k) (100000+k) (5+2*k) d
def Gn (k:Nat) (d:PyData):Prop:=Th (60+k) (100000+k) (5+2*k) d
def Row (k:Nat) (z:PyData):Prop:=El (Sm k) z
def Cel (k:Nat) (c:PyData):Prop:=Sm k c\/(El (Row k) c/\∀ es,c=.tuple es->cnt es<=k)
def Rt:Nat->Nat->PyData->Prop
 |0,k,d=>Sm k d
 |j+1,k,d=>(∀ ds,d=.tuple ds->ds.length<=6+k)/\El (λc=>Cel k c\/Rt j k c) d
def qgw {k:Nat} {d r:PyData} (h:Sm k d) (s:Spt d r):Sm (k+1) r:=zB (by omega) (by omega) _ (qd5 (by omega) (by omega) s h) (by omega)
def qmy {k:Nat} {d r:PyData} (h:Gn k d) (s:Spt d r):Gn (k+1) r:=zB (by omega) (by omega) _ (qd5 (by omega) (by omega) s h) (by omega)
def qcE {k:Nat} {d:PyData} (h:Sm k d):Sm (k+1) d:=zB (by omega) (by omega) _ h (by omega)
def qmj {k:Nat} {d:PyData} (h:Gn k d):El (Gn k) d:=by
 intro zs e x hx;unfold Gn at h ⊢;rcases e with rfl|rfl<;>(rw [show 5+2*k=(4+2*k)+1 by omega] at h ⊢;exact zB (by omega) (by omega) _ (h.2 x hx) (by omega))
def qmn {k:Nat} {d:PyData} (h:Sm k d):El (Sm k) d:=by
 intro zs e x hx;unfold Sm at h ⊢;rcases e with rfl|rfl<;>(rw [show 5+2*k=(4+2*k)+1 by omega] at h ⊢;exact zB (by omega) (by omega) _ (h.2 x hx) (by omega))
def qjx {k:Nat}:∀ o∈qf6,Sm (k+1) o:=λo ho=>qeh (m:=5+2*k) (by omega) (by omega) o ho
def qo7 {k:Nat}:Sm k (.int 0):=by unfold Sm;rw [XI];omega
def qlh {k:Nat} {d:PyData} {i:Int} (h:Gn k d) (e:nbD d=some i):Sm (k+1) d:=by
 cases d<;>cases e
 ·exact qlY _
 ·unfold Gn at h;unfold Sm;rw [XI] at h ⊢;omega
def qgm {k:Nat} {P P':PyData->Prop} {d r:PyData} (g:Gn k d) (h:El P d) (s:Spt d r) (hup:∀ x,P x->P' x) (hsm:∀ x,Sm (k+1) x->P' x) (hsp:∀ x y,Gn k x->P x->Spt x y->P' y):El P' r:=by
 intro zs e x hx;cases s with
 |@deep ds i x0 y gi sx=>
  rcases e with e|e<;>cases e
  rcases List.mem_or_eq_of_mem_set hx with hx|rfl
  ·exact hup x (h ds (.inl rfl) x hx)
  ·exact hsp x0 x (qmj g ds (.inl rfl) x0 (mem_of_getElem? gi)) (h ds (.inl rfl) x0 (mem_of_getElem? gi)) sx
 |lst=>rcases e with e|e<;>cases e;exact hup x (h _ (.inl rfl) x hx)
 |oth a=>
  rcases e with e|e<;>cases e
  rcases a.mem x hx with hx|hx
  ·exact hup x (h _ (.inl rfl) x hx)
  ·exact hsm x (qjx x hx)
 |txt _ _=>rcases e with e|e<;>cases e
 |zer _=>rcases e with e|e<;>cases e;simp at hx;subst hx;exact hsm _ qo7
 |num _ _ _=>rcases e with e|e<;>cases e
 |nbl _=>rcases e with e|e<;>cases e
 |nst _ _ _=>rcases e with e|e<;>cases e
 |nno _=>rcases e with e|e<;>cases e
 |ntu e1=>rcases e with e|e<;>cases e;simp at hx;subst hx;exact hsm _ (qlh g e1)
 |nli e1=>rcases e with e|e<;>cases e;simp at hx;subst hx;exact hsm _ (qlh g e1)
def qiW {k:Nat} {d:PyData} (h:Sm k d):Row k d:=qmn h
def qeC {k:Nat} {d:PyData} (h:Row k d):Row (k+1) d:=λzs e x hx=>qcE (h zs e x hx)
def qhR {k:Nat} {d r:PyData} (g:Gn k d) (h:Row k d) (s:Spt d r):Row (k+1) r:=qgm g h s (λ_=>qcE) (λ_ h=>h) λ_ _ _ h s=>qgw h s
def qeo {k:Nat} {d:PyData} (h:Cel k d):Cel (k+1) d:=by
 rcases h with h|⟨h1,h2⟩
 ·exact .inl (qcE h)
 ·exact .inr ⟨λzs e x hx=>qeC (h1 zs e x hx),λes e=>by have:=h2 es e;omega⟩
def qh0 {k:Nat} {d r:PyData} (g:Gn k d) (h:Cel k d) (s:Spt d r):Cel (k+1) r:=by
 rcases h with h|⟨h1,h2⟩
 ·exact .inl (qgw h s)
 ·refine .inr ⟨qgm g h1 s (λ_=>qeC) (λ_=>qiW) λ_ _ g h s=>qhR g h s,λes e=>?_⟩;cases s with
  |deep gi sx=>cases e;have:=h2 _ rfl;have:=@KJ;exact Nat.le_trans KJ (by have:=h2 _ rfl;omega)
  |lst=>cases e
  |oth a=>cases e;have:=h2 _ rfl;have:=a.sc;omega
  |txt _ _=>cases e
  |zer _=>cases e;simp [cnt,isT]
  |num _ _ _=>cases e
  |nbl _=>cases e
  |nst _ _ _=>cases e
  |nno _=>cases e
  |ntu e1=>cases e;have:=List.countP_le_length (p:=λd=>!isT d) (l:=[d]);simp only [cnt];simp at this ⊢;omega
  |nli e1=>cases e
def qhC {k:Nat}:∀ {j:Nat} {d:PyData},Rt j k d->Rt j (k+1) d
 |0,_,h=>qcE h
 |j+1,_,h=>⟨λds e=>by have:=h.1 ds e;omega,λzs e x hx=>(h.2 zs e x hx).elim (λh=>.inl (qeo h)) λh=>.inr (qhC h)⟩
def qhB {k:Nat}:∀ {j:Nat} {d r:PyData},Gn k d->Rt j k d->Spt d r->Rt j (k+1) r
 |0,_,_,_,h,s=>qgw h s
 |j+1,d,r,g,h,s=>by
  refine ⟨λds e=>?_,qgm g h.2 s (λx hx=>hx.elim (λh=>.inl (qeo h)) λh=>.inr (qhC h)) (λ_ h=>.inl (.inl h)) λx y g h s=>h.elim (λh=>.inl (qh0 g h s)) λh=>.inr (qhB g h s)⟩;cases s with
  |deep gi sx=>cases e;rw [List.length_set];have:=h.1 _ rfl;omega
  |lst=>cases e
  |oth a=>cases e;have:=h.1 _ rfl;have:=a.len;omega
  |txt _ _=>cases e
  |zer _=>cases e;simp;omega
  |num _ _ _=>cases e
  |nbl _=>cases e
  |nst _ _ _=>cases e
  |nno _=>cases e
  |ntu e1=>cases e;simp;omega
  |nli e1=>cases e
def qgA {L B:Nat} (hL:L<=9):∀ {j n:Nat} {d:PyData},Th L B n d->Mk j d
 |0,_,_,_=>trivial
 |j+1,0,d,h=>⟨λa b ms e _=>by subst e;exact h.elim,λa b e=>by subst e;exact h.elim⟩
 |j+1,n+1,d,h=>by
  refine ⟨λa b ms e _=>?_,λa b e=>?_⟩
  ·subst e;have t:=h.2 (.tuple ms) (by simp);cases n with
   |zero=>exact t.elim
   |succ n=>exact Nat.le_trans t.1 hL
  ·subst e;exact ⟨qgA hL (h.2 a (by simp)),qgA hL (h.2 b (by simp))⟩
def NY {k:Nat} {ms:List PyData} (h:Sm k (.tuple ms)) (hk:k<=2):ms.length<=9:=by
 unfold Sm at h;rw [show 5+2*k=(4+2*k)+1 by omega] at h;have:=h.1;omega
def qck {k j:Nat} {d:PyData} (h:Sm k d) (hk:k<=2):Mk j d:=qgA (by omega) h
def qeK {k j:Nat} {d:PyData} (h:Row k d) (hk:k<=2):Mk j d:=by
 cases j with
 |zero=>trivial
 |succ j=>
  refine ⟨λa b ms e _=>NY (h _ (.inl e) (.tuple ms) (by simp)) hk,λa b e=>⟨qck (h _ (.inl e) a (by simp)) hk,qck (h _ (.inl e) b (by simp)) hk⟩⟩
def qet {k j:Nat} {d:PyData} (h:Cel k d) (hk:k<=2):Mk j d:=by
 rcases h with h|⟨h1,h2⟩
 ·exact qck h hk
 ·cases j with
  |zero=>trivial
  |succ j=>
   refine ⟨λa b ms e _=>?_,λa b e=>⟨qeK (h1 _ (.inl e) a (by simp)) hk,qeK (h1 _ (.inl e) b (by simp)) hk⟩⟩;have:=h2 _ e;simp [cnt,isT] at this;omega
def qbg:∀ {ms:List PyData},ms.all (geN 0)=true->cnt ms=ms.length
 |[],_=>rfl
 |d::ms,h=>by
  simp only [List.all_cons,Bool.and_eq_true] at h;obtain ⟨i,rfl,_⟩:=RJ h.1;have:=qbg h.2;simp only [cnt,List.countP_cons,isT,length_cons,Bool.not_false,if_true] at this ⊢;omega
def qe6 {k:Nat} (hk:k<=2):∀ {i j:Nat} {d:PyData},Rt i k d->Mk j d
 |0,_,_,h=>qck h hk
 |i+1,0,_,_=>trivial
 |i+1,j+1,d,h=>by
  refine ⟨λa b ms e al=>?_,λa b e=>⟨?_,?_⟩⟩
  ·rcases h.2 _ (.inl e) (.tuple ms) (by simp) with c|r
   ·rcases c with c|⟨_,c⟩
    ·exact NY c hk
    ·have:=c ms rfl;rw [qbg al] at this;omega
   ·cases i with
    |zero=>exact NY r hk
    |succ i=>have:=r.1 ms rfl;omega
  ·exact (h.2 _ (.inl e) a (by simp)).elim (λc=>qet c hk) λr=>qe6 hk r
  ·exact (h.2 _ (.inl e) b (by simp)).elim (λc=>qet c hk) λr=>qe6 hk r
def ND {i:Int} (h:-100000<=i/\i<=100000):Sm 0 (.int i):=by unfold Sm;rw [XI];omega
def qlj {s:Str} (h:s.cps.size<=20) (c:(s.cps.toList.all λc=>decide (c<16 ^ 8))=true):Sm 0 (.str s):=by unfold Sm;rw [MQ];exact ⟨by omega,c⟩
def qfU {P:PyData->Prop} {ds:List PyData} (h:∀ x∈ds,P x):El P (.tuple ds):=λzs e x hx=>by
 rcases e with e|e<;>cases e
 exact h x hx
def qbG {ds:List PyData} {m:Nat} (h:ds.length<=m):∀ es,PyData.tuple ds=.tuple es->es.length<=m:=λes e=>by cases e;exact h
def qe0:∀ (d:Dl),d.Ok->∀ j,d.dep<j->Rt j 0 (dlD d)
 |.skew r c b x y,ok,j+1,_=>by
  simp only [Dl.Ok] at ok;exact ⟨qbG (by simp),qfU (alc (.inl (.inl (qlj (by decide) (by decide)))) (alc (.inl (.inl (ND (by omega)))) (alc (.inl (.inl (ND (by omega)))) (alc (.inl (.inl (ND (by omega)))) (alc (.inl (.inl (ND (by omega)))) (alc (.inl (.inl (ND (by omega)))) al0))))))⟩
 |.rests r c b p,ok,j+1,_=>by
  simp only [Dl.Ok] at ok;exact ⟨qbG (by simp),qfU (alc (.inl (.inl (qlj (by decide) (by decide)))) (alc (.inl (.inl (ND (by omega)))) (alc (.inl (.inl (ND (by omega)))) (alc (.inl (.inl (ND (by omega)))) (alc (.inl (.inl (ND (by omega)))) al0)))))⟩
 |.bits a l ms,ok,j+1,_=>by
  obtain ⟨h1,h2,h3,h4⟩:=ok;have pw:(2:Int) ^ (a+l)<=256:=by
   have:2 ^ (a+l)<=2 ^ 8:=Nat.pow_le_pow_right (by omega) (by omega);have e:((2 ^ (a+l):Nat):Int)=2 ^ (a+l):=by simp
   omega
  refine ⟨qbG (by simp),qfU (alc (.inl (.inl (qlj (by decide) (by decide)))) (alc (.inl (.inl (ND (by omega)))) (alc (.inl (.inl (ND (by omega)))) (alc (.inl (.inl ?_)) al0))))⟩;refine SU (by simp;omega) λx hx=>?_;obtain ⟨m,hm,rfl⟩:=mem_map.mp hx;have:=h4 m hm;rw [XI];omega
 |.table b cells,ok,j+1,_=>by
  obtain ⟨h1,h2,h3,h4,c,c1,c2,hr⟩:=ok;refine ⟨qbG (by simp),qfU (alc (.inl (.inl (qlj (by decide) (by decide)))) (alc (.inl (.inl (ND (by omega)))) (alc (.inl (.inr ⟨qfU λx hx=>?_,λes e=>?_⟩)) al0)))⟩
  ·obtain ⟨row,hrow,rfl⟩:=mem_map.mp hx;obtain ⟨l1,hv⟩:=hr row hrow;refine qfU λy hy=>?_;obtain ⟨z,hz,rfl⟩:=mem_map.mp hy;have:=hv z hz;exact ND (by omega)
  ·cases e;have:cnt (cells.map qg5)=0:=by
    unfold cnt;rw [List.countP_eq_zero];intro x hx;obtain ⟨row,hrow,rfl⟩:=mem_map.mp hx;simp [qg5,isT]
   omega
 |.joined a e,ok,j+1,h=>by
  obtain ⟨o1,o2,_⟩:=ok;simp only [Dl.dep] at h;exact ⟨qbG (by simp),qfU (alc (.inl (.inl (qlj (by decide) (by decide)))) (alc (.inr (qe0 a o1 j (by omega))) (alc (.inr (qe0 e o2 j (by omega))) al0)))⟩
 |_,_,0,h=>by omega
structure Gd (k:Nat) (r:PyData):Prop where
 gn:Gn k r
 rt:Rt 3 k r
 sq:∃ ds,r=.tuple ds\/r=.list ds
 bk:r.bulk+50<=2 ^ k*(128000+50)
def qpj {d:Dl} (ok:d.Ok) (h:d.dep<=2):Gd 0 (dlD d):=by
 refine ⟨zB (Nat.le_refl _) (Nat.le_refl _) _ (qgj d ok) (by omega),qe0 d ok 3 (by omega),?_,?_⟩
 ·cases d<;>exact ⟨_,.inl rfl⟩
 ·have:=(qfr d ok).bk;have e:4 ^ d.dep<=4 ^ 2:=Nat.pow_le_pow_right (by decide) h;have e2:4 ^ 2=16:=rfl;omega
def qhS {k:Nat} {d r:PyData} (h:Gd k d) (s:Spt d r):Gd (k+1) r:=by
 refine ⟨qmy h.gn s,qhB h.gn h.rt s,?_,?_⟩
 ·obtain ⟨ds,e⟩:=h.sq;rcases e with rfl|rfl
  ·cases s<;>first|exact ⟨_,.inl rfl⟩|exact ⟨_,.inr rfl⟩|(rename_i z;cases z)|(rename_i z _ _;cases z)
  ·cases s<;>first|exact ⟨_,.inl rfl⟩|exact ⟨_,.inr rfl⟩|(rename_i z;cases z)|(rename_i z _ _;cases z)
 ·have:=qjy s;have:=h.bk;rw [Nat.pow_succ];omega
def qcJ {k:Nat} {r:PyData} (h:Gd k r) (hk:k<=2):Th 62 100002 9 r:=zB (by omega) (by omega) _ h.gn (by omega)
def qfL {k:Nat} {r:PyData} (h:Gd k r) (hk:k<=2):∃ x,SH false [r]=some (.str x):=by
 have t:=qgU (by decide) (qcJ h hk);have b:=h.bk;have p:2 ^ k<=2 ^ 2:=Nat.pow_le_pow_right (by decide) hk;have e2:2 ^ 2=4:=rfl;have b2:=Nat.mul_le_mul_right (128000+50) p;have w:ShW r:=SD.w (k:=9) (n:=r.bulk) ⟨t.sh,t.nd,t.dp,t.lv,Nat.le_refl _⟩ (by decide) (by
  have:2 ^ 20=1048576:=rfl;omega)
 obtain ⟨ds,e⟩:=h.sq;rcases e with rfl|rfl
 ·exact ⟨_,qhX w⟩
 ·exact ⟨_,qh7 w⟩
def qnR {k:Nat} {r:PyData} (h:Gd k r) (hk:k<=2):qr 12 [r]=some (.bool (isD 12 r))/\zM 12 [r]=some (.bool (isD 12 r)):=
 ⟨qmf (by decide) (by decide) (qcJ h hk) (by decide),qnw (by decide) (by decide) (qcJ h hk) (by decide) (by decide)⟩
def qpH {k:Nat} {r:PyData} (h:Gd k r) (hk:k<=2) (i:isD 12 r=true):∃ w,zq 10 [r]=some (.bool w)/\(w=true->∃ s,jq 10 [r]=some s/\zc 10 [r]=some s/\(qgS 3).f [s,s]=some (.bool true)):=by
 obtain ⟨w,e,hw⟩:=ql0 (j:=10) (qcJ h hk) (by decide) (by decide) i (qe6 hk h.rt);refine ⟨w,e,λz=>?_⟩;obtain ⟨a,b,c,sz,_⟩:=hw z;obtain ⟨s1,s2⟩:=sz.2.2.2 10 (by decide);exact ⟨_,s1,s2,qgE ⟨by simp,alc trivial (alc trivial (alc trivial al0))⟩⟩
def qhd {i j:Nat} {m:List Bool} {x:Str} {b:Bool} {ρ:Rho}:qbT i j m [.str x,.bool b] ρ=some (.nx ((ρ.set i (.sh (.str x))).set j (.sh (.bool b)))):=id rfl
def qkv:∀ k:Nat,k<=60->qcq.w [.un,.sh (.int k),.un,.un,.un,.un,.un,.un] 0 okW:=by
 intro k hk;unfold qcq;refine jw λY1 h1=>?_
 try simp only [Pu.pwA]
 refine ⟨by omega,λd D dd=>?_⟩;have g0:=qpj D.ok dd
 try simp only [Pu.pwA]
 rw [h1]
 try simp (disch:=omega) only [Pu.pwA,qn1]
 refine qcZ (qcB 0 (20:Int).toNat) RC.mn (λi ρ m=>m<=1000+300*i/\∃ s4 s5 s6 s7,ρ=[.un,.sh (.int k),.un,.sh (dlD d),s4,s5,s6,s7]/\(s5=.un\/∃ z,s5=.sh z)) ⟨by omega,_,_,_,_,rfl,.inl rfl⟩ ?_ ?_
 ·rintro i x ρ m hx ⟨hm,s4,s5,s6,s7,rfl,h5⟩;have hi:i<20:=by have:=(List.getElem?_eq_some_iff.mp hx).1;rw [qob] at this;exact this
  refine ⟨_,rfl,?_⟩;unfold RC;refine jw λZ1 g1=>?_
  try simp only [Pu.pwA]
  refine qoG (L:=60) (B:=100000) (n:=5) (by decide) (by decide) g0.gn (by decide) (by decide) (by omega) λr1 hr1=>?_;have G1:=qhS g0 hr1;rw [KB rfl]
  try simp only [Pu.pwA]
  rw [g1];refine jw λZ2 g2=>?_;have J0:∀ (kk:Nat) (r:PyData) (c:Nat),Gd kk r->kk<=2->c<=1000+300*i+250->Z2 [.un,.sh (.int k),.un,.sh (dlD d),.sh (.int x),.sh r,s6,s7] c (λo m=>match o with|.nx ρ'=>(m<=1000+300*(i+1)/\∃ s4 s5 s6 s7,ρ'=[.un,.sh (.int k),.un,.sh (dlD d),s4,s5,s6,s7]/\(s5=.un\/∃ z,s5=.sh z))|.ct ρ'=>(m<=1000+300*(i+1)/\∃ s4 s5 s6 s7,ρ'=[.un,.sh (.int k),.un,.sh (dlD d),s4,s5,s6,s7]/\(s5=.un\/∃ z,s5=.sh z))|.bk ρ'=>okW (.nx ρ') m|.rt d b=>okW (.rt d b) m):=by
   intro kk r c G hkk hc;obtain ⟨t,et⟩:=qfL G hkk;obtain ⟨i1,i2⟩:=qnR G hkk;have w:=qpH G hkk;rw [g2];refine jw λZ3 g3=>?_
   try simp only [Pu.pwA,RD,WK,et,i1,qhd]
   rw [g3];refine jw λZ4 g4=>?_;cases hb:isD 12 r with
   |false=>
    rw [hb] at i2
    try simp only [Pu.pwA,RD,WK,et,i2,a7,Bool.not_true,Bool.not_false,decide_true,bne_self_eq_false]
    rw [g4]
    try simp only [Pu.pwA]
    exact ⟨by omega,_,_,_,_,rfl,.inr ⟨_,rfl⟩⟩
   |true=>
    rw [hb] at i2;obtain ⟨wb,ew,hw⟩:=w hb
    try simp only [Pu.pwA,RD,WK,et,i2,a7,Bool.not_true,Bool.not_false,decide_true,bne_self_eq_false]
    rw [g4];cases wb with
    |false=>
     try simp only [Pu.pwA,ew]
     exact ⟨by omega,_,_,_,_,rfl,.inr ⟨_,rfl⟩⟩
    |true=>
     obtain ⟨s,e1,e2,e3⟩:=hw rfl
     try simp only [Pu.pwA,ew,e1,e2,e3,Bool.not_true]
     exact ⟨by omega,_,_,_,_,rfl,.inr ⟨_,rfl⟩⟩
  try simp only [Pu.pwA]
  refine ⟨by omega,by omega,λu u0 u1=>?_⟩;by_cases c0:u=0
  ·try simp only [Pu.pwA,c0,decide_true]
   refine qoG (L:=61) (B:=100001) (n:=7) (by decide) (by decide) G1.gn (by decide) (by decide) (by omega) λr2 hr2=>?_;rw [KB rfl];exact J0 2 r2 _ (qhS G1 hr2) (by decide) (by omega)
  ·try simp only [Pu.pwA,c0,decide_false]
   exact J0 1 r1 _ G1 (by decide) (by omega)
 ·rintro ρ m ⟨hm,s4,s5,s6,s7,rfl,h5⟩
  try simp only [Pu.pwA]
end K09
namespace K09
open PySem L2 L3 Bk
abbrev qiD : Env := { scope := PySem.Challenge.pw_bankwalk_k09_whole_dealings_spoilt_anywh.main.scope,locals := mainNs,globals := mainNs,cells := [],code := .ref 13,frame := some 14 }
abbrev qas : List Stmt := PySem.W.behindTheImports PySem.Challenge.pw_bankwalk_k09_whole_dealings_spoilt_anywh
abbrev RI:Code:=.body qas qiD
abbrev qij:List Frame:=[PySem.W.topFrame ⟨0,0,0,0⟩]
def zP:Obj:=Hd.oT []
def ZG:Obj:=⟨.none,none,.fields #[],#[]⟩
def qlM:Obj:=Hd.oC [.str "<module>" 182,.str "<module>" 183,.str "/claim/cut.py" 184,.int (1) 0,.int (0) 0,.int (0) 0,.int (0) 0,.int (0) 0,.ref 11,.bool false,.int (181) 0,.ref 12,.none,.none,.none,.none,.int (185) 0,.int (1) 0,.str "/claim/cut.py" 186]
def qlO:Obj:=⟨.type "frame",none,.plain,#[some (.ref 13),some (.ref 3),some (.ref 3),none,some (.str "__main__" 164),none,some (.ref 0)]⟩
def qhb (P:Params):Heap:=⟨Array.mk [PySem.W.boot_o_0 P,PySem.W.boot_o_1 P,PySem.W.boot_o_2 P,PySem.W.boot_o_3 P,PySem.W.boot_o_4 P,PySem.W.boot_o_5 P,PySem.W.boot_o_6 P,PySem.W.boot_o_7 P,PySem.W.boot_o_8 P,PySem.W.boot_o_9 P,PySem.W.boot_o_10 P,zP,ZG,qlM,qlO],{ }⟩
def qkJ (P:Params):PySem.W.BT:=(Hd.nd (PySem.W.boot_o_0 P) (Hd.nd (PySem.W.boot_o_1 P) (Hd.nd (PySem.W.boot_o_3 P) (Hd.lf (PySem.W.boot_o_7 P)) (Hd.lf zP)) (Hd.nd (PySem.W.boot_o_5 P) (Hd.lf (PySem.W.boot_o_9 P)) (Hd.lf qlM))) (Hd.nd (PySem.W.boot_o_2 P) (Hd.nd (PySem.W.boot_o_4 P) (Hd.lf (PySem.W.boot_o_8 P)) (Hd.lf ZG)) (Hd.nd (PySem.W.boot_o_6 P) (Hd.lf (PySem.W.boot_o_10 P)) (Hd.lf qlO))))
set_option maxRecDepth 100000 in
set_option maxHeartbeats 0 in
def qkD (w : World) (os : OsState) : PySem.W.topGo treeTable PySem.Challenge.pw_bankwalk_k09_whole_dealings_spoilt_anywh w 11 (some (Value.ref 6)) 12 ⟨PySem.W.boot_heap w.params,Array.mk [],PySem.W.boot_drawn,PySem.W.boot_toks,os⟩ (PySem.W.topStub PySem.Challenge.pw_bankwalk_k09_whole_dealings_spoilt_anywh) = some (⟨qhb w.params,#[],{ },187,os⟩,⟨denote treeTable RI,RI,⟨0,0,0,0⟩,qij⟩) := by kernel_rfl
set_option maxRecDepth 100000 in
set_option maxHeartbeats 0 in
def qiL (w : World) (os : OsState) : PySem.W.segRun treeTable PySem.Challenge.pw_bankwalk_k09_whole_dealings_spoilt_anywh w 11 (some (Value.ref 6)) 1 1 ⟨qhb w.params,#[],{ },187,os⟩ (PySem.W.blockOf qas qiD RI ⟨0,0,0,0⟩ qij) = some (.next,(⟨qkJ w.params,15,{ },#[],{ },187,os⟩ : PySem.W.SharedT).abs,RI,⟨0,0,0,0⟩) := by kernel_rfl
def qpp (P:Params):Obj:=Hd.oD P 26 [(.str "__name__" 165,.str "law_bankwalk_k09_whole_dealings_spoilt_anywh" 285),(.str "__doc__" 166,.none),(.str "__package__" 167,.none),(.str "__loader__" 168,.builtin "__main__.__loader__#opaque"),(.str "__spec__" 169,.none),(.str "__annotations__" 170,.ref 6),(.str "__builtins__" 171,.ref 4),(.str "__file__" 173,.str "/claim/cut.py" 172),(.str "__cached__" 174,.none),(.str "is_number" 195,.ref 21),(.str "is_at_least" 203,.ref 28),(.str "are_at_least" 209,.ref 33),(.str "share_no_divisor" 219,.ref 40),(.str "is_skew" 226,.ref 47),(.str "is_rests" 237,.ref 54),(.str "is_bits" 243,.ref 59),(.str "is_bank_row" 249,.ref 64),(.str "is_table" 255,.ref 69),(.str "is_joined" 262,.ref 76),(.str "is_dealing" 270,.ref 83),(.str "size_of" 284,.ref 90),(.str "_law_mix" 295,.ref 97),(.str "_law_left" 305,.ref 104),(.str "_law_pick" 314,.ref 111),(.str "_law_sides" 324,.ref 118),(.str "_law_gcd" 332,.ref 125)]
def qoU:Obj:=⟨.none,none,.fields #[.int (2) 0,.int (0) 0,.ref 20,.int (4) 0,.int (0) 0,.ref 27,.int (6) 0,.int (0) 0,.ref 32,.int (9) 0,.int (0) 0,.ref 39,.int (13) 0,.int (0) 0,.ref 46,.int (15) 0,.int (0) 0,.ref 53,.int (20) 0,.int (0) 0,.ref 58,.int (27) 0,.int (0) 0,.ref 63,.int (31) 0,.int (0) 0,.ref 68,.int (40) 0,.int (0) 0,.ref 75,.int (42) 0,.int (0) 0,.ref 82,.int (55) 0,.int (0) 0,.ref 89,.int (67) 0,.int (0) 0,.ref 96,.int (70) 0,.int (0) 0,.ref 103,.int (74) 0,.int (0) 0,.ref 110,.int (81) 0,.int (0) 0,.ref 117,.int (85) 0,.int (0) 0,.ref 124],#[]⟩
def qoB:Obj:=Hd.oN jR 192
def qoe:Obj:=Hd.oG "is_number" Q1
def qnq:Obj:=Hd.oK "is_number" 189 2 1 181 15 16 .none (.ref 17) (.ref 18) 19 193 194
def qfV:Obj:=Hd.oF "is_number" Q1 (.str "bankwalk.basics" 187) (.ref 20)
def qlb:Obj:=Hd.oN QH 199
def qkb:Obj:=Hd.oG "is_at_least" jJ
def qgP:Obj:=Hd.oK "is_at_least" 196 4 2 181 22 23 .none (.ref 24) (.ref 25) 26 201 202
def qfR:Obj:=Hd.oF "is_at_least" jJ (.str "bankwalk.basics" 187) (.ref 27)
def qlq:Obj:=Hd.oG "are_at_least" jt
def qfI:Obj:=Hd.oK "are_at_least" 204 6 2 181 29 30 .none .none .none 31 207 208
def qgf:Obj:=Hd.oF "are_at_least" jt (.str "bankwalk.basics" 187) (.ref 32)
def qiM:Obj:=Hd.oN zN 215
def qik:Obj:=Hd.oG "share_no_divisor" zD
def qgR:Obj:=Hd.oK "share_no_divisor" 212 9 2 181 34 35 .none (.ref 36) (.ref 37) 38 217 218
def qfu:Obj:=Hd.oF "share_no_divisor" zD (.str "bankwalk.dealings" 210) (.ref 39)
def qhw:Obj:=Hd.oN jR 223
def qkz:Obj:=Hd.oG "is_skew" YC
def qfK:Obj:=Hd.oK "is_skew" 220 13 1 181 41 42 .none (.ref 43) (.ref 44) 45 224 225
def qgc:Obj:=Hd.oF "is_skew" YC (.str "bankwalk.dealings" 210) (.ref 46)
def qhy:Obj:=Hd.oN J3 230
def qg8:Obj:=Hd.oG "is_rests" Z6
def qe5:Obj:=Hd.oK "is_rests" 227 15 1 181 48 49 .none (.ref 50) (.ref 51) 52 235 236
def qgM:Obj:=Hd.oF "is_rests" Z6 (.str "bankwalk.dealings" 210) (.ref 53)
def qiN:Obj:=Hd.oG "is_bits" J2
def qgX:Obj:=Hd.oK "is_bits" 238 20 1 181 55 56 .none .none .none 57 241 242
def qe7:Obj:=Hd.oF "is_bits" J2 (.str "bankwalk.dealings" 210) (.ref 58)
def qhL:Obj:=Hd.oG "is_bank_row" jK
def qfd:Obj:=Hd.oK "is_bank_row" 244 27 3 181 60 61 .none .none .none 62 247 248
def qfN:Obj:=Hd.oF "is_bank_row" jK (.str "bankwalk.dealings" 210) (.ref 63)
def qjH:Obj:=Hd.oG "is_table" JA
def qgx:Obj:=Hd.oK "is_table" 250 31 1 181 65 66 .none .none .none 67 253 254
def qgY:Obj:=Hd.oF "is_table" JA (.str "bankwalk.dealings" 210) (.ref 68)
def qiV:Obj:=Hd.oN jR 259
def qiR:Obj:=Hd.oG "is_joined" Q4
def qeY:Obj:=Hd.oK "is_joined" 256 40 1 181 70 71 .none (.ref 72) (.ref 73) 74 260 261
def qge:Obj:=Hd.oF "is_joined" Q4 (.str "bankwalk.dealings" 210) (.ref 75)
def qjS:Obj:=Hd.oN Q5 266
def qiF:Obj:=Hd.oG "is_dealing" j7
def qf8:Obj:=Hd.oK "is_dealing" 263 42 1 181 77 78 .none (.ref 79) (.ref 80) 81 268 269
def qf9:Obj:=Hd.oF "is_dealing" j7 (.str "bankwalk.dealings" 210) (.ref 82)
def qls:Obj:=Hd.oN VT 274
def qhk:Obj:=Hd.oG "size_of" YD
def qfc:Obj:=Hd.oK "size_of" 271 55 1 181 84 85 .none (.ref 86) (.ref 87) 88 282 283
def qgI:Obj:=Hd.oF "size_of" YD (.str "bankwalk.dealings" 210) (.ref 89)
def qlw:Obj:=Hd.oN WR 290
def qlz:Obj:=Hd.oG "_law_mix" J5
def qf5:Obj:=Hd.oK "_law_mix" 287 67 2 181 91 92 .none (.ref 93) (.ref 94) 95 293 294
def qgd:Obj:=Hd.oF "_law_mix" J5 (.str "law_bankwalk_k09_whole_dealings_spoilt_anywh" 285) (.ref 96)
def qj4:Obj:=Hd.oN DO 299
def qjJ:Obj:=Hd.oG "_law_left" JJ
def qgk:Obj:=Hd.oK "_law_left" 296 70 2 181 98 99 .none (.ref 100) (.ref 101) 102 303 304
def qfH:Obj:=Hd.oF "_law_left" JJ (.str "law_bankwalk_k09_whole_dealings_spoilt_anywh" 285) (.ref 103)
def qhI:Obj:=Hd.oN DE 309
def qjn:Obj:=Hd.oG "_law_pick" JF
def qgu:Obj:=Hd.oK "_law_pick" 306 74 2 181 105 106 .none (.ref 107) (.ref 108) 109 312 313
def qgl:Obj:=Hd.oF "_law_pick" JF (.str "law_bankwalk_k09_whole_dealings_spoilt_anywh" 285) (.ref 110)
def qin:Obj:=Hd.oN UO 318
def qj9:Obj:=Hd.oG "_law_sides" ZC
def qe2:Obj:=Hd.oK "_law_sides" 315 81 1 181 112 113 .none (.ref 114) (.ref 115) 116 322 323
def qe3:Obj:=Hd.oF "_law_sides" ZC (.str "law_bankwalk_k09_whole_dealings_spoilt_anywh" 285) (.ref 117)
def qiw:Obj:=Hd.oN WX 328
def qkF:Obj:=Hd.oG "_law_gcd" J4
def qfA:Obj:=Hd.oK "_law_gcd" 325 85 2 181 119 120 .none (.ref 121) (.ref 122) 123 330 331
def qfJ:Obj:=Hd.oF "_law_gcd" J4 (.str "law_bankwalk_k09_whole_dealings_spoilt_anywh" 285) (.ref 124)
def qhz (P:Params):PySem.W.BT:=(Hd.nd (PySem.W.boot_o_0 P) (Hd.nd (PySem.W.boot_o_1 P) (Hd.nd (qpp P) (Hd.nd (PySem.W.boot_o_7 P) (Hd.nd zP (Hd.nd qlq (Hd.lf qfd) (Hd.lf qlz)) (Hd.nd qgc (Hd.lf qjS) (Hd.lf qgl))) (Hd.nd ZG (Hd.nd qgR (Hd.lf ZG) (Hd.lf qgk)) (Hd.nd zP (Hd.lf zP) (Hd.lf zP)))) (Hd.nd zP (Hd.nd qoe (Hd.nd ZG (Hd.lf qjH) (Hd.lf ZG)) (Hd.nd zP (Hd.lf qf9) (Hd.lf zP))) (Hd.nd qgP (Hd.nd qhw (Hd.lf qeY) (Hd.lf qhI)) (Hd.nd qe7 (Hd.lf zP) (Hd.lf qkF))))) (Hd.nd (PySem.W.boot_o_5 P) (Hd.nd (PySem.W.boot_o_9 P) (Hd.nd qoB (Hd.nd qgf (Hd.lf zP) (Hd.lf qgd)) (Hd.nd ZG (Hd.lf qiF) (Hd.lf ZG))) (Hd.nd zP (Hd.nd zP (Hd.lf zP) (Hd.lf zP)) (Hd.nd qiN (Hd.lf qfc) (Hd.lf qiw)))) (Hd.nd qlM (Hd.nd qfV (Hd.nd zP (Hd.lf qgY) (Hd.lf zP)) (Hd.nd qe5 (Hd.lf ZG) (Hd.lf qe2))) (Hd.nd zP (Hd.nd qkz (Hd.lf zP) (Hd.lf qjn)) (Hd.nd ZG (Hd.lf qlw) (Hd.lf qfJ)))))) (Hd.nd (PySem.W.boot_o_2 P) (Hd.nd (PySem.W.boot_o_4 P) (Hd.nd (PySem.W.boot_o_8 P) (Hd.nd ZG (Hd.nd qfI (Hd.lf qfN) (Hd.lf qf5)) (Hd.nd zP (Hd.lf zP) (Hd.lf zP))) (Hd.nd qlb (Hd.nd qfu (Hd.lf qiV) (Hd.lf qfH)) (Hd.nd ZG (Hd.lf qhk) (Hd.lf ZG)))) (Hd.nd qoU (Hd.nd qnq (Hd.nd qiM (Hd.lf qgx) (Hd.lf qj4)) (Hd.nd qg8 (Hd.lf zP) (Hd.lf qj9))) (Hd.nd qfR (Hd.nd zP (Hd.lf qge) (Hd.lf zP)) (Hd.nd zP (Hd.lf ZG) (Hd.lf qfA))))) (Hd.nd (PySem.W.boot_o_6 P) (Hd.nd (PySem.W.boot_o_10 P) (Hd.nd zP (Hd.nd zP (Hd.lf ZG) (Hd.lf zP)) (Hd.nd qhy (Hd.lf qf8) (Hd.lf qin))) (Hd.nd qkb (Hd.nd ZG (Hd.lf qiR) (Hd.lf ZG)) (Hd.nd qgX (Hd.lf qgI) (Hd.lf zP)))) (Hd.nd qlO (Hd.nd zP (Hd.nd qik (Hd.lf zP) (Hd.lf qjJ)) (Hd.nd qgM (Hd.lf qls) (Hd.lf qe3))) (Hd.nd ZG (Hd.nd qfK (Hd.lf ZG) (Hd.lf qgu)) (Hd.nd qhL (Hd.lf zP) .nil))))))
abbrev qeQ:List Stmt:=(qas.drop 0).take 20
set_option maxRecDepth 100000 in
set_option maxHeartbeats 0 in
def qih (w : World) (os : OsState) : PySem.W.segRunT treeTable PySem.Challenge.pw_bankwalk_k09_whole_dealings_spoilt_anywh w 11 (some (Value.ref 6)) 1 534 (⟨qkJ w.params,15,{ },#[],{ },187,os⟩ : PySem.W.SharedT) (PySem.W.piecesOf qeQ qiD RI ⟨0,0,0,0⟩ qij) = some (.next,(⟨qhz w.params,126,{ },#[],{ },333,os⟩ : PySem.W.SharedT),RI,⟨85,0,88,19⟩) := by kernel_rfl
def qkM (P:Params):Obj:=Hd.oD P 42 [(.str "__name__" 165,.str "law_bankwalk_k09_whole_dealings_spoilt_anywh" 285),(.str "__doc__" 166,.none),(.str "__package__" 167,.none),(.str "__loader__" 168,.builtin "__main__.__loader__#opaque"),(.str "__spec__" 169,.none),(.str "__annotations__" 170,.ref 6),(.str "__builtins__" 171,.ref 4),(.str "__file__" 173,.str "/claim/cut.py" 172),(.str "__cached__" 174,.none),(.str "is_number" 195,.ref 21),(.str "is_at_least" 203,.ref 28),(.str "are_at_least" 209,.ref 33),(.str "share_no_divisor" 219,.ref 40),(.str "is_skew" 226,.ref 47),(.str "is_rests" 237,.ref 54),(.str "is_bits" 243,.ref 59),(.str "is_bank_row" 249,.ref 64),(.str "is_table" 255,.ref 69),(.str "is_joined" 262,.ref 76),(.str "is_dealing" 270,.ref 83),(.str "size_of" 284,.ref 90),(.str "_law_mix" 295,.ref 97),(.str "_law_left" 305,.ref 104),(.str "_law_pick" 314,.ref 111),(.str "_law_sides" 324,.ref 118),(.str "_law_gcd" 332,.ref 125),(.str "_law_skew" 343,.ref 132),(.str "_law_rests" 355,.ref 139),(.str "_law_bits" 361,.ref 144),(.str "_law_table" 367,.ref 149),(.str "_law_small" 373,.ref 154),(.str "_law_dealing" 383,.ref 161),(.str "_law_size" 389,.ref 166),(.str "_law_same" 395,.ref 171),(.str "_law_are" 401,.ref 176),(.str "_law_is_cells" 407,.ref 181),(.str "_law_is" 413,.ref 186),(.str "_law_other_tuple" 425,.ref 193),(.str "_law_other_text" 438,.ref 200),(.str "_law_spoilt" 449,.ref 207),(.str "_law_within" 459,.ref 214),(.str "law" 473,.ref 221)]
def ql3:Obj:=⟨.none,none,.fields #[.int (2) 0,.int (0) 0,.ref 20,.int (4) 0,.int (0) 0,.ref 27,.int (6) 0,.int (0) 0,.ref 32,.int (9) 0,.int (0) 0,.ref 39,.int (13) 0,.int (0) 0,.ref 46,.int (15) 0,.int (0) 0,.ref 53,.int (20) 0,.int (0) 0,.ref 58,.int (27) 0,.int (0) 0,.ref 63,.int (31) 0,.int (0) 0,.ref 68,.int (40) 0,.int (0) 0,.ref 75,.int (42) 0,.int (0) 0,.ref 82,.int (55) 0,.int (0) 0,.ref 89,.int (67) 0,.int (0) 0,.ref 96,.int (70) 0,.int (0) 0,.ref 103,.int (74) 0,.int (0) 0,.ref 110,.int (81) 0,.int (0) 0,.ref 117,.int (85) 0,.int (0) 0,.ref 124,.int (89) 0,.int (0) 0,.ref 131,.int (94) 0,.int (0) 0,.ref 138,.int (102) 0,.int (0) 0,.ref 143,.int (107) 0,.int (0) 0,.ref 148,.int (112) 0,.int (0) 0,.ref 153,.int (130) 0,.int (0) 0,.ref 160,.int (147) 0,.int (0) 0,.ref 165,.int (157) 0,.int (0) 0,.ref 170,.int (165) 0,.int (0) 0,.ref 175,.int (167) 0,.int (0) 0,.ref 180,.int (173) 0,.int (0) 0,.ref 185,.int (193) 0,.int (0) 0,.ref 192,.int (206) 0,.int (0) 0,.ref 199,.int (213) 0,.int (0) 0,.ref 206,.int (226) 0,.int (0) 0,.ref 213,.int (233) 0,.int (0) 0,.ref 220],#[]⟩
def qmQ:Obj:=Hd.oN DQ 336
def qmH:Obj:=Hd.oG "_law_skew" JC
def qj6:Obj:=Hd.oK "_law_skew" 333 89 1 181 126 127 .none (.ref 128) (.ref 129) 130 341 342
def qll:Obj:=Hd.oF "_law_skew" JC (.str "law_bankwalk_k09_whole_dealings_spoilt_anywh" 285) (.ref 131)
def qmR:Obj:=Hd.oN UR 347
def qnh:Obj:=Hd.oG "_law_rests" Q9
def qhO:Obj:=Hd.oK "_law_rests" 344 94 1 181 133 134 .none (.ref 135) (.ref 136) 137 353 354
def qk2:Obj:=Hd.oF "_law_rests" Q9 (.str "law_bankwalk_k09_whole_dealings_spoilt_anywh" 285) (.ref 138)
def qnD:Obj:=Hd.oG "_law_bits" Z0
def qkN:Obj:=Hd.oK "_law_bits" 356 102 2 181 140 141 .none .none .none 142 359 360
def qi4:Obj:=Hd.oF "_law_bits" Z0 (.str "law_bankwalk_k09_whole_dealings_spoilt_anywh" 285) (.ref 143)
def qnn:Obj:=Hd.oG "_law_table" Q7
def qhr:Obj:=Hd.oK "_law_table" 362 107 1 181 145 146 .none .none .none 147 365 366
def qjU:Obj:=Hd.oF "_law_table" Q7 (.str "law_bankwalk_k09_whole_dealings_spoilt_anywh" 285) (.ref 148)
def qnd:Obj:=Hd.oG "_law_small" ZB
def qis:Obj:=Hd.oK "_law_small" 368 112 1 181 150 151 .none .none .none 152 371 372
def qjE:Obj:=Hd.oF "_law_small" ZB (.str "law_bankwalk_k09_whole_dealings_spoilt_anywh" 285) (.ref 153)
def qnu:Obj:=Hd.oN YE 377
def qmO:Obj:=Hd.oG "_law_dealing" jM
def qhx:Obj:=Hd.oK "_law_dealing" 374 130 1 181 155 156 .none (.ref 157) (.ref 158) 159 381 382
def qj5:Obj:=Hd.oF "_law_dealing" jM (.str "law_bankwalk_k09_whole_dealings_spoilt_anywh" 285) (.ref 160)
def qnt:Obj:=Hd.oG "_law_size" Z9
def qk8:Obj:=Hd.oK "_law_size" 384 147 1 181 162 163 .none .none .none 164 387 388
def qkP:Obj:=Hd.oF "_law_size" Z9 (.str "law_bankwalk_k09_whole_dealings_spoilt_anywh" 285) (.ref 165)
def qnX:Obj:=Hd.oG "_law_same" JD
def qh9:Obj:=Hd.oK "_law_same" 390 157 2 181 167 168 .none .none .none 169 393 394
def qjm:Obj:=Hd.oF "_law_same" JD (.str "law_bankwalk_k09_whole_dealings_spoilt_anywh" 285) (.ref 170)
def qja:Obj:=Hd.oG "_law_are" J6
def qdB:Obj:=Hd.oK "_law_are" 396 165 2 181 172 173 .none .none .none 174 399 400
def qc3:Obj:=Hd.oF "_law_are" J6 (.str "law_bankwalk_k09_whole_dealings_spoilt_anywh" 285) (.ref 175)
def qh8:Obj:=Hd.oG "_law_is_cells" jm
def qdU:Obj:=Hd.oK "_law_is_cells" 402 167 2 181 177 178 .none .none .none 179 405 406
def qd8:Obj:=Hd.oF "_law_is_cells" jm (.str "law_bankwalk_k09_whole_dealings_spoilt_anywh" 285) (.ref 180)
def qkQ:Obj:=Hd.oG "_law_is" VX
def qdf:Obj:=Hd.oK "_law_is" 408 173 1 181 182 183 .none .none .none 184 411 412
def qdL:Obj:=Hd.oF "_law_is" VX (.str "law_bankwalk_k09_whole_dealings_spoilt_anywh" 285) (.ref 185)
def qi3:Obj:=Hd.oN zW 417
def qk6:Obj:=Hd.oG "_law_other_tuple" zO
def qeE:Obj:=Hd.oK "_law_other_tuple" 414 193 2 181 187 188 .none (.ref 189) (.ref 190) 191 423 424
def qdm:Obj:=Hd.oF "_law_other_tuple" zO (.str "law_bankwalk_k09_whole_dealings_spoilt_anywh" 285) (.ref 192)
def qim:Obj:=Hd.oN je 429
def qlA:Obj:=Hd.oG "_law_other_text" zY
def qeW:Obj:=Hd.oK "_law_other_text" 426 206 2 181 194 195 .none (.ref 196) (.ref 197) 198 436 437
def qdj:Obj:=Hd.oF "_law_other_text" zY (.str "law_bankwalk_k09_whole_dealings_spoilt_anywh" 285) (.ref 199)
def qlo:Obj:=Hd.oN Q8 442
def qke:Obj:=Hd.oG "_law_spoilt" j9
def qd6:Obj:=Hd.oK "_law_spoilt" 439 213 2 181 201 202 .none (.ref 203) (.ref 204) 205 447 448
def qdX:Obj:=Hd.oF "_law_spoilt" j9 (.str "law_bankwalk_k09_whole_dealings_spoilt_anywh" 285) (.ref 206)
def qlv:Obj:=Hd.oN Q2 453
def qkj:Obj:=Hd.oG "_law_within" QB
def qel:Obj:=Hd.oK "_law_within" 450 226 1 181 208 209 .none (.ref 210) (.ref 211) 212 457 458
def qdE:Obj:=Hd.oF "_law_within" QB (.str "law_bankwalk_k09_whole_dealings_spoilt_anywh" 285) (.ref 213)
def qhY:Obj:=Hd.oN qat 463
def qi2:Obj:=Hd.oG "law" VN
def qdq:Obj:=Hd.oK "law" 460 233 1 181 215 216 .none (.ref 217) (.ref 218) 219 471 472
def qdJ:Obj:=Hd.oF "law" VN (.str "law_bankwalk_k09_whole_dealings_spoilt_anywh" 285) (.ref 220)
def qfx (P:Params):PySem.W.BT:=(Hd.nd (PySem.W.boot_o_0 P) (Hd.nd (PySem.W.boot_o_1 P) (Hd.nd (qkM P) (Hd.nd (PySem.W.boot_o_7 P) (Hd.nd zP (Hd.nd qlq (Hd.nd qfd (Hd.lf ZG) (Hd.lf qk6)) (Hd.nd qlz (Hd.lf qmO) .nil)) (Hd.nd qgc (Hd.nd qjS (Hd.lf qkN) (Hd.lf qdX)) (Hd.nd qgl (Hd.lf qdB) .nil))) (Hd.nd ZG (Hd.nd qgR (Hd.nd ZG (Hd.lf qmR) (Hd.lf qeW)) (Hd.nd qgk (Hd.lf zP) .nil)) (Hd.nd zP (Hd.nd zP (Hd.lf ZG) (Hd.lf zP)) (Hd.nd zP (Hd.lf ZG) .nil)))) (Hd.nd zP (Hd.nd qoe (Hd.nd ZG (Hd.nd qjH (Hd.lf qj6) (Hd.lf ZG)) (Hd.nd ZG (Hd.lf ZG) .nil)) (Hd.nd zP (Hd.nd qf9 (Hd.lf qnn) (Hd.lf zP)) (Hd.nd zP (Hd.lf qh8) .nil))) (Hd.nd qgP (Hd.nd qhw (Hd.nd qeY (Hd.lf qk2) (Hd.lf qlo)) (Hd.nd qhI (Hd.lf qjm) .nil)) (Hd.nd qe7 (Hd.nd zP (Hd.lf zP) (Hd.lf qi2)) (Hd.nd qkF (Hd.lf zP) .nil))))) (Hd.nd (PySem.W.boot_o_5 P) (Hd.nd (PySem.W.boot_o_9 P) (Hd.nd qoB (Hd.nd qgf (Hd.nd zP (Hd.lf zP) (Hd.lf qdm)) (Hd.nd qgd (Hd.lf qj5) .nil)) (Hd.nd ZG (Hd.nd qiF (Hd.lf zP) (Hd.lf ZG)) (Hd.nd ZG (Hd.lf zP) .nil))) (Hd.nd zP (Hd.nd zP (Hd.nd zP (Hd.lf qnh) (Hd.lf zP)) (Hd.nd zP (Hd.lf qnX) .nil)) (Hd.nd qiN (Hd.nd qfc (Hd.lf qis) (Hd.lf qhY)) (Hd.nd qiw (Hd.lf qdf) .nil)))) (Hd.nd qlM (Hd.nd qfV (Hd.nd zP (Hd.nd qgY (Hd.lf zP) (Hd.lf zP)) (Hd.nd zP (Hd.lf qk8) .nil)) (Hd.nd qe5 (Hd.nd ZG (Hd.lf qjU) (Hd.lf qel)) (Hd.nd qe2 (Hd.lf qd8) .nil))) (Hd.nd zP (Hd.nd qkz (Hd.nd zP (Hd.lf ZG) (Hd.lf qke)) (Hd.nd qjn (Hd.lf ZG) .nil)) (Hd.nd ZG (Hd.nd qlw (Hd.lf qnu) (Hd.lf qdJ)) (Hd.nd qfJ (Hd.lf qi3) .nil)))))) (Hd.nd (PySem.W.boot_o_2 P) (Hd.nd (PySem.W.boot_o_4 P) (Hd.nd (PySem.W.boot_o_8 P) (Hd.nd ZG (Hd.nd qfI (Hd.nd qfN (Hd.lf qmQ) (Hd.lf qeE)) (Hd.nd qf5 (Hd.lf qhx) .nil)) (Hd.nd zP (Hd.nd zP (Hd.lf qi4) (Hd.lf zP)) (Hd.nd zP (Hd.lf qc3) .nil))) (Hd.nd qlb (Hd.nd qfu (Hd.nd qiV (Hd.lf zP) (Hd.lf qdj)) (Hd.nd qfH (Hd.lf ZG) .nil)) (Hd.nd ZG (Hd.nd qhk (Hd.lf qnd) (Hd.lf ZG)) (Hd.nd ZG (Hd.lf qkQ) .nil)))) (Hd.nd ql3 (Hd.nd qnq (Hd.nd qiM (Hd.nd qgx (Hd.lf qll) (Hd.lf qim)) (Hd.nd qj4 (Hd.lf qnt) .nil)) (Hd.nd qg8 (Hd.nd zP (Hd.lf qhr) (Hd.lf qkj)) (Hd.nd qj9 (Hd.lf qdU) .nil))) (Hd.nd qfR (Hd.nd zP (Hd.nd qge (Hd.lf zP) (Hd.lf zP)) (Hd.nd zP (Hd.lf zP) .nil)) (Hd.nd zP (Hd.nd ZG (Hd.lf ZG) (Hd.lf qdq)) (Hd.nd qfA (Hd.lf ZG) .nil))))) (Hd.nd (PySem.W.boot_o_6 P) (Hd.nd (PySem.W.boot_o_10 P) (Hd.nd zP (Hd.nd zP (Hd.nd ZG (Hd.lf qmH) (Hd.lf zP)) (Hd.nd zP (Hd.lf zP) .nil)) (Hd.nd qhy (Hd.nd qf8 (Hd.lf ZG) (Hd.lf qlv)) (Hd.nd qin (Hd.lf ZG) .nil))) (Hd.nd qkb (Hd.nd ZG (Hd.nd qiR (Hd.lf qhO) (Hd.lf ZG)) (Hd.nd ZG (Hd.lf qh9) .nil)) (Hd.nd qgX (Hd.nd qgI (Hd.lf qjE) (Hd.lf zP)) (Hd.nd zP (Hd.lf qdL) .nil)))) (Hd.nd qlO (Hd.nd zP (Hd.nd qik (Hd.nd zP (Hd.lf ZG) (Hd.lf qlA)) (Hd.nd qjJ (Hd.lf qkP) .nil)) (Hd.nd qgM (Hd.nd qls (Hd.lf zP) (Hd.lf qdE)) (Hd.nd qe3 (Hd.lf zP) .nil))) (Hd.nd ZG (Hd.nd qfK (Hd.nd ZG (Hd.lf qnD) (Hd.lf qd6)) (Hd.nd qgu (Hd.lf qja) .nil)) (Hd.nd qhL (Hd.nd zP (Hd.lf zP) .nil) (Hd.nd zP (Hd.lf zP) .nil)))))))
abbrev qeT:List Stmt:=(qas.drop 20).take 16
set_option maxRecDepth 100000 in
set_option maxHeartbeats 0 in
def qkc (w : World) (os : OsState) : PySem.W.segRunT treeTable PySem.Challenge.pw_bankwalk_k09_whole_dealings_spoilt_anywh w 11 (some (Value.ref 6)) 1 478 (⟨qhz w.params,126,{ },#[],{ },333,os⟩ : PySem.W.SharedT) (PySem.W.piecesOf qeT qiD RI ⟨85,0,88,19⟩ qij) = some (.next,(⟨qfx w.params,222,{ },#[],{ },474,os⟩ : PySem.W.SharedT),RI,⟨233,0,246,15⟩) := by kernel_rfl
abbrev qgo (P:Params):Heap:=PySem.W.absHeap (qfx P) 222 { }
def Kf (P:Params):PySem.W.Frag:=[(3,qkM P),(20,qnq),(21,qfV),(27,qgP),(28,qfR),(32,qfI),(33,qgf),(39,qgR),(40,qfu),(46,qfK),(47,qgc),(53,qe5),(54,qgM),(58,qgX),(59,qe7),(63,qfd),(64,qfN),(68,qgx),(69,qgY),(75,qeY),(76,qge),(82,qf8),(83,qf9),(89,qfc),(90,qgI),(96,qf5),(97,qgd),(103,qgk),(104,qfH),(110,qgu),(111,qgl),(117,qe2),(118,qe3),(124,qfA),(125,qfJ),(131,qj6),(132,qll),(138,qhO),(139,qk2),(143,qkN),(144,qi4),(148,qhr),(149,qjU),(153,qis),(154,qjE),(160,qhx),(161,qj5),(165,qk8),(166,qkP),(170,qh9),(171,qjm),(175,qdB),(176,qc3),(180,qdU),(181,qd8),(185,qdf),(186,qdL),(192,qeE),(193,qdm),(199,qeW),(200,qdj),(206,qd6),(207,qdX),(213,qel),(214,qdE),(220,qdq),(221,qdJ)]
def qiU {l:PySem.W.OpenLaw} {w:World} {h:Heap} {mg:Str->Option Value} {fa:Addr} (X:(Kf w.params).In h) (G:h.Ns mainGlobals mg) (hfa:mg "law" = some (.ref fa)) :
  ∃ fd:FuncData,(∀ (s:Shared) (v:Value),BindsTo s fd ⟨[v],[]⟩ [("_law_script",v)])/\∀ base:Heap,(Kf w.params).In base->base.Ns mainGlobals mg->FnOk l.prog w (Kf w.params) mg base CX0 29 fa fd ["_law_script"] (lSp (Kf w.params) CU):=by
 have e:=hfa.symm.trans (Hd.jH X G "law" (.ref 221) (by kernel_rfl));cases e;have F0:=Hd.jI (K:=Kf w.params) "is_number" Q1 21 (.str "bankwalk.basics" 187) (.ref 20) (by kernel_rfl) (by kernel_rfl) (by kernel_rfl);have b0:=F0.binds (ps:=UM) λ_ _ _ _ _ _ us hl=>by obtain ⟨_,rfl⟩:=Pu.SA hl;rfl
 have m0:=Hd.jH X G "is_number" (.ref 21) (by kernel_rfl);have F1:=Hd.jI (K:=Kf w.params) "is_at_least" jJ 28 (.str "bankwalk.basics" 187) (.ref 27) (by kernel_rfl) (by kernel_rfl) (by kernel_rfl);have b1:=F1.binds (ps:=YI) λ_ _ _ _ _ _ us hl=>by obtain ⟨_,_,rfl⟩:=Pu.T3 hl;rfl
 have m1:=Hd.jH X G "is_at_least" (.ref 28) (by kernel_rfl);have F2:=Hd.jI (K:=Kf w.params) "are_at_least" jt 33 (.str "bankwalk.basics" 187) (.ref 32) (by kernel_rfl) (by kernel_rfl) (by kernel_rfl);have b2:=F2.binds (ps:=JX) λ_ _ _ _ _ _ us hl=>by obtain ⟨_,_,rfl⟩:=Pu.T3 hl;rfl
 have m2:=Hd.jH X G "are_at_least" (.ref 33) (by kernel_rfl);have F3:=Hd.jI (K:=Kf w.params) "share_no_divisor" zD 40 (.str "bankwalk.dealings" 210) (.ref 39) (by kernel_rfl) (by kernel_rfl) (by kernel_rfl);have b3:=F3.binds (ps:=QC) λ_ _ _ _ _ _ us hl=>by obtain ⟨_,_,rfl⟩:=Pu.T3 hl;rfl
 have m3:=Hd.jH X G "share_no_divisor" (.ref 40) (by kernel_rfl);have F4:=Hd.jI (K:=Kf w.params) "is_skew" YC 47 (.str "bankwalk.dealings" 210) (.ref 46) (by kernel_rfl) (by kernel_rfl) (by kernel_rfl);have b4:=F4.binds (ps:=WQ) λ_ _ _ _ _ _ us hl=>by obtain ⟨_,rfl⟩:=Pu.SA hl;rfl
 have m4:=Hd.jH X G "is_skew" (.ref 47) (by kernel_rfl);have F5:=Hd.jI (K:=Kf w.params) "is_rests" Z6 54 (.str "bankwalk.dealings" 210) (.ref 53) (by kernel_rfl) (by kernel_rfl) (by kernel_rfl);have b5:=F5.binds (ps:=DR) λ_ _ _ _ _ _ us hl=>by obtain ⟨_,rfl⟩:=Pu.SA hl;rfl
 have m5:=Hd.jH X G "is_rests" (.ref 54) (by kernel_rfl);have F6:=Hd.jI (K:=Kf w.params) "is_bits" J2 59 (.str "bankwalk.dealings" 210) (.ref 58) (by kernel_rfl) (by kernel_rfl) (by kernel_rfl);have b6:=F6.binds (ps:=W5) λ_ _ _ _ _ _ us hl=>by obtain ⟨_,rfl⟩:=Pu.SA hl;rfl
 have m6:=Hd.jH X G "is_bits" (.ref 59) (by kernel_rfl);have F7:=Hd.jI (K:=Kf w.params) "is_bank_row" jK 64 (.str "bankwalk.dealings" 210) (.ref 63) (by kernel_rfl) (by kernel_rfl) (by kernel_rfl);have b7:=F7.binds (ps:=YG) λ_ _ _ _ _ _ us hl=>by obtain ⟨_,_,_,rfl⟩:=Pu.qpa hl;rfl
 have m7:=Hd.jH X G "is_bank_row" (.ref 64) (by kernel_rfl);have F8:=Hd.jI (K:=Kf w.params) "is_table" JA 69 (.str "bankwalk.dealings" 210) (.ref 68) (by kernel_rfl) (by kernel_rfl) (by kernel_rfl);have b8:=F8.binds (ps:=DT) λ_ _ _ _ _ _ us hl=>by obtain ⟨_,rfl⟩:=Pu.SA hl;rfl
 have m8:=Hd.jH X G "is_table" (.ref 69) (by kernel_rfl);have F9:=Hd.jI (K:=Kf w.params) "is_joined" Q4 76 (.str "bankwalk.dealings" 210) (.ref 75) (by kernel_rfl) (by kernel_rfl) (by kernel_rfl);have b9:=F9.binds (ps:=UZ) λ_ _ _ _ _ _ us hl=>by obtain ⟨_,rfl⟩:=Pu.SA hl;rfl
 have m9:=Hd.jH X G "is_joined" (.ref 76) (by kernel_rfl);have F10:=Hd.jI (K:=Kf w.params) "is_dealing" j7 83 (.str "bankwalk.dealings" 210) (.ref 82) (by kernel_rfl) (by kernel_rfl) (by kernel_rfl);have b10:=F10.binds (ps:=VU) λ_ _ _ _ _ _ us hl=>by obtain ⟨_,rfl⟩:=Pu.SA hl;rfl
 have m10:=Hd.jH X G "is_dealing" (.ref 83) (by kernel_rfl);have F11:=Hd.jI (K:=Kf w.params) "size_of" YD 90 (.str "bankwalk.dealings" 210) (.ref 89) (by kernel_rfl) (by kernel_rfl) (by kernel_rfl);have b11:=F11.binds (ps:=XW) λ_ _ _ _ _ _ us hl=>by obtain ⟨_,rfl⟩:=Pu.SA hl;rfl
 have m11:=Hd.jH X G "size_of" (.ref 90) (by kernel_rfl);have F12:=Hd.jI (K:=Kf w.params) "_law_mix" J5 97 (.str "law_bankwalk_k09_whole_dealings_spoilt_anywh" 285) (.ref 96) (by kernel_rfl) (by kernel_rfl) (by kernel_rfl);have b12:=F12.binds (ps:=XO) λ_ _ _ _ _ _ us hl=>by obtain ⟨_,_,rfl⟩:=Pu.T3 hl;rfl
 have m12:=Hd.jH X G "_law_mix" (.ref 97) (by kernel_rfl);have F13:=Hd.jI (K:=Kf w.params) "_law_left" JJ 104 (.str "law_bankwalk_k09_whole_dealings_spoilt_anywh" 285) (.ref 103) (by kernel_rfl) (by kernel_rfl) (by kernel_rfl);have b13:=F13.binds (ps:=DS) λ_ _ _ _ _ _ us hl=>by obtain ⟨_,_,rfl⟩:=Pu.T3 hl;rfl
 have m13:=Hd.jH X G "_law_left" (.ref 104) (by kernel_rfl);have F14:=Hd.jI (K:=Kf w.params) "_law_pick" JF 111 (.str "law_bankwalk_k09_whole_dealings_spoilt_anywh" 285) (.ref 110) (by kernel_rfl) (by kernel_rfl) (by kernel_rfl);have b14:=F14.binds (ps:=DP) λ_ _ _ _ _ _ us hl=>by obtain ⟨_,_,rfl⟩:=Pu.T3 hl;rfl
 have m14:=Hd.jH X G "_law_pick" (.ref 111) (by kernel_rfl);have F15:=Hd.jI (K:=Kf w.params) "_law_sides" ZC 118 (.str "law_bankwalk_k09_whole_dealings_spoilt_anywh" 285) (.ref 117) (by kernel_rfl) (by kernel_rfl) (by kernel_rfl);have b15:=F15.binds (ps:=UP) λ_ _ _ _ _ _ us hl=>by obtain ⟨_,rfl⟩:=Pu.SA hl;rfl
 have m15:=Hd.jH X G "_law_sides" (.ref 118) (by kernel_rfl);have F16:=Hd.jI (K:=Kf w.params) "_law_gcd" J4 125 (.str "law_bankwalk_k09_whole_dealings_spoilt_anywh" 285) (.ref 124) (by kernel_rfl) (by kernel_rfl) (by kernel_rfl);have b16:=F16.binds (ps:=WN) λ_ _ _ _ _ _ us hl=>by obtain ⟨_,_,rfl⟩:=Pu.T3 hl;rfl
 have m16:=Hd.jH X G "_law_gcd" (.ref 125) (by kernel_rfl);have F17:=Hd.jI (K:=Kf w.params) "_law_skew" JC 132 (.str "law_bankwalk_k09_whole_dealings_spoilt_anywh" 285) (.ref 131) (by kernel_rfl) (by kernel_rfl) (by kernel_rfl);have b17:=F17.binds (ps:=DK) λ_ _ _ _ _ _ us hl=>by obtain ⟨_,rfl⟩:=Pu.SA hl;rfl
 have m17:=Hd.jH X G "_law_skew" (.ref 132) (by kernel_rfl);have F18:=Hd.jI (K:=Kf w.params) "_law_rests" Q9 139 (.str "law_bankwalk_k09_whole_dealings_spoilt_anywh" 285) (.ref 138) (by kernel_rfl) (by kernel_rfl) (by kernel_rfl);have b18:=F18.binds (ps:=UN) λ_ _ _ _ _ _ us hl=>by obtain ⟨_,rfl⟩:=Pu.SA hl;rfl
 have m18:=Hd.jH X G "_law_rests" (.ref 139) (by kernel_rfl);have F19:=Hd.jI (K:=Kf w.params) "_law_bits" Z0 144 (.str "law_bankwalk_k09_whole_dealings_spoilt_anywh" 285) (.ref 143) (by kernel_rfl) (by kernel_rfl) (by kernel_rfl);have b19:=F19.binds (ps:=DN) λ_ _ _ _ _ _ us hl=>by obtain ⟨_,_,rfl⟩:=Pu.T3 hl;rfl
 have m19:=Hd.jH X G "_law_bits" (.ref 144) (by kernel_rfl);have F20:=Hd.jI (K:=Kf w.params) "_law_table" Q7 149 (.str "law_bankwalk_k09_whole_dealings_spoilt_anywh" 285) (.ref 148) (by kernel_rfl) (by kernel_rfl) (by kernel_rfl);have b20:=F20.binds (ps:=UU) λ_ _ _ _ _ _ us hl=>by obtain ⟨_,rfl⟩:=Pu.SA hl;rfl
 have m20:=Hd.jH X G "_law_table" (.ref 149) (by kernel_rfl);have F21:=Hd.jI (K:=Kf w.params) "_law_small" ZB 154 (.str "law_bankwalk_k09_whole_dealings_spoilt_anywh" 285) (.ref 153) (by kernel_rfl) (by kernel_rfl) (by kernel_rfl);have b21:=F21.binds (ps:=UL) λ_ _ _ _ _ _ us hl=>by obtain ⟨_,rfl⟩:=Pu.SA hl;rfl
 have m21:=Hd.jH X G "_law_small" (.ref 154) (by kernel_rfl);have F22:=Hd.jI (K:=Kf w.params) "_law_dealing" jM 161 (.str "law_bankwalk_k09_whole_dealings_spoilt_anywh" 285) (.ref 160) (by kernel_rfl) (by kernel_rfl) (by kernel_rfl);have b22:=F22.binds (ps:=YN) λ_ _ _ _ _ _ us hl=>by obtain ⟨_,rfl⟩:=Pu.SA hl;rfl
 have m22:=Hd.jH X G "_law_dealing" (.ref 161) (by kernel_rfl);have F23:=Hd.jI (K:=Kf w.params) "_law_size" Z9 166 (.str "law_bankwalk_k09_whole_dealings_spoilt_anywh" 285) (.ref 165) (by kernel_rfl) (by kernel_rfl) (by kernel_rfl);have b23:=F23.binds (ps:=DM) λ_ _ _ _ _ _ us hl=>by obtain ⟨_,rfl⟩:=Pu.SA hl;rfl
 have m23:=Hd.jH X G "_law_size" (.ref 166) (by kernel_rfl);have F24:=Hd.jI (K:=Kf w.params) "_law_same" JD 171 (.str "law_bankwalk_k09_whole_dealings_spoilt_anywh" 285) (.ref 170) (by kernel_rfl) (by kernel_rfl) (by kernel_rfl);have b24:=F24.binds (ps:=DW) λ_ _ _ _ _ _ us hl=>by obtain ⟨_,_,rfl⟩:=Pu.T3 hl;rfl
 have m24:=Hd.jH X G "_law_same" (.ref 171) (by kernel_rfl);have F25:=Hd.jI (K:=Kf w.params) "_law_are" J6 176 (.str "law_bankwalk_k09_whole_dealings_spoilt_anywh" 285) (.ref 175) (by kernel_rfl) (by kernel_rfl) (by kernel_rfl);have b25:=F25.binds (ps:=W0) λ_ _ _ _ _ _ us hl=>by obtain ⟨_,_,rfl⟩:=Pu.T3 hl;rfl
 have m25:=Hd.jH X G "_law_are" (.ref 176) (by kernel_rfl);have F26:=Hd.jI (K:=Kf w.params) "_law_is_cells" jm 181 (.str "law_bankwalk_k09_whole_dealings_spoilt_anywh" 285) (.ref 180) (by kernel_rfl) (by kernel_rfl) (by kernel_rfl);have b26:=F26.binds (ps:=JV) λ_ _ _ _ _ _ us hl=>by obtain ⟨_,_,rfl⟩:=Pu.T3 hl;rfl
 have m26:=Hd.jH X G "_law_is_cells" (.ref 181) (by kernel_rfl);have F27:=Hd.jI (K:=Kf w.params) "_law_is" VX 186 (.str "law_bankwalk_k09_whole_dealings_spoilt_anywh" 285) (.ref 185) (by kernel_rfl) (by kernel_rfl) (by kernel_rfl);have b27:=F27.binds (ps:=R5) λ_ _ _ _ _ _ us hl=>by obtain ⟨_,rfl⟩:=Pu.SA hl;rfl
 have m27:=Hd.jH X G "_law_is" (.ref 186) (by kernel_rfl);have F28:=Hd.jI (K:=Kf w.params) "_law_other_tuple" zO 193 (.str "law_bankwalk_k09_whole_dealings_spoilt_anywh" 285) (.ref 192) (by kernel_rfl) (by kernel_rfl) (by kernel_rfl);have b28:=F28.binds (ps:=QM) λ_ _ _ _ _ _ us hl=>by obtain ⟨_,_,rfl⟩:=Pu.T3 hl;rfl
 have m28:=Hd.jH X G "_law_other_tuple" (.ref 193) (by kernel_rfl);have F29:=Hd.jI (K:=Kf w.params) "_law_other_text" zY 200 (.str "law_bankwalk_k09_whole_dealings_spoilt_anywh" 285) (.ref 199) (by kernel_rfl) (by kernel_rfl) (by kernel_rfl);have b29:=F29.binds (ps:=ZH) λ_ _ _ _ _ _ us hl=>by obtain ⟨_,_,rfl⟩:=Pu.T3 hl;rfl
 have m29:=Hd.jH X G "_law_other_text" (.ref 200) (by kernel_rfl);have F30:=Hd.jI (K:=Kf w.params) "_law_spoilt" j9 207 (.str "law_bankwalk_k09_whole_dealings_spoilt_anywh" 285) (.ref 206) (by kernel_rfl) (by kernel_rfl) (by kernel_rfl);have b30:=F30.binds (ps:=VP) λ_ _ _ _ _ _ us hl=>by obtain ⟨_,_,rfl⟩:=Pu.T3 hl;rfl
 have m30:=Hd.jH X G "_law_spoilt" (.ref 207) (by kernel_rfl);have F31:=Hd.jI (K:=Kf w.params) "_law_within" QB 214 (.str "law_bankwalk_k09_whole_dealings_spoilt_anywh" 285) (.ref 213) (by kernel_rfl) (by kernel_rfl) (by kernel_rfl);have b31:=F31.binds (ps:=VW) λ_ _ _ _ _ _ us hl=>by obtain ⟨_,rfl⟩:=Pu.SA hl;rfl
 have m31:=Hd.jH X G "_law_within" (.ref 214) (by kernel_rfl);have F32:=Hd.jI (K:=Kf w.params) "law" VN 221 (.str "law_bankwalk_k09_whole_dealings_spoilt_anywh" 285) (.ref 220) (by kernel_rfl) (by kernel_rfl) (by kernel_rfl);have g_isinstance:=Hd.U8 X G "isinstance" (by kernel_rfl);have g_bool:=Hd.U8 X G "bool" (by kernel_rfl);have g_int:=Hd.U8 X G "int" (by kernel_rfl);have g_all:=Hd.U8 X G "all" (by kernel_rfl);have g_len:=Hd.U8 X G "len" (by kernel_rfl);have g_tuple:=Hd.U8 X G "tuple" (by kernel_rfl);have g_abs:=Hd.U8 X G "abs" (by kernel_rfl);have g_range:=Hd.U8 X G "range" (by kernel_rfl);have g_zip:=Hd.U8 X G "zip" (by kernel_rfl);have g_list:=Hd.U8 X G "list" (by kernel_rfl);have g_str:=Hd.U8 X G "str" (by kernel_rfl);have g_max:=Hd.U8 X G "max" (by kernel_rfl);have g_min:=Hd.U8 X G "min" (by kernel_rfl);have g_repr:=Hd.U8 X G "repr" (by kernel_rfl);refine ⟨PySem.W.fnOf "law" "law" (YR VN) (QF VN) (qk VN) .none .none .none (.str "law_bankwalk_k09_whole_dealings_spoilt_anywh" 285) none (.ref 220) .none,λs v=>.of_eq rfl,λbase _ _=>?_⟩;have O_is_number:=SM (P:=l.prog) (w:=w) (base:=base) (k:=0) F0 b0 m0  g_isinstance g_bool g_int S6;have O_is_at_least:=X6 (P:=l.prog) (w:=w) (base:=base) (k:=1) F1 b1 m1 O_is_number  CC;have O_are_at_least:=XD (P:=l.prog) (w:=w) (base:=base) (k:=2) F2 b2 m2 O_is_at_least g_all XF;have O_share_no_divisor:=UK (P:=l.prog) (w:=w) (base:=base) (k:=0) F3 b3 m3   U0;have O_is_skew:=M5 (P:=l.prog) (w:=w) (base:=base) (k:=3) F4 b4 m4 O_are_at_least g_len MY;have O_is_rests:=KY (P:=l.prog) (w:=w) (base:=base) (k:=3) F5 b5 m5 O_are_at_least (O_share_no_divisor.mono (by decide)) g_len KD;have O_is_bits:=M0 (P:=l.prog) (w:=w) (base:=base) (k:=3) F6 b6 m6 O_are_at_least g_len g_isinstance g_tuple g_all M9;have O_is_bank_row:=CH (P:=l.prog) (w:=w) (base:=base) (k:=3) F7 b7 m7 O_are_at_least g_len g_isinstance g_tuple g_all CI;have O_is_table:=T6 (P:=l.prog) (w:=w) (base:=base) (k:=4) F8 b8 m8 (O_is_at_least.mono (by decide)) O_is_bank_row g_len g_isinstance g_tuple g_all KL;have O_law_mix:=M7 (P:=l.prog) (w:=w) (base:=base) (k:=0) F12 b12 m12   Bk.NL;have O_law_left:=KZ (P:=l.prog) (w:=w) (base:=base) (k:=0) F13 b13 m13  g_len g_abs Bk.KT;have O_law_pick:=KF (P:=l.prog) (w:=w) (base:=base) (k:=1) F14 b14 m14 O_law_mix  Bk.T5;have O_law_sides:=TU (P:=l.prog) (w:=w) (base:=base) (k:=2) F15 b15 m15 O_law_pick  Bk.SF;have O_law_gcd:=NP (P:=l.prog) (w:=w) (base:=base) (k:=0) F16 b16 m16   Bk.NC;have O_law_skew:=T1 (P:=l.prog) (w:=w) (base:=base) (k:=3) F17 b17 m17 O_law_sides (O_law_pick.mono (by decide))  Bk.T4;have O_law_rests:=TF (P:=l.prog) (w:=w) (base:=base) (k:=3) F18 b18 m18 O_law_sides (O_law_pick.mono (by decide)) (O_law_gcd.mono (by decide)) g_range Bk.SN;have O_law_bits:=K5 (P:=l.prog) (w:=w) (base:=base) (k:=2) F19 b19 m19 O_law_pick g_range g_tuple Bk.KU;have O_law_table:=SE (P:=l.prog) (w:=w) (base:=base) (k:=3) F20 b20 m20 O_law_sides (O_law_pick.mono (by decide)) g_range g_tuple Bk.SO;have O_law_small:=SV (P:=l.prog) (w:=w) (base:=base) (k:=2) F21 b21 m21 O_law_pick (O_law_gcd.mono (by decide)) g_range g_tuple Bk.SG;have O_law_dealing:=CF (P:=l.prog) (w:=w) (base:=base) (k:=4) F22 b22 m22 (O_law_pick.mono (by decide)) O_law_skew O_law_rests (O_law_bits.mono (by decide)) O_law_table (O_law_small.mono (by decide))  Bk.CL;have O_law_are:=M2 (P:=l.prog) (w:=w) (base:=base) (k:=0) F25 b25 m25  g_isinstance g_bool g_int g_all NE;have O_law_is_cells:=WS (P:=l.prog) (w:=w) (base:=base) (k:=1) F26 b26 m26 O_law_are g_isinstance g_tuple g_all g_len g_max W8;have O_law_other_tuple:=EB (P:=l.prog) (w:=w) (base:=base) (k:=2) F28 b28 m28 O_law_pick g_len g_list ES;have O_law_other_text:=EX (P:=l.prog) (w:=w) (base:=base) (k:=2) F29 b29 m29 O_law_pick g_len g_int DG;have O_is_dealing_0:=Pu.Fn3.pz (YM (P:=l.prog) (w:=w) (base:=base) F10 b10 m10) false;have O_is_joined_1:=qZ (P:=l.prog) (w:=w) (base:=base) (k:=0) F9 b9 m9 O_is_dealing_0 g_len (zb (qr 0));have O_is_dealing_1:=qS (P:=l.prog) (w:=w) (base:=base) (k:=5) F10 b10 m10 (O_is_skew.mono (by decide)) (O_is_rests.mono (by decide)) (O_is_bits.mono (by decide)) O_is_table (O_is_joined_1.mono (by decide)) g_len g_isinstance g_tuple (qR 0);have O_is_joined_2:=qZ (P:=l.prog) (w:=w) (base:=base) (k:=6) F9 b9 m9 O_is_dealing_1 g_len (zb (qr 1));have O_is_dealing_2:=qS (P:=l.prog) (w:=w) (base:=base) (k:=7) F10 b10 m10 (O_is_skew.mono (by decide)) (O_is_rests.mono (by decide)) (O_is_bits.mono (by decide)) (O_is_table.mono (by decide)) O_is_joined_2 g_len g_isinstance g_tuple (qR 1);have O_is_joined_3:=qZ (P:=l.prog) (w:=w) (base:=base) (k:=8) F9 b9 m9 O_is_dealing_2 g_len (zb (qr 2));have O_is_dealing_3:=qS (P:=l.prog) (w:=w) (base:=base) (k:=9) F10 b10 m10 (O_is_skew.mono (by decide)) (O_is_rests.mono (by decide)) (O_is_bits.mono (by decide)) (O_is_table.mono (by decide)) O_is_joined_3 g_len g_isinstance g_tuple (qR 2);have O_is_joined_4:=qZ (P:=l.prog) (w:=w) (base:=base) (k:=10) F9 b9 m9 O_is_dealing_3 g_len (zb (qr 3));have O_is_dealing_4:=qS (P:=l.prog) (w:=w) (base:=base) (k:=11) F10 b10 m10 (O_is_skew.mono (by decide)) (O_is_rests.mono (by decide)) (O_is_bits.mono (by decide)) (O_is_table.mono (by decide)) O_is_joined_4 g_len g_isinstance g_tuple (qR 3);have O_is_joined_5:=qZ (P:=l.prog) (w:=w) (base:=base) (k:=12) F9 b9 m9 O_is_dealing_4 g_len (zb (qr 4));have O_is_dealing_5:=qS (P:=l.prog) (w:=w) (base:=base) (k:=13) F10 b10 m10 (O_is_skew.mono (by decide)) (O_is_rests.mono (by decide)) (O_is_bits.mono (by decide)) (O_is_table.mono (by decide)) O_is_joined_5 g_len g_isinstance g_tuple (qR 4);have O_is_joined_6:=qZ (P:=l.prog) (w:=w) (base:=base) (k:=14) F9 b9 m9 O_is_dealing_5 g_len (zb (qr 5));have O_is_dealing_6:=qS (P:=l.prog) (w:=w) (base:=base) (k:=15) F10 b10 m10 (O_is_skew.mono (by decide)) (O_is_rests.mono (by decide)) (O_is_bits.mono (by decide)) (O_is_table.mono (by decide)) O_is_joined_6 g_len g_isinstance g_tuple (qR 5);have O_is_joined_7:=qZ (P:=l.prog) (w:=w) (base:=base) (k:=16) F9 b9 m9 O_is_dealing_6 g_len (zb (qr 6));have O_is_dealing_7:=qS (P:=l.prog) (w:=w) (base:=base) (k:=17) F10 b10 m10 (O_is_skew.mono (by decide)) (O_is_rests.mono (by decide)) (O_is_bits.mono (by decide)) (O_is_table.mono (by decide)) O_is_joined_7 g_len g_isinstance g_tuple (qR 6);have O_is_joined_8:=qZ (P:=l.prog) (w:=w) (base:=base) (k:=18) F9 b9 m9 O_is_dealing_7 g_len (zb (qr 7));have O_is_dealing_8:=qS (P:=l.prog) (w:=w) (base:=base) (k:=19) F10 b10 m10 (O_is_skew.mono (by decide)) (O_is_rests.mono (by decide)) (O_is_bits.mono (by decide)) (O_is_table.mono (by decide)) O_is_joined_8 g_len g_isinstance g_tuple (qR 7);have O_is_joined_9:=qZ (P:=l.prog) (w:=w) (base:=base) (k:=20) F9 b9 m9 O_is_dealing_8 g_len (zb (qr 8));have O_is_dealing_9:=qS (P:=l.prog) (w:=w) (base:=base) (k:=21) F10 b10 m10 (O_is_skew.mono (by decide)) (O_is_rests.mono (by decide)) (O_is_bits.mono (by decide)) (O_is_table.mono (by decide)) O_is_joined_9 g_len g_isinstance g_tuple (qR 8);have O_is_joined_10:=qZ (P:=l.prog) (w:=w) (base:=base) (k:=22) F9 b9 m9 O_is_dealing_9 g_len (zb (qr 9));have O_is_dealing_10:=qS (P:=l.prog) (w:=w) (base:=base) (k:=23) F10 b10 m10 (O_is_skew.mono (by decide)) (O_is_rests.mono (by decide)) (O_is_bits.mono (by decide)) (O_is_table.mono (by decide)) O_is_joined_10 g_len g_isinstance g_tuple (qR 9);have O_is_joined_11:=qZ (P:=l.prog) (w:=w) (base:=base) (k:=24) F9 b9 m9 O_is_dealing_10 g_len (zb (qr 10));have O_is_dealing_11:=qS (P:=l.prog) (w:=w) (base:=base) (k:=25) F10 b10 m10 (O_is_skew.mono (by decide)) (O_is_rests.mono (by decide)) (O_is_bits.mono (by decide)) (O_is_table.mono (by decide)) O_is_joined_11 g_len g_isinstance g_tuple (qR 10);have O_is_joined_12:=qZ (P:=l.prog) (w:=w) (base:=base) (k:=26) F9 b9 m9 O_is_dealing_11 g_len (zb (qr 11));have O_is_dealing_12:=qS (P:=l.prog) (w:=w) (base:=base) (k:=27) F10 b10 m10 (O_is_skew.mono (by decide)) (O_is_rests.mono (by decide)) (O_is_bits.mono (by decide)) (O_is_table.mono (by decide)) O_is_joined_12 g_len g_isinstance g_tuple (qR 11);have O_size_of_0:=Pu.Fn3.pz (YM (P:=l.prog) (w:=w) (base:=base) F11 b11 m11) false;have O_size_of_1:=jh (P:=l.prog) (w:=w) (base:=base) (k:=0) F11 b11 m11 O_size_of_0 g_len (jg 0);have O_size_of_2:=jh (P:=l.prog) (w:=w) (base:=base) (k:=1) F11 b11 m11 O_size_of_1 g_len (jg 1);have O_size_of_3:=jh (P:=l.prog) (w:=w) (base:=base) (k:=2) F11 b11 m11 O_size_of_2 g_len (jg 2);have O_size_of_4:=jh (P:=l.prog) (w:=w) (base:=base) (k:=3) F11 b11 m11 O_size_of_3 g_len (jg 3);have O_size_of_5:=jh (P:=l.prog) (w:=w) (base:=base) (k:=4) F11 b11 m11 O_size_of_4 g_len (jg 4);have O_size_of_6:=jh (P:=l.prog) (w:=w) (base:=base) (k:=5) F11 b11 m11 O_size_of_5 g_len (jg 5);have O_size_of_7:=jh (P:=l.prog) (w:=w) (base:=base) (k:=6) F11 b11 m11 O_size_of_6 g_len (jg 6);have O_size_of_8:=jh (P:=l.prog) (w:=w) (base:=base) (k:=7) F11 b11 m11 O_size_of_7 g_len (jg 7);have O_size_of_9:=jh (P:=l.prog) (w:=w) (base:=base) (k:=8) F11 b11 m11 O_size_of_8 g_len (jg 8);have O_size_of_10:=jh (P:=l.prog) (w:=w) (base:=base) (k:=9) F11 b11 m11 O_size_of_9 g_len (jg 9);have O_law_size_0:=Pu.Fn3.pz (YM (P:=l.prog) (w:=w) (base:=base) F23 b23 m23) false;have O_law_size_1:=zQ (P:=l.prog) (w:=w) (base:=base) (k:=0) F23 b23 m23 O_law_size_0 g_len g_zip g_tuple (zR 0);have O_law_size_2:=zQ (P:=l.prog) (w:=w) (base:=base) (k:=1) F23 b23 m23 O_law_size_1 g_len g_zip g_tuple (zR 1);have O_law_size_3:=zQ (P:=l.prog) (w:=w) (base:=base) (k:=2) F23 b23 m23 O_law_size_2 g_len g_zip g_tuple (zR 2);have O_law_size_4:=zQ (P:=l.prog) (w:=w) (base:=base) (k:=3) F23 b23 m23 O_law_size_3 g_len g_zip g_tuple (zR 3);have O_law_size_5:=zQ (P:=l.prog) (w:=w) (base:=base) (k:=4) F23 b23 m23 O_law_size_4 g_len g_zip g_tuple (zR 4);have O_law_size_6:=zQ (P:=l.prog) (w:=w) (base:=base) (k:=5) F23 b23 m23 O_law_size_5 g_len g_zip g_tuple (zR 5);have O_law_size_7:=zQ (P:=l.prog) (w:=w) (base:=base) (k:=6) F23 b23 m23 O_law_size_6 g_len g_zip g_tuple (zR 6);have O_law_size_8:=zQ (P:=l.prog) (w:=w) (base:=base) (k:=7) F23 b23 m23 O_law_size_7 g_len g_zip g_tuple (zR 7);have O_law_size_9:=zQ (P:=l.prog) (w:=w) (base:=base) (k:=8) F23 b23 m23 O_law_size_8 g_len g_zip g_tuple (zR 8);have O_law_size_10:=zQ (P:=l.prog) (w:=w) (base:=base) (k:=9) F23 b23 m23 O_law_size_9 g_len g_zip g_tuple (zR 9);have O_law_is_0:=Pu.Fn3.pz (YM (P:=l.prog) (w:=w) (base:=base) F27 b27 m27) false;have O_law_is_1:=jd (P:=l.prog) (w:=w) (base:=base) (k:=2) F27 b27 m27 (O_law_are.mono (by decide)) (O_law_gcd.mono (by decide)) O_law_is_cells (O_law_is_0.mono (by decide)) g_isinstance g_str g_tuple g_len g_min g_range g_all (jb 0);have O_law_is_2:=jd (P:=l.prog) (w:=w) (base:=base) (k:=3) F27 b27 m27 (O_law_are.mono (by decide)) (O_law_gcd.mono (by decide)) (O_law_is_cells.mono (by decide)) O_law_is_1 g_isinstance g_str g_tuple g_len g_min g_range g_all (jb 1);have O_law_is_3:=jd (P:=l.prog) (w:=w) (base:=base) (k:=4) F27 b27 m27 (O_law_are.mono (by decide)) (O_law_gcd.mono (by decide)) (O_law_is_cells.mono (by decide)) O_law_is_2 g_isinstance g_str g_tuple g_len g_min g_range g_all (jb 2);have O_law_is_4:=jd (P:=l.prog) (w:=w) (base:=base) (k:=5) F27 b27 m27 (O_law_are.mono (by decide)) (O_law_gcd.mono (by decide)) (O_law_is_cells.mono (by decide)) O_law_is_3 g_isinstance g_str g_tuple g_len g_min g_range g_all (jb 3);have O_law_is_5:=jd (P:=l.prog) (w:=w) (base:=base) (k:=6) F27 b27 m27 (O_law_are.mono (by decide)) (O_law_gcd.mono (by decide)) (O_law_is_cells.mono (by decide)) O_law_is_4 g_isinstance g_str g_tuple g_len g_min g_range g_all (jb 4);have O_law_is_6:=jd (P:=l.prog) (w:=w) (base:=base) (k:=7) F27 b27 m27 (O_law_are.mono (by decide)) (O_law_gcd.mono (by decide)) (O_law_is_cells.mono (by decide)) O_law_is_5 g_isinstance g_str g_tuple g_len g_min g_range g_all (jb 5);have O_law_is_7:=jd (P:=l.prog) (w:=w) (base:=base) (k:=8) F27 b27 m27 (O_law_are.mono (by decide)) (O_law_gcd.mono (by decide)) (O_law_is_cells.mono (by decide)) O_law_is_6 g_isinstance g_str g_tuple g_len g_min g_range g_all (jb 6);have O_law_is_8:=jd (P:=l.prog) (w:=w) (base:=base) (k:=9) F27 b27 m27 (O_law_are.mono (by decide)) (O_law_gcd.mono (by decide)) (O_law_is_cells.mono (by decide)) O_law_is_7 g_isinstance g_str g_tuple g_len g_min g_range g_all (jb 7);have O_law_is_9:=jd (P:=l.prog) (w:=w) (base:=base) (k:=10) F27 b27 m27 (O_law_are.mono (by decide)) (O_law_gcd.mono (by decide)) (O_law_is_cells.mono (by decide)) O_law_is_8 g_isinstance g_str g_tuple g_len g_min g_range g_all (jb 8);have O_law_is_10:=jd (P:=l.prog) (w:=w) (base:=base) (k:=11) F27 b27 m27 (O_law_are.mono (by decide)) (O_law_gcd.mono (by decide)) (O_law_is_cells.mono (by decide)) O_law_is_9 g_isinstance g_str g_tuple g_len g_min g_range g_all (jb 9);have O_law_is_11:=jd (P:=l.prog) (w:=w) (base:=base) (k:=12) F27 b27 m27 (O_law_are.mono (by decide)) (O_law_gcd.mono (by decide)) (O_law_is_cells.mono (by decide)) O_law_is_10 g_isinstance g_str g_tuple g_len g_min g_range g_all (jb 10);have O_law_is_12:=jd (P:=l.prog) (w:=w) (base:=base) (k:=13) F27 b27 m27 (O_law_are.mono (by decide)) (O_law_gcd.mono (by decide)) (O_law_is_cells.mono (by decide)) O_law_is_11 g_isinstance g_str g_tuple g_len g_min g_range g_all (jb 11);have O_law_within_0:=Pu.Fn3.pz (YM (P:=l.prog) (w:=w) (base:=base) F31 b31 m31) false;have O_law_within_1:=zk (P:=l.prog) (w:=w) (base:=base) (k:=10) F31 b31 m31 (O_law_within_0.mono (by decide)) O_law_size_10 g_max (zj 0);have O_law_within_2:=zk (P:=l.prog) (w:=w) (base:=base) (k:=11) F31 b31 m31 O_law_within_1 (O_law_size_10.mono (by decide)) g_max (zj 1);have O_law_within_3:=zk (P:=l.prog) (w:=w) (base:=base) (k:=12) F31 b31 m31 O_law_within_2 (O_law_size_10.mono (by decide)) g_max (zj 2);have O_law_within_4:=zk (P:=l.prog) (w:=w) (base:=base) (k:=13) F31 b31 m31 O_law_within_3 (O_law_size_10.mono (by decide)) g_max (zj 3);have O_law_within_5:=zk (P:=l.prog) (w:=w) (base:=base) (k:=14) F31 b31 m31 O_law_within_4 (O_law_size_10.mono (by decide)) g_max (zj 4);have O_law_within_6:=zk (P:=l.prog) (w:=w) (base:=base) (k:=15) F31 b31 m31 O_law_within_5 (O_law_size_10.mono (by decide)) g_max (zj 5);have O_law_within_7:=zk (P:=l.prog) (w:=w) (base:=base) (k:=16) F31 b31 m31 O_law_within_6 (O_law_size_10.mono (by decide)) g_max (zj 6);have O_law_within_8:=zk (P:=l.prog) (w:=w) (base:=base) (k:=17) F31 b31 m31 O_law_within_7 (O_law_size_10.mono (by decide)) g_max (zj 7);have O_law_within_9:=zk (P:=l.prog) (w:=w) (base:=base) (k:=18) F31 b31 m31 O_law_within_8 (O_law_size_10.mono (by decide)) g_max (zj 8);have O_law_within_10:=zk (P:=l.prog) (w:=w) (base:=base) (k:=19) F31 b31 m31 O_law_within_9 (O_law_size_10.mono (by decide)) g_max (zj 9);have O_law_spoilt_0:=Pu.Fn3.dz (YM (P:=l.prog) (w:=w) (base:=base) F30 b30 m30) false;have O_law_spoilt_1:=zv (P:=l.prog) (w:=w) (base:=base) (k:=3) F30 b30 m30 (O_law_pick.mono (by decide)) (O_law_spoilt_0.mono (by decide)) O_law_other_tuple O_law_other_text g_isinstance g_tuple g_len g_str g_int (zu 0);have O_law_spoilt_2:=zv (P:=l.prog) (w:=w) (base:=base) (k:=4) F30 b30 m30 (O_law_pick.mono (by decide)) O_law_spoilt_1 (O_law_other_tuple.mono (by decide)) (O_law_other_text.mono (by decide)) g_isinstance g_tuple g_len g_str g_int (zu 1);have O_law_spoilt_3:=zv (P:=l.prog) (w:=w) (base:=base) (k:=5) F30 b30 m30 (O_law_pick.mono (by decide)) O_law_spoilt_2 (O_law_other_tuple.mono (by decide)) (O_law_other_text.mono (by decide)) g_isinstance g_tuple g_len g_str g_int (zu 2);have O_law_spoilt_4:=zv (P:=l.prog) (w:=w) (base:=base) (k:=6) F30 b30 m30 (O_law_pick.mono (by decide)) O_law_spoilt_3 (O_law_other_tuple.mono (by decide)) (O_law_other_text.mono (by decide)) g_isinstance g_tuple g_len g_str g_int (zu 3);have O_law_spoilt_5:=zv (P:=l.prog) (w:=w) (base:=base) (k:=7) F30 b30 m30 (O_law_pick.mono (by decide)) O_law_spoilt_4 (O_law_other_tuple.mono (by decide)) (O_law_other_text.mono (by decide)) g_isinstance g_tuple g_len g_str g_int (zu 4);have O_law_spoilt_6:=zv (P:=l.prog) (w:=w) (base:=base) (k:=8) F30 b30 m30 (O_law_pick.mono (by decide)) O_law_spoilt_5 (O_law_other_tuple.mono (by decide)) (O_law_other_text.mono (by decide)) g_isinstance g_tuple g_len g_str g_int (zu 5);have O_law_spoilt_7:=zv (P:=l.prog) (w:=w) (base:=base) (k:=9) F30 b30 m30 (O_law_pick.mono (by decide)) O_law_spoilt_6 (O_law_other_tuple.mono (by decide)) (O_law_other_text.mono (by decide)) g_isinstance g_tuple g_len g_str g_int (zu 6);have O_law_spoilt_8:=zv (P:=l.prog) (w:=w) (base:=base) (k:=10) F30 b30 m30 (O_law_pick.mono (by decide)) O_law_spoilt_7 (O_law_other_tuple.mono (by decide)) (O_law_other_text.mono (by decide)) g_isinstance g_tuple g_len g_str g_int (zu 7);have O_law_spoilt_9:=zv (P:=l.prog) (w:=w) (base:=base) (k:=11) F30 b30 m30 (O_law_pick.mono (by decide)) O_law_spoilt_8 (O_law_other_tuple.mono (by decide)) (O_law_other_text.mono (by decide)) g_isinstance g_tuple g_len g_str g_int (zu 8);have O_law_same_0:=YM (P:=l.prog) (w:=w) (base:=base) F24 b24 m24;have O_law_same_1:=YZ (P:=l.prog) (w:=w) (base:=base) (k:=0) F24 b24 m24 O_law_same_0 g_isinstance g_list g_tuple g_zip g_all g_len g_str g_bool g_int (Bk.Y8 0);have O_law_same_2:=YZ (P:=l.prog) (w:=w) (base:=base) (k:=1) F24 b24 m24 O_law_same_1 g_isinstance g_list g_tuple g_zip g_all g_len g_str g_bool g_int (Bk.Y8 1);have O_law_same_3:=YZ (P:=l.prog) (w:=w) (base:=base) (k:=2) F24 b24 m24 O_law_same_2 g_isinstance g_list g_tuple g_zip g_all g_len g_str g_bool g_int (Bk.Y8 2);have O_law_same_4:=YZ (P:=l.prog) (w:=w) (base:=base) (k:=3) F24 b24 m24 O_law_same_3 g_isinstance g_list g_tuple g_zip g_all g_len g_str g_bool g_int (Bk.Y8 3);exact qlu (k:=28) F32 (O_law_left.mono (by decide)) (O_law_dealing.mono (by decide)) (O_law_spoilt_9.mono (by decide)) (O_law_pick.mono (by decide)) O_is_dealing_12 (O_law_is_12.mono (by decide)) (O_size_of_10.mono (by decide)) (O_law_size_10.mono (by decide)) (O_law_same_4.mono (by decide)) (O_law_within_10.mono (by decide)) g_len g_min g_range g_repr g_isinstance g_bool (qkG qkv)
set_option maxRecDepth 100000 in
set_option maxHeartbeats 0 in
def qko (w : World) (os : OsState) : PySem.W.topRun treeTable PySem.Challenge.pw_bankwalk_k09_whole_dealings_spoilt_anywh w 11 (some (Value.ref 6)) 2 (⟨qfx w.params,222,{ },#[],{ },474,os⟩ : PySem.W.SharedT).abs (PySem.W.restOf [] qiD RI ⟨233,0,246,15⟩ qij) = some ⟨qgo w.params,#[],{ },474,os⟩ := by kernel_rfl
def ql9:(qeQ++(qeT++[]))=qas:=by kernel_rfl
set_option maxRecDepth 100000 in
set_option maxHeartbeats 0 in
def qf3 (w : World) (os : OsState) : PySem.W.topRun treeTable PySem.Challenge.pw_bankwalk_k09_whole_dealings_spoilt_anywh w 11 (some (Value.ref 6)) (12 + (1 + (534 + (478 + 2)))) ⟨PySem.W.boot_heap w.params,Array.mk [],PySem.W.boot_drawn,PySem.W.boot_toks,os⟩ (PySem.W.topStub PySem.Challenge.pw_bankwalk_k09_whole_dealings_spoilt_anywh) = some ⟨qgo w.params,#[],{ },474,os⟩ := by
 have h:=(PySem.W.piece_app (PySem.W.segRun_of (qih w os)) (PySem.W.piece_app (PySem.W.segRun_of (qkc w os)) (qko w os)))
 rw [ql9] at h;exact PySem.W.go_top (qkD w os) (PySem.W.piece_block (qiL w os) h)
abbrev Q : Program := PySem.W.view PySem.Challenge.pw_bankwalk_k09_whole_dealings_spoilt_anywh [1,2,3,5,6,7,8,9,10,11,12,13,15,16,17,18,19,20,21,22,23,24,25,26,27,28,29,30,31,32,33,34,35]
set_option maxRecDepth 100000 in
set_option maxHeartbeats 0 in
def left : PySem.W.LeftO PySem.Challenge.pw_bankwalk_k09_whole_dealings_spoilt_anywh Q [] (λs => PySem.W.xlAt Q [] s && PySem.W.recOk [] s) (λs => ([3,20,21,27,28,32,33,39,40,46,47,53,54,58,59,63,64,68,69,75,76,82,83,89,90,96,97,103,104,110,111,117,118,124,125,131,132,138,139,143,144,148,149,153,154,160,161,165,166,170,171,175,176,180,181,185,186,192,193,199,200,206,207,213,214,220,221] : List Addr).map s.heap.get?) (λw => (Kf w.params).map λp => some p.2) 2146 :=
 PySem.W.LeftO.of_pieces (H₀:=PySem.W.boot_heap) (H₁:=qgo) (gs₀:=Array.mk []) (gs₁:=#[]) (d₀:=PySem.W.boot_drawn) (d₁:={ }) (k₀:=PySem.W.boot_toks) (k₁:=474) (m₀:=11) (ann:=some (Value.ref 6)) (M:=(12+(1+(534+(478+2)))))
  (PySem.W.boot_open (by kernel_rfl) (by kernel_rfl) (λs=>by kernel_rfl)) (λw=>by kernel_rfl) qf3 (by kernel_rfl) (λw=>by kernel_rfl)
end K09
open PySem PySem.W PyProof.Rows
set_option maxRecDepth 100000 in
set_option maxHeartbeats 0 in
theorem PySem.Challenge.cw_bankwalk_k09_whole_dealings_spoilt_anywh_holds : PySem.Challenge.rw_bankwalk_k09_whole_dealings_spoilt_anywh.Holds :=
 Hd.head (l := PySem.Challenge.rw_bankwalk_k09_whole_dealings_spoilt_anywh) (q := K09.Q) (loose := []) (K := K09.Kf) (as := [3,20,21,27,28,32,33,39,40,46,47,53,54,58,59,63,64,68,69,75,76,82,83,89,90,96,97,103,104,110,111,117,118,124,125,131,132,138,139,143,144,148,149,153,154,160,161,165,166,170,171,175,176,180,181,185,186,192,193,199,200,206,207,213,214,220,221]) (N := 2146) (k := 29) (x := "_law_script")
  (d:=⟨"law",L2.YR K09.VN,L2.QF K09.VN,L2.qk K09.VN,⟨233,0,246,15⟩⟩) (λ_=>by kernel_rfl) (by kernel_rfl) K09.left (by kernel_rfl) (by kernel_rfl) (by kernel_rfl) (by kernel_rfl) (by kernel_rfl)
  ⟨rfl,rfl,rfl,rfl,rfl,by decide +kernel⟩ (by w_witness2) rfl (by kernel_rfl) ⟨rfl,by decide,by decide,rfl⟩ (λw=>by kernel_rfl) λw mg fa h KX G hmg=>K09.qiU KX G hmg
