import PyProof.Rows.All
import Wide.All
import OpenK.AllK
import Wide.FinOn
import Lean
import PyProof.EqAt
import PyProof.EqKinds
import PyProof.TupleCall
import PyProof.NeKinds
import KE.KRevSl
import PyProof.FactsAll.bool_2
import PyProof.Rows.EqBoolInt
import PyProof.Rows.IntBool
import PySem.Challenge.RW_bankwalk_k11_what_walks_are
-- CHANGE: your row's module here,as the last of these rows
set_option Elab.async false
set_option genSizeOf false
set_option genInjectivity false
noncomputable section
abbrev Frg:=PySem.W.Frag
open List (getElem_cons_zero length_cons getElem?_cons_succ getElem_cons_succ getElem?_cons_zero length_nil set_cons_zero set_cons_succ length_map not_mem_nil mem_append_right map_cons mem_cons getElem?_set getElem?_map cons_append size_toArray getElem?_eq_getElem map_map mem_of_getElem? mem_map length_append getD_eq_getElem?_getD mem_range length_range)
def obb{α β:Type _}{o:Option α}{f:α->Option β}{b:β}(h:o.bind f=some b):∃a,o=some a/\f a=some b:=Option.bind_eq_some_iff.mp h
set_option linter.all false
set_option maxRecDepth 100000
namespace L2
open PySem PySem.Spec PyProof.Rows
abbrev Key:=Sum Int Str
def qd9:Key->Value->Bool
 |.inl k,v=>Value.isInt k v
 |.inr x,v=>Value.isStrOf x v
def qhH (w:World):Key->Int
 |.inl k=>hashInt k
 |.inr x=>hashStr w x
def qW:∀ {k:Key} {v:Value},qd9 k v=true->(∃ i t,k=Sum.inl i/\v=Value.int i t)\/(∃ x t,k=Sum.inr x/\v=Value.str x t)
 |.inl i,v,h=>by
  obtain ⟨t,e⟩:=Value.isInt_shape (k:=i) (v:=v) h;exact .inl ⟨i,t,rfl,e⟩
 |.inr x,v,h=>by
  obtain ⟨t,e⟩:=Value.isStrOf_shape (x:=x) (v:=v) h;exact .inr ⟨x,t,rfl,e⟩
def qcv (a b:Int):decide ((Sum.inl a:Key)=Sum.inl b)=(a==b):=by
 by_cases e:a=b
 ·subst e;simp
 ·have h:¬ (Sum.inl a:Key)=Sum.inl b:=λq=>e (Sum.inl.inj q);rw [decide_eq_false h];exact (beq_eq_false_iff_ne.mpr e).symm
def qcn (a b:Str):decide ((Sum.inr a:Key)=Sum.inr b)=decide (a=b):=by
 by_cases e:a=b
 ·subst e;simp
 ·have h:¬ (Sum.inr a:Key)=Sum.inr b:=λq=>e (Sum.inr.inj q);rw [decide_eq_false h,decide_eq_false e]
def qcT (a:Int) (b:Str):decide ((Sum.inl a:Key)=Sum.inr b)=false:=decide_eq_false (λq=>nomatch q)
def qdk (a:Str) (b:Int):decide ((Sum.inr a:Key)=Sum.inl b)=false:=decide_eq_false (λq=>nomatch q)
def RD (prog:Program) (w:World):PySem.KeyKind prog w Key where
 is:=qd9
 hash:=qhH w
 inj:=λv a b ha hb=>by
  rcases qW ha with ⟨i,t,rfl,rfl⟩|⟨x,t,rfl,rfl⟩
  ·rcases qW hb with ⟨j,u,rfl,e⟩|⟨y,u,rfl,e⟩
   ·injection e with e1 _;rw [e1]
   ·exact nomatch e
  ·rcases qW hb with ⟨j,u,rfl,e⟩|⟨y,u,rfl,e⟩
   ·exact nomatch e
   ·injection e with e1 _;rw [e1]
 byValue:=λk v h=>by
  rcases qW h with ⟨i,t,rfl,rfl⟩|⟨x,t,rfl,rfl⟩<;>rfl
 pyHash:=λhv h=>by
  rcases qW hv with ⟨i,t,rfl,rfl⟩|⟨x,t,rfl,rfl⟩
  ·exact wpAny_pyHash_int h
  ·exact wpAny_pyHash_str h
 eqBool:=λhu hv h=>by
  rcases qW hu with ⟨i,t,rfl,rfl⟩|⟨x,t,rfl,rfl⟩
  ·rcases qW hv with ⟨j,u,rfl,rfl⟩|⟨y,u,rfl,rfl⟩
   ·rw [qcv] at h;exact wpAny_eqBool_int h
   ·rw [qcT] at h;exact SeqAt.EqAt.int_str i t y u _ _ _ _ h
  ·rcases qW hv with ⟨j,u,rfl,rfl⟩|⟨y,u,rfl,rfl⟩
   ·rw [qdk] at h;exact SeqAt.EqAt.str_int x t j u _ _ _ _ h
   ·rw [qcn] at h;exact wpAny_eqBool_str h
 «strs»:=λk x t v h=>by
  rcases qW h with ⟨i,u,rfl,e⟩|⟨y,u,rfl,e⟩
  ·exact nomatch e
  ·injection e with e1 _;subst e1;cases v<;>rfl
set_option genInjectivity true in
inductive V where
 |non|bl (b:Bool)|int (i:Int)|str (x:Str)|byt (b:Array UInt8)|flt (b:UInt64)|ref (a:Addr)|ty (n:String)
 deriving DecidableEq
def zT:V->Value->Prop
 |.non,u=>u=Value.none
 |.bl b,u=>u=Value.bool b
 |.int i,u=>∃ t,u=Value.int i t
 |.str x,u=>∃ t,u=Value.str x t
 |.byt b,u=>∃ t,u=Value.bytes b t
 |.flt b,u=>∃ t,u=Value.float b t
 |.ref a,u=>u=Value.ref a
 |.ty n,u=>u=Value.type n
abbrev zn:List V->List Value->Prop:=Paired zT
def zn.length {xs:List V} {us:List Value} (r:zn xs us):xs.length=us.length:=Paired.length r
def zn.get:∀ {xs:List V} {us:List Value} {i:Nat} {x:V},zn xs us->xs[i]?=some x->∃ u,us[i]?=some u/\zT x u
 |_,_,_,_,.nil,e=>by simp at e
 |_,_,0,_,.cons r _,e=>by simp at e;subst e;exact ⟨_,rfl,r⟩
 |_,_,i+1,x,.cons _ t,e=>by
  obtain ⟨u,h1,h2⟩:=zn.get (i:=i) (x:=x) t (by simpa using e);exact ⟨u,by simpa using h1,h2⟩
def zn.set {x:V} {u:Value} (r:zT x u):∀ {xs:List V} {us:List Value} (i:Nat),zn xs us->zn (xs.set i x) (us.set i u)
 |_,_,_,.nil=>.nil
 |_,_,0,.cons _ t=>.cons r t
 |_,_,i+1,.cons q t=>.cons q (zn.set r i t)
def zn.append:∀ {xs ys:List V} {us ws:List Value},zn xs us->zn ys ws->zn (xs++ys) (us++ws)
 |_,_,_,_,.nil,s=>s
 |_,_,_,_,.cons r t,s=>.cons r (zn.append t s)
def zn.take:∀ {xs:List V} {us:List Value} (n:Nat),zn xs us->zn (xs.take n) (us.take n)
 |_,_,0,_=>.nil
 |_,_,_+1,.nil=>.nil
 |_,_,n+1,.cons r t=>.cons r (zn.take n t)
def zn.drop:∀ {xs:List V} {us:List Value} (n:Nat),zn xs us->zn (xs.drop n) (us.drop n)
 |_,_,0,r=>r
 |_,_,_+1,.nil=>.nil
 |_,_,n+1,.cons _ t=>zn.drop n t
def qgS:Option V->Option Value->Prop
 |some v,some u=>zT v u
 |none,none=>True
 |_,_=>False
def KV {κ:Type}:List (κ×V)->List (κ×Value)->Prop:=Paired λ(p:κ×V) (q:κ×Value)=>p.1=q.1/\zT p.2 q.2
def kV:Key->V
 |.inl i=>.int i
 |.inr x=>.str x
inductive HO where
 /-- a list -/
 |lst (xs:List V)
 /-- a tuple (never changes) -/
 |tup (xs:List V)
 /-- a dict whose keys are ints and texts;one whose keys are tuples of ints and texts (the empty one is both) -/
 |dK (kvs:List (Key×V))|dT (kvs:List (List Key×V))
 /-- a set of ints: its members,its size -/
 |set (S:Int->Bool) (n:Nat)
 /-- an instance of the class at C,its dict at dx,its attributes -/
 |ins (C dx:Addr) (fs:List (Str×V))
 /-- the dict of the instance at x -/
 |own (x:Addr)
 /-- the dict of an exception -/
 |xd (fs:List (Str×V))
 /-- a bound method,f of x -/
 |met (f x:Addr)
 /-- a range object lo,lo+1,.. below hi -/
 |rng (lo hi:Int)
 /-- a thing that is known to the object (the script;a dict while a loop walks it): read,never written while it is so -/
 |frz (o:Obj) (u:HO)
 /-- a code object's table -/
 |tbl (ps:Array Value)
 /-- any other thing,by what is true of its one object (a def of one's own: SetO a S n:=HO.ext λh=>..) -/
 |ext (φ:Heap->Prop)
abbrev Hp:=Addr->Option HO
def upd (H:Hp) (a:Addr) (o:HO):Hp:=λb=>if b=a then some o else H b
def za {H:Hp} {a:Addr} {o:HO}:upd H a o a=some o:=by unfold upd;rw [if_pos rfl]
def qB {H:Hp} {a b:Addr} {o:HO} (h:b≠a):upd H a o b=H b:=by unfold upd;rw [if_neg h]
def qw {H:Hp} {a b:Addr} {o:HO} (h:H a=some o) (h':H b=none):a≠b:=by
 intro e;subst e;rw [h] at h';cases h'
section
variable (P:Program) (w:World)
def ZP (H:Hp) (h:Heap) (a:Addr):HO->Prop
 |.lst xs=>xs.length<=sizeLine/\∃ (its:List Value) (n:Nat),zn xs its/\h.get? a=some { cls:=.type "list",data:=.seq its.toArray n }
 |.tup xs=>xs.length<=sizeLine/\∃ its:List Value,zn xs its/\IsTup h a its.toArray
 |.dK kvs=>kvs.length<=sizeLine/\(a==sysModules)=false/\∃ vs,KV kvs vs/\h.DictOf (RD P w) a vs
 |.dT kvs=>kvs.length<=sizeLine/\(a==sysModules)=false/\∃ xs:List (List Key×Addr×Value),
   Paired (λ(p:List Key×V) (q:List Key×Addr×Value)=>p.1=q.1/\H q.2.1=some (.tup (p.1.map kV))/\zT p.2 q.2.2) kvs xs /\
   ∃ o es ep,h.get? a=some o/\o.ExactDict/\o.data=.dict es ep/\es.toList=xs.map (entryOfKey (tupleKind (RD P w)))/\(xs.map (·.1)).Nodup
 |.set S n=>h.SetOf (intKind P w) a S n
 |.ins C dx fs=>H dx=some (.own a)/\fs.length<=1000/\dx≠a/\h.get? a=some (PySem.W.instObj C dx) /\
   ∃ mA,h.Ns1 dx mA/\(∀ f,qgS (fs.lookup f) (mA f))/\PySem.Within mA (fs.map (·.1))
 |.own _=>∃ o,h.get? a=some o
 |.xd fs=>∃ mA,h.Ns1 a mA/\∀ f,qgS (fs.lookup f) (mA f)
 |.rng lo hi=>∃ t u v,h.get? a=some { cls:=.type "range",data:=.fields #[.int lo t,.int hi u,.int 1 v] }
 |.frz o u=>h.get? a=some o/\ZP H h a u
 |.tbl ps=>h.get? a=some { cls:=.none,data:=.fields ps }
 |.met f x=>h.get? a=some (PySem.W.methodObj (.ref f) (.ref x))
 |.ext φ=>φ h/\(∃ o,h.get? a=some o)/\∀ h1 h2:Heap,φ h1->(∀ o,h1.get? a=some o->h2.get? a=some o)->φ h2
def HOk (H:Hp) (h:Heap):Prop:=∀ a o,H a=some o->ZP P w H h a o
end
section
variable {P:Program} {w:World} {H H':Hp} {h h':Heap} {a:Addr} {o:HO}
def ZP.lt (x:ZP P w H h a o):a<h.objs.size:=by
 cases o with
 |lst xs=>obtain ⟨_,_,_,_,e⟩:=x;exact Heap.lt_size e
 |tup xs=>obtain ⟨_,_,_,p⟩:=x;exact p.lt
 |dK kvs=>obtain ⟨_,_,_,_,o,_,_,e,_⟩:=x;exact Heap.lt_size e
 |dT kvs=>obtain ⟨_,_,_,_,o,_,_,e,_⟩:=x;exact Heap.lt_size e
 |set S n=>obtain ⟨o,_,_,_,e,_⟩:=x;exact Heap.lt_size e
 |ins C dx fs=>obtain ⟨_,_,_,e,_⟩:=x;exact Heap.lt_size e
 |own y=>obtain ⟨_,e⟩:=x;exact Heap.lt_size e
 |xd fs=>obtain ⟨_,⟨_,_,_,e,_⟩,_⟩:=x;exact Heap.lt_size e
 |rng lo hi=>obtain ⟨_,_,_,e⟩:=x;exact Heap.lt_size e
 |frz ob u=>obtain ⟨e,_⟩:=x;exact Heap.lt_size e
 |tbl ps=>exact Heap.lt_size (show h.get? a=some _ from x)
 |met f y=>exact Heap.lt_size (show h.get? a=some _ from x)
 |ext φ=>obtain ⟨_,⟨_,e⟩,_⟩:=x;exact Heap.lt_size e
def Paired.mapP {α β:Type} {F G:α->β->Prop}:∀ {l₁:List α} {l₂:List β},Paired F l₁ l₂->(∀ a b,F a b->G a b)->Paired G l₁ l₂
 |_,_,.nil,_=>.nil
 |_,_,.cons r t,f=>.cons (f _ _ r) (Paired.mapP t f)
def ZP.stay (x:ZP P w H h a o) (k:∀ b u,(b=a\/H b=some (.own a))->h.get? b=some u->h'.get? b=some u)
  (ho:∀ b,H b=some (.own a)->H' b=some (.own a)) (ht:∀ b xs,H b=some (.tup xs)->H' b=some (.tup xs)):ZP P w H' h' a o:=by
 induction o with
 |lst xs=>obtain ⟨z,its,n,r,e⟩:=x;exact ⟨z,its,n,r,k _ _ (.inl rfl) e⟩
 |tup xs=>obtain ⟨z,its,r,ob,e,c⟩:=x;exact ⟨z,its,r,ob,k _ _ (.inl rfl) e,c⟩
 |dK kvs=>obtain ⟨z,y,vs,r,ob,es,ep,e,c⟩:=x;exact ⟨z,y,vs,r,ob,es,ep,k _ _ (.inl rfl) e,c⟩
 |dT kvs=>
  obtain ⟨z,y,xs,r,ob,es,ep,e,c⟩:=x;exact ⟨z,y,xs,Paired.mapP r λp q z=>⟨z.1,ht _ _ z.2.1,z.2.2⟩,ob,es,ep,k _ _ (.inl rfl) e,c⟩
 |set S n=>obtain ⟨ob,es,ep,t,e,c⟩:=x;exact ⟨ob,es,ep,t,k _ _ (.inl rfl) e,c⟩
 |ins C dx fs=>
  obtain ⟨d,z,ne,e,mA,⟨od,es,ep,e2,c⟩,r⟩:=x;exact ⟨ho _ d,z,ne,k _ _ (.inl rfl) e,mA,⟨od,es,ep,k _ _ (.inr d) e2,c⟩,r⟩
 |own y=>obtain ⟨ob,e⟩:=x;exact ⟨ob,k _ _ (.inl rfl) e⟩
 |xd fs=>obtain ⟨mA,⟨od,es,ep,e,c⟩,r⟩:=x;exact ⟨mA,⟨od,es,ep,k _ _ (.inl rfl) e,c⟩,r⟩
 |rng lo hi=>obtain ⟨t,u,v,e⟩:=x;exact ⟨t,u,v,k _ _ (.inl rfl) e⟩
 |frz ob u ih=>obtain ⟨e,q⟩:=x;exact ⟨k _ _ (.inl rfl) e,ih q⟩
 |tbl ps=>
  have e:h.get? a=some { cls:=.none,data:=.fields ps }:=x;show h'.get? a=some { cls:=.none,data:=.fields ps };exact k a _ (.inl rfl) e
 |met f y=>
  have e:h.get? a=some (PySem.W.methodObj (.ref f) (.ref y)):=x;show h'.get? a=some (PySem.W.methodObj (.ref f) (.ref y));exact k a _ (.inl rfl) e
 |ext φ=>obtain ⟨p,⟨o,e⟩,st⟩:=x;exact ⟨st _ _ p λo q=>k _ _ (.inl rfl) q,⟨o,k _ _ (.inl rfl) e⟩,st⟩
def HOk.lt (x:HOk P w H h) (e:H a=some o):a<h.objs.size:=(x a o e).lt
def HOk.fresh (x:HOk P w H h) (e:h.objs.size<=a):H a=none:=by
 cases q:H a with
 |none=>rfl
 |some u=>exact absurd (Nat.lt_of_lt_of_le (x.lt q) e) (Nat.lt_irrefl _)
def HOk.kept (x:HOk P w H h) (k:∀ b u,h.get? b=some u->h'.get? b=some u):HOk P w H h':=λa o e=>
 (x a o e).stay (λb u _ q=>k b u q) (λ_ q=>q) λ_ _ q=>q
def HOk.laid (x:HOk P w H h) (k:∀ b u,h.get? b=some u->h'.get? b=some u) (hp:h.objs.size<=a) (new:ZP P w (upd H a o) h' a o):HOk P w (upd H a o) h':=λb u e=>by
 have hn:=x.fresh hp;by_cases hb:b=a
 ·subst hb;rw [za] at e;cases e;exact new
 ·rw [qB hb] at e;exact (x b u e).stay (λc v _ q=>k c v q) (λc q=>by rw [qB (qw q hn)];exact q) λc xs q=>by rw [qB (qw q hn)];exact q
end
def Rd (H:Hp) (a:Addr) (u:HO):Prop:=H a=some u\/∃ o,H a=some (.frz o u)
def Rd.ok {P:Program} {w:World} {H:Hp} {h:Heap} {a:Addr} {u:HO} (r:Rd H a u) (x:HOk P w H h):ZP P w H h a u:=by
 rcases r with r|⟨o,r⟩
 ·exact x a u r
 ·obtain ⟨_,q⟩:=x a _ r;exact q
def Mut:Option HO->Prop
 |some (.lst _)=>True
 |some (.dK _)=>True
 |some (.dT _)=>True
 |some (.set _ _)=>True
 |some (.ins _ _ _)=>True
 |some (.ext _)=>True
 |_=>False
section
variable {P:Program} {w:World} {H:Hp} {h h':Heap} {x e:Addr} {o':HO}
def HOk.write (ok:HOk P w H h) (mu:Mut (H x)) (he:e=x\/H e=some (.own x)) (k:∀ b u,b≠e->h.get? b=some u->h'.get? b=some u) (heo:∃ u,h'.get? e=some u)
  (new:ZP P w (upd H x o') h' x o'):HOk P w (upd H x o') h':=λb u q=>by
 have nown:∀ c y,H c=some (.own y)->c≠x:=λc y r z=>by subst z;rw [r] at mu;exact mu
 have ntup:∀ c xs,H c=some (.tup xs)->c≠x:=λc xs r z=>by subst z;rw [r] at mu;exact mu
 by_cases hb:b=x
 ·subst hb;rw [za] at q;cases q;exact new
 ·rw [qB hb] at q;by_cases hbe:b=e
  ·have q':H b=some (.own x):=by
    rcases he with z|z
    ·exact absurd (hbe.trans z) hb
    ·rw [hbe];exact z
   rw [q] at q';cases q';obtain ⟨v,hv⟩:=heo;exact ⟨v,by rw [hbe];exact hv⟩
  ·refine (ok b u q).stay (λc v hc r=>k c v ?_ r) (λc r=>by rw [qB (nown c b r)];exact r) λc xs r=>by rw [qB (ntup c xs r)];exact r
   rcases hc with rfl|hc
   ·exact hbe
   ·rintro rfl;rcases he with z|z
    ·exact nown c b hc z
    ·rw [hc] at z;cases z;exact hb rfl
end
structure Un (fs ex:List Addr) (H H':Hp) (h h':Heap):Prop where
 keep:∀ b o,h.get? b=some o->H b=none->b∉fs->b∉ex->h'.get? b=some o
 slot:∀ b o,h.get? b=some o->H b=none->b∈fs->b∉ex->∃ sl,h'.get? b=some { o with slots:=sl }
 free:∀ b o,h.get? b=some o->H b=none->b∉ex->H' b=none
 there:∀ b o,h.get? b=some o->b∉ex->∃ o',h'.get? b=some o'
 tups:∀ b xs,H b=some (.tup xs)->H' b=some (.tup xs)
 frzs:∀ b o u,H b=some (.frz o u)->H' b=some (.frz o u)
 tbls:∀ b ps,H b=some (.tbl ps)->∃ more,H' b=some (.tbl (ps++more))
section
variable {fs fs' ex ex':List Addr} {H H1 H2:Hp} {h h1 h2 h':Heap} {a x e:Addr} {o:HO}
def Un.any (u:Un fs ex H H1 h h1) {b:Addr} {ob:Obj} (q:h.get? b=some ob) (n:H b=none) (hx:b∉ex):∃ sl,h1.get? b=some { ob with slots:=sl }:=by
 by_cases hb:b∈fs
 ·exact u.slot b ob q n hb hx
 ·exact ⟨ob.slots,u.keep b ob q n hb hx⟩
def Un.kept (k:∀ b u,h.get? b=some u->h'.get? b=some u):Un fs ex H H h h':=
 ⟨λb ob q _ _ _=>k b ob q,λb ob q _ _ _=>⟨ob.slots,k b ob q⟩,λ_ _ _ n _=>n,λb ob q _=>⟨ob,k b ob q⟩,λ_ _ q=>q,λ_ _ _ q=>q,λ_ ps q=>⟨#[],by rw [q];simp⟩⟩
def Un.refl:Un fs ex H H h h:=Un.kept λ_ _ q=>q
def Un.laid (k:∀ b u,h.get? b=some u->h'.get? b=some u) (hp:h.objs.size<=a) (hn:H a=none):Un fs ex H (upd H a o) h h' where
 keep:=λb u q _ _ _=>k b u q
 slot:=λb u q _ _ _=>⟨u.slots,k b u q⟩
 free:=λb u q n _=>by rw [qB (Nat.ne_of_lt (Nat.lt_of_lt_of_le (Heap.lt_size q) hp))];exact n
 there:=λb u q _=>⟨u,k b u q⟩
 tups:=λb xs q=>by rw [qB (qw q hn)];exact q
 frzs:=λb u xs q=>by rw [qB (qw q hn)];exact q
 tbls:=λb ps q=>⟨#[],by rw [qB (qw q hn),q];simp⟩
def Un.write (mu:Mut (H x)) (he:e=x\/H e=some (.own x)) (k:∀ b u,b≠e->h.get? b=some u->h'.get? b=some u) (heo:∃ u,h'.get? e=some u):Un fs ex H (upd H x o) h h':=by
 have hx:∀ b,H b=none->b≠x:=λb n z=>by subst z;rw [n] at mu;exact mu
 have hb:∀ b,H b=none->b≠e:=λb n z=>by
  subst z;rcases he with r|r
  ·exact hx b n r
  ·rw [n] at r;cases r
 have hm:∀ b u,H b=some u->¬ Mut (some u)->b≠x:=λb u q nm z=>by subst z;rw [q] at mu;exact nm mu
 refine ⟨λb u q n _ _=>k b u (hb b n) q,λb u q n _ _=>⟨u.slots,k b u (hb b n) q⟩,λb u q n _=>by rw [qB (hx b n)];exact n,λb u q _=>?_,
  λb xs q=>by rw [qB (hm b _ q λz=>z)];exact q,λb u xs q=>by rw [qB (hm b _ q λz=>z)];exact q,λb ps q=>⟨#[],by rw [qB (hm b _ q λz=>z),q];simp⟩⟩
 by_cases hbe:b=e
 ·subst hbe;exact heo
 ·exact ⟨u,k b u hbe q⟩
end
def trk (h:Heap) (H:Hp):List Addr:=(List.range h.objs.size).filter λa=>(H a).isSome
def LV (h:Heap) (H:Hp):Heap:=PySem.W.hideAll h (trk h H)
def C0 (h:Heap) (H:Hp):(LV h H).objs.size=h.objs.size:=PySem.W.hideAll_size _ _
def K4 {h:Heap} {H:Hp} {b:Addr} {o:Obj} (e:h.get? b=some o) (n:H b=none):(LV h H).get? b=some o:=
 PySem.W.hideAll_get _ e λhm=>by
  have q:(H b).isSome=true:=(List.mem_filter.mp hm).2;rw [n] at q;simp at q
def qbp {h:Heap} {H:Hp} {b:Addr} {o:Obj} (e:(LV h H).get? b=some o):h.get? b=some o/\H b=none:=by
 have e':h.get? b=some o:=PySem.W.of_hideAll (trk h H) e;refine ⟨e',?_⟩;cases q:H b with
 |none=>rfl
 |some x=>
  have hm:b∈trk h H:=List.mem_filter.mpr ⟨mem_range.mpr (Heap.lt_size e'),by simp [q]⟩;have z:(LV h H).get? b=none:=PySem.W.hideAll_none (trk h H) hm;rw [z] at e;cases e
def qaB (g h:Heap) (L:Addr):List (Addr×Obj):=(List.range h.objs.size).filterMap λa=>if a=L\/(g.get? a).isSome=true then none else (h.get? a).map λo=>(a,o)
def je (g h:Heap) (L d:Addr):List (Addr×Obj):=(qaB g h L).filter λp=>decide (p.1≠d)
structure Mod (K:Frg) (mg:Str->Option Value) (base:Heap):Prop where
 kin:K.In base
 glob:base.Ns mainGlobals mg
 blt:∃ mb,base.Ns builtinsNs mb/\∀ x:Str,x≠"__name__" -> mb x=bootBuiltins x
 nolimit:base.NoLimit
structure Cx where
 prog:Program
 w:World
 K:PySem.W.Frag
 mg:Str->Option Value
 base:Heap
 A:Around
 N:List Str
 s₀:Shared
 H₀:Hp
 env:Env
 outer:List Env
 stack:List Env
 ex:List Addr
 fn:Str->Bool
 calm:Bool
 pn:List (Addr×Obj)
 xe:Value->Shared->Prop
def frs (l:List Env):List Addr:=l.filterMap (·.frame)
abbrev Cx.fs (X:Cx):List Addr:=frs X.outer
def Vis (sc:Scope) (x:Str):Prop:=sc.names.lookup x=some .local\/sc.names.lookup x=some .cell\/sc.names.lookup x=some .free
def Loc (sc:Scope) (x:Str):Prop:=sc.names.lookup x=some .local\/sc.names.lookup x=some .cell
def qhD (env:Env) (h:Heap) (m:Str->Option Value) (x:Str) (u:Value):Prop:=
 (env.kindOf x=some .local/\m x=some u)\/((env.kindOf x=some .cell\/env.kindOf x=some .free)/\∃ c,env.cells.lookup x=some c/\h.IsCell c (some u))
structure Cx.Ok (X:Cx):Prop where
 mod:Mod X.K X.mg X.base
 kind:X.env.scope.kind=.function
 glob:X.env.globals=mainGlobals
 blt:X.env.builtins=builtinsNs
 above:X.s₀.heap.objs.size<=X.env.locals
 inj:∀ x y c,X.env.cells.lookup x=some c->X.env.cells.lookup y=some c->x=y
 has:∀ x,(X.env.kindOf x=some .cell\/X.env.kindOf x=some .free)->∃ c,X.env.cells.lookup x=some c
 cab:∀ x c,X.fn x=true->X.env.cells.lookup x=some c->X.s₀.heap.objs.size<=c
 hd:X.calm=true->X.A.handled=none
 frames:X.A.frames=some X.stack
 stk:X.stack=X.outer\/(X.stack=X.env::X.outer/\X.env.frame=some X.env.locals)
 exf:∀ b∈X.ex,b≠X.env.locals/\∀ x c,X.env.cells.lookup x=some c->c≠b
 bs:∀ b o,X.base.get? b=some o->X.s₀.heap.get? b=some o/\X.H₀ b=none
 bsz:X.base.objs.size<=X.s₀.heap.objs.size
 noex:∀ b o,X.base.get? b=some o->b∉X.ex
 exfs:∀ b∈X.ex,b∉X.fs
 funs:X.s₀.heap.FunFrames X.base X.outer
 frf:∀ b∈X.fs,X.H₀ b=none
structure Inv (X:Cx) (pins:List (Addr×Obj)) (σ:List (Option V)) (H:Hp) (s:Shared):Prop where
 ok:X.Ok
 os:s.os=X.s₀.os
 bare:AllBare s.gens
 base:Un X.fs X.ex X.H₀ H X.s₀.heap s.heap
 loc:∃ m,s.heap.Ns X.env.locals m/\∀ (i:Nat) (x:Str) (v:V),X.N[i]?=some x->σ[i]?=some (some v)->Vis X.env.scope x->∃ u,zT v u/\qhD X.env s.heap m x u
 cell:∀ x c,X.env.cells.lookup x=some c->∃ v,s.heap.IsCell c v
 free:H X.env.locals=none
 freeC:∀ x c,X.env.cells.lookup x=some c->H c=none
 pin:∀ p∈X.pn++pins,s.heap.get? p.1=some p.2/\H p.1=none/\p.1≠X.env.locals/\p.1∉X.fs/\∀ v,p.2.data≠.cell v
 hok:HOk X.prog X.w H s.heap
 len:σ.length=X.N.length
section
variable {X:Cx} {pins:List (Addr×Obj)} {σ:List (Option V)} {H H':Hp} {s:Shared} {h':Heap}
def Cx.Ok.nofr (ok:X.Ok) {b:Addr} {o:Obj} (e:X.base.get? b=some o):b∉X.fs:=λhb=>by
 have:=(ok.funs.mem hb).1;rw [e] at this;cases this
def Inv.bs (I:Inv X pins σ H s):∀ b o,X.base.get? b=some o->s.heap.get? b=some o/\H b=none:=λb o e=>
 ⟨I.base.keep b o (I.ok.bs b o e).1 (I.ok.bs b o e).2 (I.ok.nofr e) (I.ok.noex b o e),I.base.free b o (I.ok.bs b o e).1 (I.ok.bs b o e).2 (I.ok.noex b o e)⟩
def Inv.bk (I:Inv X pins σ H s):∀ b o,X.base.get? b=some o->s.heap.get? b=some o:=λb o e=>(I.bs b o e).1
def Inv.mod (I:Inv X pins σ H s):Mod X.K X.mg X.base:=I.ok.mod
def Inv.kIn (I:Inv X pins σ H s):X.K.In s.heap:=I.ok.mod.kin.keeps I.bk
def Inv.nolimit (I:Inv X pins σ H s):s.heap.NoLimit:=I.ok.mod.nolimit.keeps I.bk
def Inv.fr (I:Inv X pins σ H s):∃ m,Fr X.base X.env.locals s.heap m:=
 let ⟨m,hn,_⟩:=I.loc
 ⟨m,hn,I.bk,Nat.le_trans I.ok.bsz I.ok.above⟩
def Inv.lt (I:Inv X pins σ H s):X.env.locals<s.heap.objs.size:=let ⟨_,hn,_⟩:=I.loc;hn.lt
def Inv.sz (I:Inv X pins σ H s):X.s₀.heap.objs.size<=s.heap.objs.size:=Nat.le_trans I.ok.above (Nat.le_of_lt I.lt)
def Inv.nofs (I:Inv X pins σ H s) {a:Addr} (h:s.heap.objs.size<=a):a∉X.fs:=λhb=>by
 obtain ⟨_,o,ho,_⟩:=I.ok.funs.mem hb;exact absurd (Nat.lt_of_lt_of_le (Heap.lt_size ho) (Nat.le_trans I.sz h)) (Nat.lt_irrefl _)
def Inv.cne (I:Inv X pins σ H s):∀ x c,X.env.cells.lookup x=some c->c≠X.env.locals:=λx c e z=>by
 obtain ⟨v,o,ho,hd⟩:=I.cell x c e;obtain ⟨m,⟨o',es,ep,ho',hd',_⟩,_⟩:=I.loc;rw [z,ho'] at ho;cases ho;rw [hd'] at hd;cases hd
def Inv.funs (I:Inv X pins σ H s):s.heap.FunFrames X.base X.outer:=by
 have all:∀ (l:List Env),(∀ b∈frs l,b∈X.fs)->X.s₀.heap.FunFrames X.base l->s.heap.FunFrames X.base l:=by
  intro l;induction l with
  |nil=>intro _ _;trivial
  |cons env r ih=>
   intro hs hl;obtain ⟨hk,⟨L,o,hf,hn,ho,hd⟩,hr⟩:=hl;have hL:L∈X.fs:=hs L (by unfold frs;rw [List.filterMap_cons,hf];exact List.mem_cons_self);obtain ⟨sl,e⟩:=I.base.slot L o ho (I.ok.frf L hL) hL λz=>I.ok.exfs L z hL;exact ⟨hk,⟨L,_,hf,hn,e,hd⟩,ih (λb hb=>hs b (by unfold frs;rw [List.filterMap_cons,hf];exact List.mem_cons_of_mem _ hb)) hr⟩
 exact all X.outer (λ_ hb=>hb) I.ok.funs
def Inv.stack (I:Inv X pins σ H s):s.heap.FunFrames X.base X.stack:=by
 rcases I.ok.stk with e|⟨e,hf⟩
 ·rw [e];exact I.funs
 ·rw [e];obtain ⟨m,hn,_⟩:=I.loc;refine .cons (by rw [I.ok.kind];decide) hf hn ?_ I.funs;exact Heap.get?_none_of_le (Nat.le_trans I.ok.bsz I.ok.above)
def Inv.stkSub (I:Inv X pins σ H s):∀ b∈frs X.stack,b∈X.env.locals::X.fs:=λb hb=>by
 rcases I.ok.stk with e|⟨e,hf⟩
 ·rw [e] at hb;exact List.mem_cons_of_mem _ hb
 ·rw [e] at hb;unfold frs at hb;rw [List.filterMap_cons,hf] at hb;exact hb
def Inv.stkFree (I:Inv X pins σ H s):∀ b∈frs X.stack,H b=none:=λb hb=>by
 rcases mem_cons.mp (I.stkSub b hb) with e|hb
 ·rw [e];exact I.free
 ·obtain ⟨_,o,ho,_⟩:=I.ok.funs.mem hb;exact I.base.free b o ho (I.ok.frf b hb) λz=>I.ok.exfs b z hb
def Inv.step {g':Array GenState} {t':Nat} {d':Drawn} {ch:List Addr} (I:Inv X pins σ H s)
  (hch:∀ b∈ch,(b∈X.ex\/X.s₀.heap.objs.size<=b)/\b≠X.env.locals/\(∀ x c,X.env.cells.lookup x=some c->c≠b)/\∀ p∈X.pn++pins,p.1≠b)
  (keep:∀ b o,b≠X.env.locals->b∉X.fs->b∉ch->s.heap.get? b=some o->H b=none->h'.get? b=some o)
  (slot:∀ b o,b≠X.env.locals->b∈X.fs->b∉ch->s.heap.get? b=some o->H b=none->∃ sl,h'.get? b=some { o with slots:=sl }) (free:∀ b o,b∉ch->s.heap.get? b=some o->H b=none->H' b=none)
  (there:∀ b o,b∉ch->s.heap.get? b=some o->∃ o',h'.get? b=some o')
  (tups:∀ b xs,H b=some (.tup xs)->H' b=some (.tup xs)) (frzs:∀ b o u,H b=some (.frz o u)->H' b=some (.frz o u)) (tbls:∀ b ps,H b=some (.tbl ps)->∃ more,H' b=some (.tbl (ps++more)))
  (ns:∀ m,s.heap.Ns X.env.locals m->h'.Ns X.env.locals m) (hok:HOk X.prog X.w H' h') (hg:AllBare g') :
  Inv X pins σ H' { s with heap:=h',gens:=g',drawn:=d',toks:=t' }:=by
 have neL:∀ b o,X.s₀.heap.get? b=some o->b≠X.env.locals:=λb o e=>Nat.ne_of_lt (Nat.lt_of_lt_of_le (Heap.lt_size e) I.ok.above);have neC:∀ b o,X.s₀.heap.get? b=some o->b∉X.ex->b∉ch:=λb o e hx hb=>by
  rcases (hch b hb).1 with z|z
  ·exact hx z
  ·exact absurd (Nat.lt_of_lt_of_le (Heap.lt_size e) z) (Nat.lt_irrefl _)
 have cellK:∀ x c,X.env.cells.lookup x=some c->∀ v,s.heap.IsCell c v->h'.IsCell c v:=λx c e v ⟨o,ho,hd⟩=>by
  have nch:c∉ch:=λz=>(hch c z).2.2.1 x c e rfl;by_cases hc:c∈X.fs
  ·obtain ⟨sl,q⟩:=slot c o (I.cne x c e) hc nch ho (I.freeC x c e);exact ⟨_,q,hd⟩
  ·exact ⟨o,keep c o (I.cne x c e) hc nch ho (I.freeC x c e),hd⟩
 refine ⟨I.ok,I.os,hg,⟨λb o e n hb hx=>?_,λb o e n hb hx=>?_,λb o e n hx=>?_,λb o e hx=>?_,λb xs e=>tups b xs (I.base.tups b xs e),λb o xs e=>frzs b o xs (I.base.frzs b o xs e),λb ps e=>?_⟩,?_,λx c e=>?_,?_,λx c e=>?_,λp hp=>?_,hok,I.len⟩
 ·exact keep b o (neL b o e) hb (neC b o e hx) (I.base.keep b o e n hb hx) (I.base.free b o e n hx)
 ·obtain ⟨sl,e1⟩:=I.base.slot b o e n hb hx;obtain ⟨sl',e2⟩:=slot b _ (neL b o e) hb (neC b o e hx) e1 (I.base.free b o e n hx);exact ⟨sl',e2⟩
 ·obtain ⟨o',e1⟩:=I.base.there b o e hx;exact free b o' (neC b o e hx) e1 (I.base.free b o e n hx)
 ·obtain ⟨o',e1⟩:=I.base.there b o e hx;exact there b o' (neC b o e hx) e1
 ·obtain ⟨m1,e1⟩:=I.base.tbls b ps e;obtain ⟨m2,e2⟩:=tbls b _ e1;exact ⟨m1++m2,by rw [e2,Array.append_assoc]⟩
 ·obtain ⟨m,hn,hl⟩:=I.loc;refine ⟨m,ns m hn,λi x v e1 e2 e3=>?_⟩;obtain ⟨u,r,l⟩:=hl i x v e1 e2 e3;refine ⟨u,r,?_⟩;rcases l with l|⟨k,c,e,z⟩
  ·exact .inl l
  ·exact .inr ⟨k,c,e,cellK x c e _ z⟩
 ·obtain ⟨v,z⟩:=I.cell x c e;exact ⟨v,cellK x c e v z⟩
 ·obtain ⟨m,⟨o,_,_,ho,_⟩,_⟩:=I.loc;exact free _ o (λz=>(hch _ z).2.1 rfl) ho I.free
 ·obtain ⟨v,o,ho,hd⟩:=I.cell x c e;exact free c o (λz=>(hch c z).2.2.1 x c e rfl) ho (I.freeC x c e)
 ·obtain ⟨e,n,ne,nf,d⟩:=I.pin p hp;have nch:p.1∉ch:=λz=>(hch p.1 z).2.2.2 p hp rfl;exact ⟨keep p.1 p.2 ne nf nch e n,free p.1 p.2 nch e n,ne,nf,d⟩
def Inv.un {t':Nat} (I:Inv X pins σ H s) (u:Un X.fs [] H H' s.heap h') (hok:HOk X.prog X.w H' h'):Inv X pins σ H' { s with heap:=h',toks:=t' }:=by
 obtain ⟨m,⟨o,es,ep,ho,r⟩,_⟩:=id I.loc;obtain ⟨sl,hL⟩:=u.any ho I.free (by simp);exact I.step (g':=s.gens) (d':=s.drawn) (ch:=[]) (λ_ z=>nomatch z) (λb o _ hb _ e n=>u.keep b o e n hb (by simp)) (λb o _ hb _ e n=>u.slot b o e n hb (by simp)) (λb o _ e n=>u.free b o e n (by simp)) (λb o _ e=>u.there b o e (by simp)) u.tups u.frzs u.tbls (λm' hm=>by
  obtain ⟨o',es',ep',ho',r'⟩:=hm;rw [ho] at ho';cases ho';exact ⟨_,es',ep',hL,r'⟩) hok I.bare
def Inv.call {g':Array GenState} {t':Nat} {d':Drawn} {ch:List Addr} (I:Inv X pins σ H s) (u:Un (frs X.stack) ch H H' s.heap h') (hok:HOk X.prog X.w H' h') (hg:AllBare g')
  (hch:∀ b∈ch,(b∈X.ex\/X.s₀.heap.objs.size<=b)/\b≠X.env.locals/\(∀ x c,X.env.cells.lookup x=some c->c≠b)/\∀ p∈X.pn++pins,p.1≠b) :
  Inv X pins σ H' { s with heap:=h',gens:=g',drawn:=d',toks:=t' }:=by
 obtain ⟨m,⟨o,es,ep,ho,r⟩,_⟩:=id I.loc;obtain ⟨sl,hL⟩:=u.any ho I.free λz=>(hch _ z).2.1 rfl;exact I.step (ch:=ch) hch (λb o hL hb hc e n=>u.keep b o e n (λz=>(mem_cons.mp (I.stkSub b z)).elim hL hb) hc) (λb o _ _ hc e n=>u.any e n hc) (λb o hc e n=>u.free b o e n hc) (λb o hc e=>u.there b o e hc) u.tups u.frzs u.tbls (λm' hm=>by
  obtain ⟨o',es',ep',ho',r'⟩:=hm;rw [ho] at ho';cases ho';exact ⟨_,es',ep',hL,r'⟩) hok hg
def Inv.turned {t':Nat} {it:Addr} (I:Inv X pins σ H s) (k:∀ b o,b≠it->s.heap.get? b=some o->h'.get? b=some o) (hn:H it=none) (hL:it≠X.env.locals)
  (h1:it∈X.ex\/X.s₀.heap.objs.size<=it) (h2:∀ x c,X.env.cells.lookup x=some c->c≠it) (h3:∀ p∈X.pn++pins,p.1≠it):Inv X pins σ H { s with heap:=h',toks:=t' }:=by
 have nit:∀ b u,H b=some u->b≠it:=λb u e z=>by rw [z,hn] at e;cases e
 refine I.step (g':=s.gens) (d':=s.drawn) (ch:=[it]) (λb hb=>?_) (λb o _ _ hc e _=>k b o (λz=>hc (by simp [z])) e) (λb o _ _ hc e _=>⟨o.slots,k b o (λz=>hc (by simp [z])) e⟩) (λ_ _ _ _ n=>n)
  (λb o hc e=>⟨o,k b o (λz=>hc (by simp [z])) e⟩) (λ_ _ e=>e) (λ_ _ _ e=>e) (λb ps e=>⟨#[],by rw [e];simp⟩) (λm hm=>?_) (λb u e=>?_) I.bare
 ·have e:b=it:=by simpa using hb
  subst e;exact ⟨h1,hL,h2,h3⟩
 ·obtain ⟨o,es,ep,ho,r⟩:=hm;exact ⟨o,es,ep,k _ o (Ne.symm hL) ho,r⟩
 ·refine (I.hok b u e).stay (λc v hc q=>k c v ?_ q) (λ_ q=>q) λ_ _ q=>q;rcases hc with z|z
  ·rw [z];exact nit b u e
  ·exact nit c _ z
def Inv.tok (I:Inv X pins σ H s) (t:Nat):Inv X pins σ H { s with toks:=t }:=I.un (h':=s.heap) (t':=t) Un.refl I.hok
def Inv.kept {t':Nat} (I:Inv X pins σ H s) (k:∀ b u,s.heap.get? b=some u->h'.get? b=some u):Inv X pins σ H { s with heap:=h',toks:=t' }:=I.un (Un.kept k) (I.hok.kept k)
def Inv.laid {a:Addr} {o:HO} {t':Nat} (I:Inv X pins σ H s) (k:∀ b u,s.heap.get? b=some u->h'.get? b=some u) (hp:s.heap.objs.size<=a) (new:ZP X.prog X.w (upd H a o) h' a o) :
  Inv X pins σ (upd H a o) { s with heap:=h',toks:=t' }:=I.un (Un.laid k hp (I.hok.fresh hp)) (I.hok.laid k hp new)
def Inv.write {x e:Addr} {o:HO} {t':Nat} (I:Inv X pins σ H s) (mu:Mut (H x)) (he:e=x\/H e=some (.own x)) (k:∀ b u,b≠e->s.heap.get? b=some u->h'.get? b=some u) (heo:∃ u,h'.get? e=some u)
  (new:ZP X.prog X.w (upd H x o) h' x o):Inv X pins σ (upd H x o) { s with heap:=h',toks:=t' }:=I.un (Un.write mu he k heo) (I.hok.write mu he k heo new)
def Inv.pins_of {pins':List (Addr×Obj)} (I:Inv X pins σ H s) (h:∀ p∈pins',s.heap.get? p.1=some p.2/\H p.1=none/\p.1≠X.env.locals/\p.1∉X.fs/\∀ v,p.2.data≠.cell v):Inv X pins' σ H s:=
 ⟨I.ok,I.os,I.bare,I.base,I.loc,I.cell,I.free,I.freeC,λp hp=>(List.mem_append.mp hp).elim (λz=>I.pin p (List.mem_append_left _ z)) (h p),I.hok,I.len⟩
def WY {N:List Str} (hN:N.Nodup) {i j:Nat} {x:Str} (a:N[i]?=some x) (b:N[j]?=some x):i=j:=by
 obtain ⟨h1,e1⟩:=List.getElem?_eq_some_iff.mp a;obtain ⟨h2,e2⟩:=List.getElem?_eq_some_iff.mp b;exact (List.getElem_inj hN).mp (e1.trans e2.symm)
def TR {M:Model} {A:Around} {E:Value->Shared->Prop} {i:Nat} {x:Str} {v:V} {u:Value} {Q:Unit->Shared->Prop} (I:Inv X pins σ H s) (hN:X.N.Nodup) (hi:X.N[i]?=some x) (hx:Loc X.env.scope x) (r:zT v u)
  (h:∀ s',Inv X pins (σ.set i (some v)) H s'->(∃ a,Heap.SameBut a s.heap s'.heap/\(a=X.env.locals\/X.env.cells.lookup x=some a))->Q () s') (hf:X.fn x=true\/X.env.scope.names.lookup x=some .local:=by first|exact .inl rfl|exact .inr rfl|assumption):wpAny M A (storeName X.env x u) Q E s:=by
 obtain ⟨m,hn,hl⟩:=id I.loc;have hcls:(X.env.scope.kind==.class||(X.env.scope.kind==.module&&X.env.locals != X.env.globals))=false:=by rw [I.ok.kind];rfl
 have hiσ:i<σ.length:=by rw [I.len];exact (List.getElem?_eq_some_iff.mp hi).1
 have cne:=I.cne;have tracked:∀ {a:Addr} {h':Heap},(∃ o,s.heap.get? a=some o/\H a=none)->Heap.SameBut a s.heap h'->HOk X.prog X.w H h':=λ{a h'} ha hs b ob e=>by
  obtain ⟨_,_,hfree⟩:=ha;refine (I.hok b ob e).stay (λc w' hc q=>(hs.2 c ?_).trans q) (λ_ q=>q) λ_ _ q=>q;rintro rfl;rcases hc with rfl|hc
  ·rw [hfree] at e;cases e
  ·rw [hfree] at hc;cases hc
 rcases hx with hk|hk
 ·refine wpAny_storeName_local hk hn (λh' hn' hs=>?_) hcls;obtain ⟨oL,_,_,hoL,_⟩:=id hn;refine h _ ⟨I.ok,I.os,I.bare,⟨λb o e n hb hx=>?_,λb o e n hb hx=>?_,I.base.free,λb o e hx=>?_,I.base.tups,I.base.frzs,I.base.tbls⟩,⟨_,hn',λj y v' e1 e2 e3=>?_⟩,λy c e=>?_,I.free,I.freeC,λp hp=>?_,tracked ⟨oL,hoL,I.free⟩ hs,by simpa using I.len⟩ ⟨_,hs,.inl rfl⟩
  ·exact (hs.2 b (Nat.ne_of_lt (Nat.lt_of_lt_of_le (Heap.lt_size e) I.ok.above))).trans (I.base.keep b o e n hb hx)
  ·obtain ⟨sl,e1⟩:=I.base.slot b o e n hb hx;exact ⟨sl,(hs.2 b (Nat.ne_of_lt (Nat.lt_of_lt_of_le (Heap.lt_size e) I.ok.above))).trans e1⟩
  ·obtain ⟨o',e1⟩:=I.base.there b o e hx;exact ⟨o',(hs.2 b (Nat.ne_of_lt (Nat.lt_of_lt_of_le (Heap.lt_size e) I.ok.above))).trans e1⟩
  ·by_cases hj:j=i
   ·subst hj;rw [hi] at e1;cases e1;rw [List.getElem?_set_self hiσ] at e2;cases e2;exact ⟨u,r,.inl ⟨hk,by simp⟩⟩
   ·rw [List.getElem?_set_ne (Ne.symm hj)] at e2;obtain ⟨u',r',q⟩:=hl j y v' e1 e2 e3;refine ⟨u',r',?_⟩;rcases q with ⟨k,e⟩|⟨k,c,e,z⟩
    ·refine .inl ⟨k,?_⟩;have:y≠x:=λe=>hj (WY hN e1 (e▸hi));simp [this,e]
    ·exact .inr ⟨k,c,e,z.sameBut hs (cne y c e)⟩
  ·obtain ⟨w',z⟩:=I.cell y c e;exact ⟨w',z.sameBut hs (cne y c e)⟩
  ·obtain ⟨e,n,ne,nf,d⟩:=I.pin p hp;exact ⟨(hs.2 p.1 ne).trans e,n,ne,nf,d⟩
 ·have hfn:X.fn x=true:=by
   rcases hf with z|z
   ·exact z
   ·rw [z] at hk;cases hk
  obtain ⟨c,hc⟩:=I.ok.has x (.inl hk);obtain ⟨w',z⟩:=I.cell x c hc;refine wpAny_storeName_cell I.ok.kind hk hc z (λh' hc' hs=>?_);obtain ⟨oc,hoc,hocd⟩:=id z;refine h { s with heap:=h' } ⟨I.ok,I.os,I.bare,⟨λb o e n hb hx=>?_,λb o e n hb hx=>?_,I.base.free,λb o e hx=>?_,I.base.tups,I.base.frzs,I.base.tbls⟩,⟨m,hn.sameBut hs (Ne.symm (cne x c hc)),λj y v' e1 e2 e3=>?_⟩,λy c' e=>?_,I.free,I.freeC,λp hp=>?_,tracked ⟨oc,hoc,I.freeC x c hc⟩ hs,by simpa using I.len⟩ ⟨c,hs,.inr hc⟩
  ·exact (hs.2 b (Nat.ne_of_lt (Nat.lt_of_lt_of_le (Heap.lt_size e) (I.ok.cab x c hfn hc)))).trans (I.base.keep b o e n hb hx)
  ·obtain ⟨sl,e1⟩:=I.base.slot b o e n hb hx;exact ⟨sl,(hs.2 b (Nat.ne_of_lt (Nat.lt_of_lt_of_le (Heap.lt_size e) (I.ok.cab x c hfn hc)))).trans e1⟩
  ·obtain ⟨o',e1⟩:=I.base.there b o e hx;exact ⟨o',(hs.2 b (Nat.ne_of_lt (Nat.lt_of_lt_of_le (Heap.lt_size e) (I.ok.cab x c hfn hc)))).trans e1⟩
  ·by_cases hj:j=i
   ·subst hj;rw [hi] at e1;cases e1;rw [List.getElem?_set_self hiσ] at e2;cases e2;exact ⟨u,r,.inr ⟨.inl hk,c,hc,hc'⟩⟩
   ·rw [List.getElem?_set_ne (Ne.symm hj)] at e2;obtain ⟨u',r',q⟩:=hl j y v' e1 e2 e3;refine ⟨u',r',?_⟩;rcases q with q|⟨k,c',e,z'⟩
    ·exact .inl q
    ·refine .inr ⟨k,c',e,z'.sameBut hs ?_⟩;rintro rfl;exact hj (WY hN e1 (I.ok.inj _ _ _ e hc▸hi))
  ·by_cases hcc:c'=c
   ·subst hcc;exact ⟨_,hc'⟩
   ·obtain ⟨w2,z2⟩:=I.cell y c' e;exact ⟨w2,z2.sameBut hs hcc⟩
  ·obtain ⟨e,n,ne,nf,d⟩:=I.pin p hp;refine ⟨(hs.2 p.1 ?_).trans e,n,ne,nf,d⟩;intro q;rw [q,hoc] at e;have q':oc=p.2:=Option.some.inj e;exact d w' (by rw [← q'];exact hocd)
def JZ {M:Model} {A:Around} {E:Value->Shared->Prop} {i:Nat} {x:Str} {v:V} {u:Value} {Q:Unit->Shared->Prop} (I:Inv X pins σ H s) (hN:X.N.Nodup) (hi:X.N[i]?=some x) (hx:Loc X.env.scope x) (r:zT v u)
  (h:∀ s',Inv X pins (σ.set i (some v)) H s'->Q () s') (hf:X.fn x=true\/X.env.scope.names.lookup x=some .local:=by first|exact .inl rfl|exact .inr rfl|assumption):wpAny M A (storeName X.env x u) Q E s:=
 TR I hN hi hx r (λs' I' _=>h s' I') hf
def Inv.call' {s':Shared} {ch:List Addr} (I:Inv X pins σ H s) (ho:s'.os=s.os) (u:Un (frs X.stack) ch H H' s.heap s'.heap) (hok:HOk X.prog X.w H' s'.heap) (hg:AllBare s'.gens)
  (hch:∀ b∈ch,(b∈X.ex\/X.s₀.heap.objs.size<=b)/\b≠X.env.locals/\(∀ x c,X.env.cells.lookup x=some c->c≠b)/\∀ p∈X.pn++pins,p.1≠b):Inv X pins σ H' s':=by
 obtain ⟨h',g',d',t',o'⟩:=s';have e:o'=s.os:=ho;subst e;exact I.call (g':=g') (t':=t') (d':=d') u hok hg hch
end
abbrev XK:=Value->Option Addr->Hp->Prop
abbrev St:=List (Option V)
abbrev VK:=V->Hp->Prop
abbrev TE:=St->Hp->VK->Prop
abbrev TT:=St->Hp->(Bool->Hp->Prop)->Prop
abbrev TA:=St->Hp->(List V->Hp->Prop)->Prop
structure Ends where
 nx:St->Hp->Prop
 rt:VK
 bk:St->Hp->Prop:=λ_ _=>False
 ct:St->Hp->Prop:=λ_ _=>False
abbrev TS:=Ends->St->Hp->Prop
def EP (X:Cx) (pins:List (Addr×Obj)) (σ:St) (Q:VK) (u:Value) (s':Shared):Prop:=∃ v H',Inv X pins σ H' s'/\zT v u/\Q v H'
def TP (X:Cx) (pins:List (Addr×Obj)) (σ:St) (Q:Bool->Hp->Prop) (b:Bool) (s':Shared):Prop:=∃ H',Inv X pins σ H' s'/\Q b H'
def AP (X:Cx) (pins:List (Addr×Obj)) (σ:St) (Q:List V->Hp->Prop) (us:List Value) (s':Shared):Prop:=∃ vs H',Inv X pins σ H' s'/\zn vs us/\Q vs H'
def SP (X:Cx) (pins:List (Addr×Obj)) (D:Ends) (f:Flow) (s':Shared):Prop:=
 match f with
 |.next=>∃ σ' H',Inv X pins σ' H' s'/\D.nx σ' H'
 |.brk=>∃ σ' H',Inv X pins σ' H' s'/\D.bk σ' H'
 |.cont=>∃ σ' H',Inv X pins σ' H' s'/\D.ct σ' H'
 |.ret u=>∃ v σ' H',Inv X pins σ' H' s'/\zT v u/\D.rt v H'
def PE (X:Cx) (e:Expr) (t:TE):Prop:=
 ∀ (pins:List (Addr×Obj)) (s:Shared) (σ:St) (H:Hp) (Q:VK),Inv X pins σ H s->t σ H Q->wpAny (model X.prog X.w) X.A (eval e X.env) (EP X pins σ Q) X.xe s
def PT (X:Cx) (e:Expr) (t:TT):Prop:=
 ∀ (pins:List (Addr×Obj)) (s:Shared) (σ:St) (H:Hp) (Q:Bool->Hp->Prop),Inv X pins σ H s->t σ H Q->wpAny (model X.prog X.w) X.A (isTrue e X.env (eval e X.env)) (TP X pins σ Q) X.xe s
def PW (X:Cx) (e:Expr) (t:TT):Prop:=
 ∀ (whole:Sem Value) (pins:List (Addr×Obj)) (s:Shared) (σ:St) (H:Hp) (Q:Bool->Hp->Prop),Inv X pins σ H s->t σ H Q->wpAny (model X.prog X.w) X.A (isTrue e X.env whole) (TP X pins σ Q) X.xe s
def PW.pt {X:Cx} {e:Expr} {t:TT} (h:PW X e t):PT X e t:=h _
def PA (X:Cx) (es:List Expr) (t:TA):Prop:=
 ∀ (pos:Pos) (pins:List (Addr×Obj)) (s:Shared) (σ:St) (H:Hp) (Q:List V->Hp->Prop),Inv X pins σ H s->t σ H Q->wpAny (model X.prog X.w) X.A (spliced (backTo pos (starEach es X.env))) (AP X pins σ Q) X.xe s
def PS (X:Cx) (st:Stmt) (t:TS):Prop:=
 ∀ (pins:List (Addr×Obj)) (s:Shared) (σ:St) (H:Hp) (D:Ends),Inv X pins σ H s->t D σ H->wpAny (model X.prog X.w) X.A (exec st X.env) (SP X pins D) X.xe s
def PSs (X:Cx) (st:List Stmt) (t:TS):Prop:=
 ∀ (pins:List (Addr×Obj)) (s:Shared) (σ:St) (H:Hp) (D:Ends),Inv X pins σ H s->t D σ H->wpAny (model X.prog X.w) X.A (execs st X.env) (SP X pins D) X.xe s
def thn {α:Type} {t:Sem α} {Q Q':α->Shared->Prop} {M:Model} {A:Around} {E:Value->Shared->Prop} {s:Shared} (h:wpAny M A t Q E s) (hQ:∀ a s,Q a s->Q' a s):wpAny M A t Q' E s:=wpAny_mono h hQ λ_ _ x=>x
section
variable {X:Cx}
def qhm (i:Nat):TE:=λσ H Q=>∃ v,σ[i]?=some (some v)/\Q v H
def tC (v:V):TE:=λ_ H Q=>Q v H
def qeh {i:Nat} {x:Str} {pos:Pos} (hN:X.N[i]?=some x) (hv:Vis X.env.scope x) (hd:(x==("__debug__" : Str))=false:=by decide) (hcd:(x==("__classdict__" : Str))=false:=by decide):PE X (.Name x pos) (qhm i):=by
 intro pins s σ H Q I h;obtain ⟨v,e,h⟩:=h;obtain ⟨m,hn,hl⟩:=I.loc;obtain ⟨u,r,l⟩:=hl i x v hN e hv;have fin:EP X pins σ Q u s:=⟨v,H,I,r,h⟩
 rcases l with ⟨hk,hm⟩|⟨hk,c,hc,hcell⟩
 ·exact wpAny_Name (wpAny_loadName_local I.ok.kind hk hn hm fin) hd
 ·rcases hk with hk|hk
  ·exact wpAny_Name (wpAny_loadName_cell I.ok.kind hk hc hcell fin) hd
  ·exact wpAny_Name (wpAny_loadName_free I.ok.kind hk hc hcell fin hcd) hd
def qb7 {i j pos}:PE X (.Constant (.int i) j pos) (tC (.int i)):=λ_ _ _ H _ I h=>wpAny_Constant_int ⟨.int i,H,I.tok _,⟨_,rfl⟩,h⟩
def qf5 {b j pos}:PE X (.Constant (.bool b) j pos) (tC (.bl b)):=λ_ _ _ H _ I h=>Constant_bool ⟨.bl b,H,I,rfl,h⟩
def qd6 {j pos}:PE X (.Constant .none j pos) (tC .non):=λ_ _ _ H _ I h=>Constant_none ⟨.non,H,I,rfl,h⟩
def qbU {x j pos}:PE X (.Constant (.str x) j pos) (tC (.str x)):=λ_ _ _ H _ I h=>Calls.Constant_str ⟨.str x,H,I.tok _,⟨_,rfl⟩,h⟩
def Gl (X:Cx) (x:Str):Prop:=X.env.kindOf x=some .globalImplicit
def CZ {E:Value->Shared->Prop} {pins:List (Addr×Obj)} {s:Shared} {σ:St} {H:Hp} {x:Str} {u:Value} {pos:Pos} {Q:Value->Shared->Prop} (I:Inv X pins σ H s) (hg:Gl X x) (hm:X.mg x=some u) (h:Q u s)
  (hd:(x==("__debug__" : Str))=false:=by decide):wpAny (model X.prog X.w) X.A (eval (.Name x pos) X.env) Q E s:=
 Calls.Name_function_global I.ok.kind hg (Calls.loadGlobal_global (by rw [I.ok.glob];exact I.mod.glob.keeps I.bk) hm h) hd
def YR {E:Value->Shared->Prop} {pins:List (Addr×Obj)} {s:Shared} {σ:St} {H:Hp} {x:Str} {u:Value} {pos:Pos} {Q:Value->Shared->Prop} (I:Inv X pins σ H s) (hg:Gl X x) (hm:X.mg x=none) (hv:bootBuiltins x=some u) (h:Q u s)
  (hn:x≠"__name__" := by decide) (hd:(x==("__debug__" : Str))=false:=by decide):wpAny (model X.prog X.w) X.A (eval (.Name x pos) X.env) Q E s:=by
 obtain ⟨mb,h1,h2⟩:=I.mod.blt;exact Calls.Name_function_global I.ok.kind hg (Calls.loadGlobal_builtin (by rw [I.ok.glob];exact I.mod.glob.keeps I.bk) hm (by rw [I.ok.blt];exact h1.keeps I.bk) ((h2 x hn).trans hv) h) hd
def qbk {x:Str} {v:V} {u:Value} {pos:Pos} (hg:Gl X x) (hm:X.mg x=some u) (r:zT v u) (hd:(x==("__debug__" : Str))=false:=by decide):PE X (.Name x pos) (tC v):=
 λ_ _ _ H _ I h=>CZ I hg hm ⟨v,H,I,r,h⟩ hd
def qbt {x:Str} {v:V} {u:Value} {pos:Pos} (hg:Gl X x) (hm:X.mg x=none) (hv:bootBuiltins x=some u) (r:zT v u) (hn:x≠"__name__" := by decide) (hd:(x==("__debug__" : Str))=false:=by decide):PE X (.Name x pos) (tC v):=
 λ_ _ _ H _ I h=>YR I hg hm hv ⟨v,H,I,r,h⟩ hn hd
variable {a b:Expr} {ta tb:TE} {pos:Pos}
def tB (t:TE):TT:=λσ H Q=>t σ H λx H1=>∃ c,x=.bl c/\Q c H1
def qcJ {e:Expr} {t:TE} (h:PE X e t) (he:∀ whole,isTrue e X.env whole=(do let v←whole;standAt e.pos;holding [v] (truthy v)):=by intro _;rfl):PT X e (tB t):=by
 intro pins s σ H Q I hw;refine isTrue_plain (thn (h pins s σ H _ I hw) λv s1 ⟨x,H1,I1,r1,q1⟩=>?_) (he _);obtain ⟨d,rfl,q⟩:=q1;cases r1;exact wpAny_truthy_bool ⟨H1,I1,q⟩
variable {tA tB':TT} {je:List Expr}
def tOr (t u:TT):TT:=λσ H Q=>t σ H λc H1=>if c=true then Q true H1 else u σ H1 Q
def qhp (t:TT):TT:=λσ H Q=>t σ H λc H1=>Q (!c) H1
def qdO (ha:PT X a tA):PW X (.BoolOp .Or [a] pos) tA:=by
 intro wh pins s σ H Q I h;refine isTrue_or (thn (ha pins s σ H Q I h) λc s1 e=>?_);cases c with
 |false=>exact isTrue_or_nil e
 |true=>exact e
def qgc (ha:PT X a tA) (hb:PW X (.BoolOp .Or (b::je) pos) tB'):PW X (.BoolOp .Or (a::b::je) pos) (tOr tA tB'):=by
 intro wh pins s σ H Q I h;refine isTrue_or (thn (ha pins s σ H _ I h) λc s1 ⟨H1,I1,q1⟩=>?_);cases c with
 |true=>exact ⟨H1,I1,q1⟩
 |false=>exact hb wh pins s1 σ H1 Q I1 q1
def qb8 (ha:PT X a tA):PT X (.UnaryOp .Not a pos) (qhp tA):=by
 intro pins s σ H Q I h;exact isTrue_not (ha pins s σ H (λc H1=>Q (!c) H1) I h)
def qfP (ta tb:TE):TE:=λσ H Q=>ta σ H λx H1=>∃ c,x=.bl c/\if c=true then tb σ H1 Q else Q (.bl false) H1
def qhc (ta tb:TE):TE:=λσ H Q=>ta σ H λx H1=>∃ c,x=.bl c/\if c=true then Q (.bl true) H1 else tb σ H1 Q
def qfT (ta:TE):TE:=λσ H Q=>ta σ H λx H1=>∃ c,x=.bl c/\Q (.bl (!c)) H1
def qbI {op} {t:TE} (h:PE X a t):PE X (.BoolOp op [a] pos) t:=λpins s σ H Q I hw=>BoolOp_one (h pins s σ H Q I hw)
def qcY (ha:PE X a ta) (hb:PE X (.BoolOp .And (b::je) pos) tb):PE X (.BoolOp .And (a::b::je) pos) (qfP ta tb):=by
 intro pins s σ H Q I h;refine BoolOp_and (thn (ha pins s σ H _ I h) λv s1 ⟨x,H1,I1,r1,q1⟩=>?_);obtain ⟨c,rfl,q1⟩:=q1;cases r1;refine wpAny_truthy_bool ?_;cases c with
 |true=>exact hb pins s1 σ H1 Q I1 q1
 |false=>exact ⟨.bl false,H1,I1,rfl,q1⟩
def qfh (ha:PE X a ta) (hb:PE X (.BoolOp .Or (b::je) pos) tb):PE X (.BoolOp .Or (a::b::je) pos) (qhc ta tb):=by
 intro pins s σ H Q I h;refine BoolOp_or (thn (ha pins s σ H _ I h) λv s1 ⟨x,H1,I1,r1,q1⟩=>?_);obtain ⟨c,rfl,q1⟩:=q1;cases r1;refine wpAny_truthy_bool ?_;cases c with
 |false=>exact hb pins s1 σ H1 Q I1 q1
 |true=>exact ⟨.bl true,H1,I1,rfl,q1⟩
def qbV (ha:PE X a ta):PE X (.UnaryOp .Not a pos) (qfT ta):=by
 intro pins s σ H Q I h;refine UnaryOp_ (thn (ha pins s σ H _ I h) λv s1 ⟨x,H1,I1,r1,q1⟩=>?_);obtain ⟨c,rfl,q1⟩:=q1;cases r1;exact not_of (wpAny_truthy_bool ⟨.bl (!c),H1,I1,rfl,q1⟩)
def tIf (t:TT) (ta tb:TE):TE:=λσ H Q=>t σ H λc H1=>if c=true then ta σ H1 Q else tb σ H1 Q
def LC {c:Expr} (hc:PT X c tA) (ha:PE X a ta) (hb:PE X b tb):PE X (.IfExp c a b pos) (tIf tA ta tb):=by
 intro pins s σ H Q I h;refine wpAny_IfExp (thn (hc pins s σ H _ I h) λd s1 ⟨H1,I1,q1⟩=>?_);cases d with
 |true=>exact ha pins s1 σ H1 Q I1 q1
 |false=>exact hb pins s1 σ H1 Q I1 q1
end
def SqL (K:Frg) (H:Hp) (a:Addr) (xs:List V):Prop:=
 Rd H a (.lst xs) ∨
  ∃ (o:Obj) (its:Array Value) (n:Nat),K.lookup a=some o/\o.cls=.type "list"/\o.dict=none/\o.data=.seq its n/\its.size<=sizeLine/\zn xs its.toList
def SqT (K:Frg) (H:Hp) (a:Addr) (xs:List V):Prop:=
 Rd H a (.tup xs) ∨
  ∃ (o:Obj) (its:Array Value) (n:Nat),K.lookup a=some o/\o.cls=.type "tuple"/\o.data=.seq its n/\its.size<=sizeLine/\zn xs its.toList
def qhx:Value->Option V
 |.none=>some .non
 |.bool b=>some (.bl b)
 |.int i _=>some (.int i)
 |.str x _=>some (.str x)
 |.bytes b _=>some (.byt b)
 |.float b _=>some (.flt b)
 |.ref a=>some (.ref a)
 |.type n=>some (.ty n)
 |_=>none
def zT.abs {x:V} {u:Value} (r:zT x u):qhx u=some x:=by
 cases x with
 |non=>cases r;rfl
 |bl _=>cases r;rfl
 |int _=>obtain ⟨t,rfl⟩:=r;rfl
 |str _=>obtain ⟨t,rfl⟩:=r;rfl
 |byt _=>obtain ⟨t,rfl⟩:=r;rfl
 |flt _=>obtain ⟨t,rfl⟩:=r;rfl
 |ref _=>cases r;rfl
 |ty _=>cases r;rfl
def zT.inj {x y:V} {u:Value} (r:zT x u) (q:zT y u):x=y:=Option.some.inj (r.abs.symm.trans q.abs)
def zn.inj:∀ {xs ys:List V} {us:List Value},zn xs us->zn ys us->xs=ys
 |_,_,_,.nil,.nil=>rfl
 |_,_,_,.cons r t,.cons r' t'=>by rw [r.inj r',zn.inj t t']
section
variable {X:Cx} {pins:List (Addr×Obj)} {σ:St} {H:Hp} {s:Shared} {a:Addr} {xs ys:List V}
def SqL.of {K:Frg} (h:H a=some (.lst xs)):SqL K H a xs:=.inl (.inl h)
def SqT.of {K:Frg} (h:H a=some (.tup xs)):SqT K H a xs:=.inl (.inl h)
def Inv.list (I:Inv X pins σ H s) (h:SqL X.K H a xs):∃ its:List Value,zn xs its/\PlainL s.heap a its.toArray/\xs.length<=sizeLine:=by
 rcases h with h|⟨o,its,n,hk,hc,hd,hs,hz,r⟩
 ·obtain ⟨z,its,n,r,e⟩:=h.ok I.hok;exact ⟨its,r,⟨_,n,e,rfl,rfl,rfl⟩,z⟩
 ·refine ⟨its.toList,r,⟨o,n,I.kIn a o hk,hc,hd,by simpa using hs⟩,?_⟩;have e:=r.length;simp only [Array.length_toList] at e;omega
def Inv.tuple (I:Inv X pins σ H s) (h:SqT X.K H a xs):∃ its:List Value,zn xs its/\IsTup s.heap a its.toArray/\xs.length<=sizeLine:=by
 rcases h with h|⟨o,its,n,hk,hc,hs,hz,r⟩
 ·obtain ⟨z,its,r,p⟩:=h.ok I.hok;exact ⟨its,r,p,z⟩
 ·refine ⟨its.toList,r,⟨o,I.kIn a o hk,hc,n,by simpa using hs⟩,?_⟩;have e:=r.length;simp only [Array.length_toList] at e;omega
def Inv.list_inj (I:Inv X pins σ H s) (h:SqL X.K H a xs) (h':SqL X.K H a ys):xs=ys:=by
 obtain ⟨its,r,⟨o,n,e,_,_,d⟩,_⟩:=I.list h;obtain ⟨its',r',⟨o',n',e',_,_,d'⟩,_⟩:=I.list h';rw [e] at e';cases e';rw [d] at d';injection d' with d1 _;have:its=its':=by simpa using congrArg Array.toList d1
 subst this;exact r.inj r'
def Inv.tuple_inj (I:Inv X pins σ H s) (h:SqT X.K H a xs) (h':SqT X.K H a ys):xs=ys:=by
 obtain ⟨its,r,⟨o,e,_,n,d⟩,_⟩:=I.tuple h;obtain ⟨its',r',⟨o',e',_,n',d'⟩,_⟩:=I.tuple h';rw [e] at e';cases e';rw [d] at d';injection d' with d1 _;have:its=its':=by simpa using congrArg Array.toList d1
 subst this;exact r.inj r'
end
abbrev Cx.wish (X:Cx) (E:Value->Shared->Prop):Cx:={ X with xe:=E }
abbrev Cx.nox (X:Cx):Cx:=X.wish λ_ _=>False
def Cx.Ok.wish {X:Cx} (ok:X.Ok) (E:Value->Shared->Prop):(X.wish E).Ok:=
 ⟨ok.mod,ok.kind,ok.glob,ok.blt,ok.above,ok.inj,ok.has,ok.cab,ok.hd,ok.frames,ok.stk,ok.exf,ok.bs,ok.bsz,ok.noex,ok.exfs,ok.funs,ok.frf⟩
def Cx.Ok.unwish {X:Cx} {E:Value->Shared->Prop} (ok:(X.wish E).Ok):X.Ok:=
 ⟨ok.mod,ok.kind,ok.glob,ok.blt,ok.above,ok.inj,ok.has,ok.cab,ok.hd,ok.frames,ok.stk,ok.exf,ok.bs,ok.bsz,ok.noex,ok.exfs,ok.funs,ok.frf⟩
section
variable {X:Cx} {pins:List (Addr×Obj)} {σ:St} {H:Hp} {s:Shared} {E:Value->Shared->Prop}
def Inv.wish (I:Inv X pins σ H s) (E:Value->Shared->Prop):Inv (X.wish E) pins σ H s:=⟨I.ok.wish E,I.os,I.bare,I.base,I.loc,I.cell,I.free,I.freeC,I.pin,I.hok,I.len⟩
def Inv.unwish (I:Inv (X.wish E) pins σ H s):Inv X pins σ H s:=⟨I.ok.unwish,I.os,I.bare,I.base,I.loc,I.cell,I.free,I.freeC,I.pin,I.hok,I.len⟩
def SP.unwish {D:Ends} {f:Flow} {s':Shared} (h:SP (X.wish E) pins D f s'):SP X pins D f s':=by
 cases f with
 |next=>obtain ⟨σ',H',I,q⟩:=h;exact ⟨σ',H',I.unwish,q⟩
 |brk=>obtain ⟨σ',H',I,q⟩:=h;exact ⟨σ',H',I.unwish,q⟩
 |cont=>obtain ⟨σ',H',I,q⟩:=h;exact ⟨σ',H',I.unwish,q⟩
 |ret u=>obtain ⟨v,σ',H',I,r,q⟩:=h;exact ⟨v,σ',H',I.unwish,r,q⟩
def PSs.nox {st:List Stmt} {t:TS} (h:PSs X.nox st t):PSs X st t:=λpins s σ H D I hw=>
 wpAny_mono (h pins s σ H D (I.wish _) hw) (λ_ _ q=>q.unwish) λ_ _ z=>False.elim z
end
section
variable {X:Cx} {st:Stmt} {je:List Stmt} {t u:TS} {e:Expr} {te:TE} {pos:Pos}
def qgf:TS:=λD σ H=>D.nx σ H
def qhK (t u:TS):TS:=λD σ H=>t { D with nx:=u D } σ H
def qaV:PSs X [] qgf:=λ_ _ σ H _ I h=>wpAny_execs_nil ⟨σ,H,I,h⟩
def KU (h1:PS X st t) (h2:PSs X je u):PSs X (st::je) (qhK t u):=by
 intro pins s σ H D I h;refine wpAny_execs_cons (thn (h1 pins s σ H { D with nx:=u D } I h) λf s1 q=>?_);cases f with
 |next=>
  obtain ⟨σ',H',I',q⟩:=q;exact h2 pins s1 σ' H' D I' q
 |ret v=>exact q
 |brk=>exact q
 |cont=>exact q
def qbd (h1:PS X st t):PSs X [st] t:=by
 intro pins s σ H D I h;refine wpAny_execs_cons (thn (h1 pins s σ H D I h) λf s1 q=>?_);cases f with
 |next=>exact wpAny_execs_nil q
 |ret v=>exact q
 |brk=>exact q
 |cont=>exact q
def Inv.quiet {pins:List (Addr×Obj)} {σ:St} {H:Hp} {s:Shared} (I:Inv X pins σ H s):interactive X.env=false:=by simp [interactive,I.ok.kind]
def qgw (te:TE):TS:=λD σ H=>te σ H λ_ H1=>D.nx σ H1
def qbs (he:PE X e te) (hs:swapsWith e none pos.line X.env=pure false:=by rfl):PS X (.Expr e pos) (qgw te):=by
 intro pins s σ H D I h;exact wpAny_Expr_any (thn (he pins s σ H _ I h) λv s1 ⟨x,H1,I1,r1,q1⟩=>⟨σ,H1,I1,q1⟩) I.quiet hs
def qhL (te:TE):TS:=λD σ H=>te σ H D.rt
def qdR (he:PE X e te):PS X (.Return (some e) pos) (qhL te):=by
 intro pins s σ H D I h;exact wpAny_Return_some (thn (he pins s σ H _ I h) λv s1 ⟨x,H1,I1,r1,q1⟩=>⟨x,σ,H1,I1,r1,q1⟩)
def qhq (c:TT) (t u:TS):TS:=λD σ H=>c σ H λb H1=>if b=true then t D σ H1 else u D σ H1
def qgt {c:Expr} {a b:List Stmt} {tc:TT} (hc:PT X c tc) (ha:PSs X a t) (hb:PSs X b u):PS X (.If c a b pos) (qhq tc t u):=by
 intro pins s σ H D I h;refine wpAny_If (thn (hc pins s σ H _ I h) λd s1 ⟨H1,I1,q1⟩=>?_);cases d with
 |true=>exact ha pins s1 σ H1 D I1 q1
 |false=>exact hb pins s1 σ H1 D I1 q1
end
abbrev TG:=V->St->Hp->(St->Hp->Prop)->Prop
abbrev TGs:=List V->St->Hp->(St->Hp->Prop)->Prop
def PG (X:Cx) (target:Expr) (t:TG):Prop:=
 ∀ (pins:List (Addr×Obj)) (s:Shared) (σ:St) (H:Hp) (v:V) (u:Value) (Q:St->Hp->Prop),Inv X pins σ H s->zT v u->t v σ H Q ->
  wpAny (model X.prog X.w) X.A (assign target X.env u) (λ_ s'=>∃ σ' H',Inv X pins σ' H' s'/\Q σ' H') X.xe s
def PGs (X:Cx) (ts:List Expr) (t:TGs):Prop:=
 ∀ (pins:List (Addr×Obj)) (s:Shared) (σ:St) (H:Hp) (vs:List V) (us:List Value) (Q:St->Hp->Prop),Inv X pins σ H s->zn vs us->t vs σ H Q ->
  wpAny (model X.prog X.w) X.A (assignInOrder ((assignEach ts X.env).map (·.2)) us) (λ_ s'=>∃ σ' H',Inv X pins σ' H' s'/\Q σ' H') X.xe s
abbrev qfL:=V->V->V->Hp->(Hp->Prop)->Prop
def qai (X:Cx) (t:qfL):Prop:=
 ∀ (pins:List (Addr×Obj)) (s:Shared) (σ:St) (H:Hp) (o i v:V) (ov iv u:Value) (Q:Hp->Prop),Inv X pins σ H s->zT o ov->zT i iv->zT v u->t o i v H Q ->
  wpAny (model X.prog X.w) X.A (setItem ov iv u) (λ_ s'=>∃ H',Inv X pins σ H' s'/\Q H') X.xe s
section
variable {X:Cx} {pos:Pos}
def qb9 (i:Nat):TG:=λv σ H Q=>Q (σ.set i (some v)) H
def qbw {i:Nat} {x:Str} (hN:X.N.Nodup) (hi:X.N[i]?=some x) (hx:Loc X.env.scope x) (hf:X.fn x=true\/X.env.scope.names.lookup x=some .local:=by first|exact .inl rfl|exact .inr rfl|assumption):PG X (.Name x pos) (qb9 i):=by
 intro pins s σ H v u Q I r h;exact wpAny_assign_Name (JZ I hN hi hx r (λs' I'=>⟨_,H,I',h⟩) hf)
def qeX:TGs:=λvs σ H Q=>vs=[]/\Q σ H
def TW (t:TG) (u:TGs):TGs:=λvs σ H Q=>∃ v r,vs=v::r/\t v σ H λσ' H'=>u r σ' H' Q
def qa5:PGs X [] qeX:=by
 intro pins s σ H vs us Q I r h;obtain ⟨e,h⟩:=h;subst e;cases r;exact assignInOrder_nil ⟨σ,H,I,h⟩
def KL {e:Expr} {es:List Expr} {t:TG} {u:TGs} (h1:PG X e t) (h2:PGs X es u)
  (hs:(assignEach (e::es) X.env).map (·.2)=assign e X.env::(assignEach es X.env).map (·.2):=by rfl):PGs X (e::es) (TW t u):=by
 intro pins s σ H vs us Q I r h;obtain ⟨v,vr,e1,h⟩:=h;subst e1;cases r with
 |cons r rr=>
  rw [hs];refine assignInOrder_cons (thn (h1 pins s σ H _ _ _ I r h) λ_ s1 ⟨σ1,H1,I1,q1⟩=>?_);exact h2 pins s1 σ1 H1 _ _ Q I1 rr q1
def qeM (K:Frg) (n:Nat) (t:TGs):TG:=λv σ H Q=>∃ a xs,v=.ref a/\SqT K H a xs/\xs.length=n/\t xs σ H Q
def qdI {es:List Expr} {k:Nat} {t:TGs} {n:Nat} (hc:X.calm=true) (h:PGs X es t)
  (hn:(assignEach es X.env).length=n:=by rfl) (hst:(assignEach es X.env).findIdx? (·.1)=none:=by rfl):PG X (.Tuple es k pos) (qeM X.K n t):=by
 intro pins s σ H v u Q I r hw;obtain ⟨a,xs,e1,hq,hl,hw⟩:=hw;subst e1;cases r;obtain ⟨its,rv,ht,hz⟩:=I.tuple hq;refine assign_Tuple_tuple (I.ok.hd hc) ht (by simp [hn,← hl,rv.length]) hst λh' hx=>?_;have I1:Inv X pins σ H { s with heap:=h' }:=I.kept (t':=s.toks) λb o e=>hx b o (Nat.ne_of_lt (Heap.lt_size e)) e;exact h pins _ σ H xs _ Q I1 (by simpa using rv) hw
def qhe (to ti:TE) (t:qfL):TG:=λv σ H Q=>to σ H λo H1=>ti σ H1 λi H2=>t o i v H2 λH3=>Q σ H3
def qbW {o i:Expr} {to ti:TE} {t:qfL} (ho:PE X o to) (hi:PE X i ti) (hs:qai X t)
  (ha:∀ v,assign (.Subscript o i pos) X.env v=(do
   let ov←holding [v] (eval o X.env)
   let iv←holding [v,ov] (eval i X.env)
   standAt pos
   holding [v,ov,iv] (setItem ov iv v)
   release [v,ov,iv] []):=by intro _;rfl):PG X (.Subscript o i pos) (qhe to ti t):=by
 intro pins s σ H v u Q I r h;rw [ha];refine wpAny_bind (wpAny_holding (thn (ho pins s σ H _ I h) λov s1 ⟨x,H1,I1,r1,q1⟩=>?_));refine wpAny_bind (wpAny_holding (thn (hi pins s1 σ H1 _ I1 q1) λiv s2 ⟨y,H2,I2,r2,q2⟩=>?_));refine wpAny_bind (wpAny_standAt (wpAny_bind (wpAny_holding (thn (hs pins s2 σ H2 x y v ov iv u _ I2 r1 r2 r q2) λ_ s3 ⟨H3,I3,q3⟩=>?_))));exact wpAny_release ⟨σ,H3,I3,q3⟩
def qgO (te:TE) (g:TG):TS:=λD σ H=>te σ H λx H1=>g x σ H1 D.nx
def qeu {tg e:Expr} {te:TE} {g:TG} (he:PE X e te) (hg:PG X tg g) (hs:swapsWithSole [tg] e pos.line X.env=pure false:=by rfl) (hw:swappedStores [tg] e X.env=pure none:=by rfl)
  (h1:(assignEach [tg] X.env).map (·.2)=[assign tg X.env]:=by rfl):PS X (.Assign [tg] e pos) (qgO te g):=by
 intro pins s σ H D I h;refine wpAny_Assign_stores (thn (he pins s σ H _ I h) λv s1 ⟨x,H1,I1,r1,q1⟩=>?_) hs hw;rw [h1];exact thn (hg pins s1 σ H1 x v _ I1 r1 q1) λ_ s2 q=>q
def qbP {i:Nat} {x:Str} {e:Expr} {te:TE} {pos':Pos} (hN:X.N.Nodup) (hi:X.N[i]?=some x) (hx:Loc X.env.scope x) (he:PE X e te) (hs:swapsWith e (some (.Name x pos')) pos.line X.env=pure false:=by rfl) (hf:X.fn x=true\/X.env.scope.names.lookup x=some .local:=by first|exact .inl rfl|exact .inr rfl|assumption) :
  PS X (.Assign [.Name x pos'] e pos) (qgO te (qb9 i)):=by
 intro pins s σ H D I h;refine wpAny_Assign_Name (thn (he pins s σ H _ I h) λv s1 ⟨y,H1,I1,r1,q1⟩=>?_) hs;exact JZ I1 hN hi hx r1 (λs2 I2=>⟨_,H1,I2,q1⟩) hf
def qhw (i j:Nat) (ta:TA):TS:=λD σ H=>ta σ H λvs H1=>∃ v w,vs=[v,w]/\D.nx ((σ.set i (some v)).set j (some w)) H1
def qcr {i j:Nat} {x y:Str} {a b:Expr} {ta:TA} {px py pt:Pos} {kt k2 pt2} (hc:X.calm=true) (hN:X.N.Nodup) (hi:X.N[i]?=some x) (hj:X.N[j]?=some y) (hij:i≠j)
  (hx:X.env.scope.names.lookup x=some .local) (hy:X.env.scope.names.lookup y=some .local) (ha:PA X [a,b] ta)
  (hw:swappedStores [.Tuple [.Name x px,.Name y py] kt pt] (.Tuple [a,b] k2 pt2) X.env=pure (some [x,y]))
  (hs:swapsWithSole [.Tuple [.Name x px,.Name y py] kt pt] (.Tuple [a,b] k2 pt2) pos.line X.env=pure false:=by rfl) :
  PS X (.Assign [.Tuple [.Name x px,.Name y py] kt pt] (.Tuple [a,b] k2 pt2) pos) (qhw i j ta):=by
 intro pins s σ H D I h;rw [exec_Assign_arm];refine wpAny_bind (wpAny_standAt ?_);rw [hs];refine wpAny_bind (wpAny_pure ?_);rw [if_neg (by decide)];refine wpAny_bind (Tuple_ (thn (ha _ pins s σ H _ I h) λus s1 ⟨vs,H1,I1,r1,q1⟩=>?_));obtain ⟨v,w,e1,q1⟩:=q1;subst e1;obtain ⟨u1,u2,rfl,rv,rw'⟩:∃ u1 u2,us=[u1,u2]/\zT v u1/\zT w u2:=by
  cases r1 with
  |cons p q=>
   cases q with
   |cons p' q'=>
    cases q';exact ⟨_,_,rfl,p,p'⟩
 refine wpAny_newObj_type ?_ (by show 2<=sizeLine;decide);have I2:Inv X pins σ H1 { s1 with heap:=s1.heap.push { cls:=.type "tuple",data:=.seq [u1,u2].toArray } }:=I1.kept (t':=s1.toks) λb o e=>Heap.get?_push_of_some _ e;rw [hw];refine wpAny_bind (wpAny_pure ?_);show wpAny (model X.prog X.w) X.A (do rule "assign.swapped-stores";let items←unpackItems (.ref s1.heap.objs.size) 2 none;assignInOrder [λv=>bindName X.env y v,λv=>bindName X.env x v] items.reverse;pure Flow.next) _ _ _;refine wpAny_bind (wpAny_rule (wpAny_bind (unpackItems_tuple (items:=#[u1,u2]) (I.ok.hd hc) (IsTup.new s1.heap _) λh' hx'=>?_)));have I3:=I2.kept (h':=h') (t':=s1.toks) λb o e=>hx' b o (Nat.ne_of_lt (Heap.lt_size e)) e;show wpAny _ _ (assignInOrder [λv=>bindName X.env y v,λv=>bindName X.env x v] [u2,u1] >>= λ_=>pure Flow.next) _ _ _;refine wpAny_bind (assignInOrder_cons (wpAny_bindName (JZ I3 hN hj (.inl hy) rw' (λs2 I4=>?_) (.inr hy))));refine assignInOrder_cons (wpAny_bindName (JZ I4 hN hi (.inl hx) rv (λs3 I5=>assignInOrder_nil (wpAny_pure ?_)) (.inr hx)));rw [List.set_comm _ _ (Ne.symm hij)] at I5;exact ⟨_,H1,I5,q1⟩
end
section
variable {X:Cx} {pos:Pos}
end
structure It where
 go:Nat->Hp->Prop
 yld:Nat->Hp->V->Hp->Prop
 stop:Nat->Hp->Prop
def T4 (X:Cx) (pins:List (Addr×Obj)) (H:Hp) (b:Addr):Prop:=
 H b=none/\b≠X.env.locals/\b∉X.fs/\(b∈X.ex\/X.s₀.heap.objs.size<=b)/\(∀ x c,X.env.cells.lookup x=some c->c≠b)/\∀ p∈X.pn++pins,p.1≠b
def Inv.fpOk {X:Cx} {pins:List (Addr×Obj)} {σ:St} {H H':Hp} {s:Shared} {b:Addr} (I:Inv X pins σ H s) (hb:s.heap.objs.size<=b) (hn:H' b=none):T4 X pins H' b:=by
 refine ⟨hn,Nat.ne_of_gt (Nat.lt_of_lt_of_le I.lt hb),I.nofs hb,.inr (Nat.le_trans I.sz hb),λx c e z=>?_,λp hp z=>?_⟩
 ·obtain ⟨v,q⟩:=I.cell x c e;exact absurd (Nat.lt_of_lt_of_le q.lt (by rw [z];exact hb)) (Nat.lt_irrefl _)
 ·exact absurd (Nat.lt_of_lt_of_le (Heap.lt_size (I.pin p hp).1) (by rw [z];exact hb)) (Nat.lt_irrefl _)
structure Turn (P:Program) (w:World) (K:Frg) (tg:Expr) (J:It) (fp:List Addr) (it:Addr) (tn:Nat->Heap->Prop):Prop where
 mem:it∈fp
 obj:∀ i h,tn i h->∀ b∈fp,∃ o,h.get? b=some o/\∀ v,o.data≠.cell v
 keep:∀ i h h',tn i h->(∀ b∈fp,∀ o,h.get? b=some o->h'.get? b=some o)->tn i h'
 item:∀ (X:Cx),X.prog=P->X.w=w->X.K=K->X.calm=true->∀ (i:Nat) (pins:List (Addr×Obj)) (s:Shared) (σ:St) (H:Hp) (E:Value->Shared->Prop),Inv X pins σ H s->(∀ b∈fp,T4 X pins H b)->tn i s.heap->J.go i H ->
  wpAny (model P w) X.A (pyNext (.ref it)) (λr s1=>∃ u,r=some u /\
   wpAny (model P w) X.A (letOwnedTupleGo tg (.ref it) u) (λ_ s2=>∃ x H',Inv X pins σ H' s2/\zT x u/\J.yld i H x H'/\tn (i+1) s2.heap/\∀ b∈fp,H' b=none) E s1) E s
 done:∀ (X:Cx),X.prog=P->X.w=w->X.K=K->X.calm=true->∀ (i:Nat) (pins:List (Addr×Obj)) (s:Shared) (σ:St) (H:Hp) (E:Value->Shared->Prop),Inv X pins σ H s->(∀ b∈fp,T4 X pins H b)->tn i s.heap->J.stop i H ->
  wpAny (model P w) X.A (pyNext (.ref it)) (λr s1=>r=none/\Inv X pins σ H s1) E s
 self:∀ (A:Around) (i:Nat) (s:Shared) (Q:Value->Shared->Prop) (E:Value->Shared->Prop),tn i s.heap->Q (.ref it) s->wpAny (model P w) A (pyIter (.ref it)) Q E s
abbrev TI:=St->Hp->(It->Hp->Prop)->Prop
def PIE (X:Cx) (pins:List (Addr×Obj)) (σ:St) (tg:Expr) (R:It->Hp->Prop) (itv:Value) (s2:Shared):Prop:=
 ∃ (it:Addr) (fp:List Addr) (tn:Nat->Heap->Prop) (J:It) (H':Hp),itv=.ref it/\Inv X pins σ H' s2/\Turn X.prog X.w X.K tg J fp it tn/\tn 0 s2.heap/\(∀ b∈fp,T4 X pins H' b)/\R J H'
def PI (X:Cx) (tg iter:Expr) (wi:TI):Prop:=
 ∀ (pins:List (Addr×Obj)) (s:Shared) (σ:St) (H:Hp) (R:It->Hp->Prop),Inv X pins σ H s->wi σ H R ->
  wpAny (model X.prog X.w) X.A (eval iter X.env) (λv s1=>wpAny (model X.prog X.w) X.A (pyIter v) (PIE X pins σ tg R) X.xe s1) X.xe s
def qbl {M:Model} {A:Around} {E:Value->Shared->Prop} {s:Shared} {tg:Expr} {it:Addr} {u:Value} {o:Obj} {n:String} {vs:Array Value} {Q:Unit->Shared->Prop} (ho:s.heap.get? it=some o) (hc:o.cls=.type n) (hd:o.data=.fields vs)
    (hn:["enumerate","zip","dict_itemiterator","dict_reverseitemiterator","odict_iterator","itertools.zip_longest","itertools.pairwise"].contains n=false) (hQ:Q () s):wpAny M A (letOwnedTupleGo tg (.ref it) u) Q E s:=by
  unfold letOwnedTupleGo;cases tg<;>first
    |exact wpAny_pure hQ
    | (cases u<;>first
        |exact wpAny_pure hQ
        | (refine wpAny_bind (wpAny_load ho ?_)
           rw [hc,hd];show wpAny M A (if (["enumerate","zip","dict_itemiterator","dict_reverseitemiterator","odict_iterator","itertools.zip_longest","itertools.pairwise"].contains n&&vs[0]?==some (rawInt _))=true then _ else _) Q E s;rw [if_neg (by intro h;rw [hn,Bool.false_and] at h;cases h)];exact wpAny_pure hQ))
def Itl (K:Frg) (a:Addr):It:=
 ⟨λi H=>∃ xs x,SqL K H a xs/\xs[i]?=some x,λi H x H'=>H'=H/\∀ xs,SqL K H a xs->xs[i]?=some x,λi H=>∃ xs,SqL K H a xs/\xs.length<=i⟩
def Itt (K:Frg) (a:Addr):It:=
 ⟨λi H=>∃ xs x,SqT K H a xs/\xs[i]?=some x,λi H x H'=>H'=H/\∀ xs,SqT K H a xs->xs[i]?=some x,λi H=>∃ xs,SqT K H a xs/\xs.length<=i⟩
def Itr (lo:Int) (n:Nat):It:=⟨λi _=>i<n,λi H x H'=>H'=H/\x=.int (lo+i),λi _=>n<=i⟩
def TD {P:Program} {w:World} {K:Frg} {tg:Expr} (a it:Addr):Turn P w K tg (Itl K a) [it] it (λi h=>h.IsListIter it a i) where
 mem:=by simp
 obj:=λi h st b hb=>by
  have e:b=it:=by simpa using hb
  subst e;obtain ⟨o,e,c,d⟩:=st;exact ⟨o,e,λv z=>by rw [d] at z;cases z⟩
 keep:=λi h h' st k=>st.at λo e=>k it (by simp) o e
 item:=by
  intro X hP hw hK hc i pins s σ H E I hf st hg;subst hP hw hK;obtain ⟨xs,x,hq,hx⟩:=hg;obtain ⟨its,rv,p,hz⟩:=I.list hq;obtain ⟨u,hu,ru⟩:=rv.get hx;obtain ⟨f0,f1,f2,f3,f4,f5⟩:=hf it (by simp);refine wpAny_pyNext_list_item st p.isList (x:=u) (by simpa using hu) λh' st' sb=>?_;have I1:Inv X pins σ H { s with heap:=h' }:=I.turned (t':=s.toks) (λb o hb e=>(sb.2 b hb).trans e) f0 f1 f3 f4 f5;obtain ⟨o,e,c,d⟩:=id st';exact ⟨u,rfl,qbl (s:={ s with heap:=h' }) e c d (by decide) ⟨x,H,I1,ru,⟨rfl,λys hy=>by rw [I.list_inj hy hq];exact hx⟩,st',λb hb=>(hf b hb).1⟩⟩
 done:=by
  intro X hP hw hK hc i pins s σ H E I hf st hg;subst hP hw hK;obtain ⟨xs,hq,hx⟩:=hg;obtain ⟨its,rv,p,hz⟩:=I.list hq;obtain ⟨f0,f1,f2,f3,f4,f5⟩:=hf it (by simp);have hl:=rv.length;exact wpAny_pyNext_list_end (I.ok.hd hc) st p.isList (by simp;omega) λh' eb=>⟨rfl,I.turned (t':=s.toks) (λb o hb e=>eb b o hb e) f0 f1 f3 f4 f5⟩
 self:=λ_ _ _ _ _ st h=>wpAny_pyIter_listiter st h
def X0 {P:Program} {w:World} {K:Frg} {tg:Expr} (a it:Addr):Turn P w K tg (Itt K a) [it] it (λi h=>h.IsTupleIter it a i) where
 mem:=by simp
 obj:=λi h st b hb=>by
  have e:b=it:=by simpa using hb
  subst e;obtain ⟨o,e,c,d⟩:=st;exact ⟨o,e,λv z=>by rw [d] at z;cases z⟩
 keep:=λi h h' st k=>st.at λo e=>k it (by simp) o e
 item:=by
  intro X hP hw hK hc i pins s σ H E I hf st hg;subst hP hw hK;obtain ⟨xs,x,hq,hx⟩:=hg;obtain ⟨its,rv,p,hz⟩:=I.tuple hq;obtain ⟨u,hu,ru⟩:=rv.get hx;obtain ⟨f0,f1,f2,f3,f4,f5⟩:=hf it (by simp);refine wpAny_pyNext_tuple_item st (show s.heap.IsTuple a its.toArray from p) (x:=u) (by simpa using hu) λh' st' sb=>?_;have I1:Inv X pins σ H { s with heap:=h' }:=I.turned (t':=s.toks) (λb o hb e=>(sb.2 b hb).trans e) f0 f1 f3 f4 f5;obtain ⟨o,e,c,d⟩:=id st';exact ⟨u,rfl,qbl (s:={ s with heap:=h' }) e c d (by decide) ⟨x,H,I1,ru,⟨rfl,λys hy=>by rw [I.tuple_inj hy hq];exact hx⟩,st',λb hb=>(hf b hb).1⟩⟩
 done:=by
  intro X hP hw hK hc i pins s σ H E I hf st hg;subst hP hw hK;obtain ⟨xs,hq,hx⟩:=hg;obtain ⟨its,rv,p,hz⟩:=I.tuple hq;obtain ⟨f0,f1,f2,f3,f4,f5⟩:=hf it (by simp);have hl:=rv.length;exact wpAny_pyNext_tuple_end (I.ok.hd hc) st (show s.heap.IsTuple a its.toArray from p) (by simp;omega) λh' eb=>⟨rfl,I.turned (t':=s.toks) (λb o hb e=>eb b o hb e) f0 f1 f3 f4 f5⟩
 self:=λ_ _ _ _ _ st h=>wpAny_pyIter_tupleiter st h
def X8 {P:Program} {w:World} {K:Frg} {tg:Expr} (it:Addr) (lo:Int) (n:Nat):Turn P w K tg (Itr lo n) [it] it (λi h=>IsRangeIter h it (lo+(i:Nat)*1) ((n:Int)-(i:Nat)) 1) where
 mem:=by simp
 obj:=λi h st b hb=>by
  have e:b=it:=by simpa using hb
  subst e;exact ⟨_,st,λv z=>by
   have z':Data.fields _=Data.cell v:=z;cases z'⟩
 keep:=λi h h' st k=>k it (by simp) _ st
 item:=by
  intro X hP hw hK hc i pins s σ H E I hf st hg;subst hP hw hK;obtain ⟨f0,f1,f2,f3,f4,f5⟩:=hf it (by simp);have W:=Walks.range (prog:=X.prog) (w:=X.w) (I.ok.hd hc) it lo 1 n;refine W.item i s _ _ hg st λv h' tk hv st' kk=>?_;obtain ⟨t,rfl⟩:=hv;have I1:Inv X pins σ H { s with heap:=h',toks:=tk }:=I.turned (λb o hb e=>kk b o (by simpa using hb) e) f0 f1 f3 f4 f5;refine ⟨_,rfl,qbl (s:={ s with heap:=h',toks:=tk }) (n:="range_iterator") st' rfl rfl (by decide) ⟨.int (lo+i),H,I1,⟨t,?_⟩,⟨rfl,rfl⟩,st',λb hb=>(hf b hb).1⟩⟩;rw [Int.mul_one]
 done:=by
  intro X hP hw hK hc i pins s σ H E I hf st hg;subst hP hw hK;obtain ⟨f0,f1,f2,f3,f4,f5⟩:=hf it (by simp);exact wpAny_pyNext_range_end (I.ok.hd hc) st (by have:n<=i:=hg;omega) λh' eb=>⟨rfl,I.turned (t':=s.toks) (λb o hb e=>eb b o hb e) f0 f1 f3 f4 f5⟩
 self:=λ_ _ _ _ _ st h=>wpAny_pyIter_rangeiter st h
section
variable {X:Cx} {tg:Expr}
def LR {pins:List (Addr×Obj)} {σ:St} {H:Hp} {s:Shared} {R:It->Hp->Prop} {E:Value->Shared->Prop} {lo hi:Int} {t u v:Tok} {tk:Nat} (I:Inv X pins σ H s) (h1:-(2 ^ 62)<=lo) (h2:lo<2 ^ 62) (h3:-(2 ^ 62)<=hi) (h4:hi<2 ^ 62)
  (q:R (Itr lo (hi-lo).toNat) H):wpAny (model X.prog X.w) X.A (pyIter (.ref s.heap.objs.size)) (PIE X pins σ tg R) E { s with heap:=s.heap.push { cls:=.type "range",data:=.fields #[.int lo t,.int hi u,.int 1 v] },toks:=tk }:=by
 refine wpAny_pyIter_range (IsRange.new ..) (small_one h1 h2 h3 h4) ?_;have I1:Inv X pins σ H { s with heap:=s.heap.push { cls:=.type "range",data:=.fields #[.int lo t,.int hi u,.int 1 v] },toks:=tk }:=I.kept λb o e=>Heap.get?_push_of_some _ e;refine ⟨(s.heap.push { cls:=.type "range",data:=.fields #[.int lo t,.int hi u,.int 1 v] }).objs.size,[(s.heap.push { cls:=.type "range",data:=.fields #[.int lo t,.int hi u,.int 1 v] }).objs.size],_,_,H,rfl,
  I1.kept (t':=tk) λb o e=>Heap.get?_push_of_some _ e,X8 _ lo (hi-lo).toNat,?_,λb hb=>?_,q⟩
 ·have e1:lo+((0:Nat):Int)*1=lo:=by simp
  have e2:(((hi-lo).toNat:Nat):Int)-((0:Nat):Int)=Builtin.Range.rangeSize lo hi 1:=by rw [rangeSize_one];split<;>omega
  show IsRangeIter _ _ (lo+((0:Nat):Int)*1) ((((hi-lo).toNat:Nat):Int)-((0:Nat):Int)) 1;rw [e1,e2];exact Heap.get?_push_size _ rfl
 ·have e:b=(s.heap.push { cls:=.type "range",data:=.fields #[.int lo t,.int hi u,.int 1 v] }).objs.size:=by simpa using hb
  subst e;exact I1.fpOk (Nat.le_refl _) (I1.hok.fresh (Nat.le_refl _))
def qfr (ta:TA):TI:=λσ H R=>ta σ H λvs H1=>∃ j:Int,vs=[.int j]/\-(2 ^ 62)<=j/\j<2 ^ 62/\R (Itr 0 j.toNat) H1
def SF {a:Expr} {ta:TA} {p pos:Pos} (hg:Gl X "range") (hm:X.mg "range" = none) (ha:PA X [a] ta) (hs:starEach [a] X.env=[(false,eval a X.env)]:=by rfl):PI X tg (.Call (.Name "range" p) [a] [] pos) (qfr ta):=by
 intro pins s σ H R I h;refine Call_ (YR I hg hm boot_range (PyProof.Rows.callWith_type1 (thn (ha pos pins s σ H _ I h) λus s1 ⟨vs,H1,I1,r1,q1⟩=>?_) hs rfl));obtain ⟨j,e,q1,q2,q⟩:=q1;subst e;cases r1 with
 |cons r rr=>
  cases rr;obtain ⟨t,rfl⟩:=r;exact call_range_1 (LR I1 (by omega) (by omega) q1 q2 (by simpa using q))
def qhd (wi:TI) (g:TG) (tb:TS):TS:=λD σ H=>wi σ H λJ H1=>∃ W:Nat->Nat->St->Hp->Prop,(∃ m,W 0 m σ H1)/\∀ i m σ H,W i m σ H ->
 (J.stop i H/\D.nx σ H)\/(J.go i H/\∃ N:St->Hp->Prop,(∀ σ' H',N σ' H'->∃ m',m'<m/\W (i+1) m' σ' H')/\∀ x H',J.yld i H x H'->g x σ H' λσ2 H2=>tb { D with nx:=N,ct:=N,bk:=D.nx } σ2 H2)
def EG (fp:List Addr) (h:Heap):List (Addr×Obj):=fp.filterMap λb=>(h.get? b).map λo=>(b,o)
def QW {fp:List Addr} {h:Heap} {b:Addr} {o:Obj} (hb:b∈fp) (e:h.get? b=some o):(b,o)∈EG fp h:=List.mem_filterMap.mpr ⟨b,hb,by rw [e];rfl⟩
def TH {fp:List Addr} {h:Heap} {p:Addr×Obj} (hp:p∈EG fp h):p.1∈fp/\h.get? p.1=some p.2:=by
 obtain ⟨b,hb,e⟩:=List.mem_filterMap.mp hp;cases q:h.get? b with
 |none=>rw [q] at e;cases e
 |some o=>
  rw [q] at e;have e':(b,o)=p:=Option.some.inj e;subst e';exact ⟨hb,q⟩
def Inv.pinned {pins:List (Addr×Obj)} {σ:St} {H:Hp} {s:Shared} {fp:List Addr} (I:Inv X pins σ H s) (hf:∀ b∈fp,T4 X pins H b) (ho:∀ b∈fp,∃ o,s.heap.get? b=some o/\∀ v,o.data≠.cell v):Inv X (pins++EG fp s.heap) σ H s:=
 I.pins_of λp hp=>(List.mem_append.mp hp).elim (λz=>I.pin p (mem_append_right _ z)) λz=>by
  obtain ⟨hb,e⟩:=TH z;obtain ⟨f0,f1,f2,_⟩:=hf p.1 hb;obtain ⟨o,e',d⟩:=ho p.1 hb;rw [e] at e';cases e';exact ⟨e,f0,f1,f2,d⟩
def Inv.unpinned {pins pl:List (Addr×Obj)} {σ:St} {H:Hp} {s:Shared} (I:Inv X (pins++pl) σ H s):Inv X pins σ H s:=I.pins_of λp hp=>I.pin p (mem_append_right _ (List.mem_append_left _ hp))
def qdQ {iter:Expr} {body:List Stmt} {wi:TI} {g:TG} {tb:TS} {pos:Pos} (hp:PassesOwn (model X.prog X.w) X.A X.env X.xe) (hc:X.calm=true) (hi:PI X tg iter wi) (hg:PG X tg g) (hb:PSs X body tb)
  (hs:∀ x,foldedSetIterable iter X.env x=pure x:=by intro _;rfl):PS X (.For tg iter body [] pos) (qhd wi g tb):=by
 intro pins s σ H D I h;refine wpAny_For (thn (hi pins s σ H _ I h) λv s1 h1=>thn h1 λitv s2 h2=>?_) hs;obtain ⟨it,fp,tn,J,H2,e,I2,T,st2,f2,W,⟨m0,w0⟩,turn⟩:=h2;subst e
 -- what stays true of the iterator's objects through the loop
 have stat:∀ {H':Hp},(∀ b∈fp,H' b=none)->∀ b∈fp,T4 X pins H' b:=λhn b hb=>⟨hn b hb,(f2 b hb).2⟩
 refine codeAny_forLoop_any (λn s'=>∃ i σ' H',Inv X pins σ' H' s'/\tn i s'.heap/\(∀ b∈fp,H' b=none)/\W i n σ' H') ?_ m0 ⟨0,σ,H2,I2,st2,λb hb=>(f2 b hb).1,w0⟩;rintro n s3 ⟨i,σ3,H3,I3,st3,fr3,w3⟩;rcases turn i n σ3 H3 w3 with ⟨stop,qn⟩|⟨go,N,hN,step⟩
 ·refine wpAny_passesOwn hp (thn (T.done X rfl rfl rfl hc i pins s3 σ3 H3 X.xe I3 (stat fr3) st3 stop) λr s4 ⟨hr,I4⟩=>?_);subst hr;exact wpAny_execs_nil ⟨σ3,H3,I4,qn⟩
 ·refine wpAny_passesOwn hp (thn (T.item X rfl rfl rfl hc i pins s3 σ3 H3 X.xe I3 (stat fr3) st3 go) λr s4 ⟨u,hr,h4⟩=>?_);subst hr;refine wpAny_passesOwn hp (thn h4 λ_ s5 ⟨x,H5,I5,r5,y5,st5,fr5⟩=>?_);have I5':=I5.pinned (stat fr5) (T.obj _ _ st5);refine wpAny_passesOwn hp (thn (hg _ s5 σ3 H5 x u _ I5' r5 (step x H5 y5)) λ_ s6 ⟨σ6,H6,I6,q6⟩=>?_);refine wpAny_passesOwn hp (thn (hb _ s6 σ6 H6 _ I6 q6) λf s7 q7=>?_);have again:∀ {σ7:St} {H7:Hp},Inv X (pins++EG fp s5.heap) σ7 H7 s7->N σ7 H7->∃ m,m<n/\∃ i σ' H',Inv X pins σ' H' s7/\tn i s7.heap/\(∀ b∈fp,H' b=none)/\W i m σ' H':=λ{σ7 H7} I7 n7=>by
   obtain ⟨m',hm,w7⟩:=hN σ7 H7 n7;refine ⟨m',hm,i+1,σ7,H7,I7.unpinned,T.keep _ _ _ st5 λb hb o e=>(I7.pin (b,o) (mem_append_right _ (mem_append_right _ (QW hb e)))).1,λb hb=>?_,w7⟩;obtain ⟨o,e,d⟩:=T.obj _ _ st5 b hb;exact (I7.pin (b,o) (mem_append_right _ (mem_append_right _ (QW hb e)))).2.1
  cases f with
  |next=>obtain ⟨σ7,H7,I7,n7⟩:=q7;exact again I7 n7
  |cont=>obtain ⟨σ7,H7,I7,n7⟩:=q7;exact again I7 n7
  |brk=>obtain ⟨σ7,H7,I7,q7⟩:=q7;exact ⟨σ7,H7,I7.unpinned,q7⟩
  |ret v=>obtain ⟨x7,σ7,H7,I7,r7,q7⟩:=q7;exact ⟨x7,σ7,H7,I7.unpinned,r7,q7⟩
end
abbrev R2:=V->V->Hp->VK->Prop
def OpR (X:Cx) (f:Value->Value->Sem Value) (r:R2):Prop:=
 ∀ (pins:List (Addr×Obj)) (s:Shared) (σ:St) (H:Hp) (x y:V) (v u:Value) (Q:VK),Inv X pins σ H s->zT x v->zT y u->r x y H Q ->
  wpAny (model X.prog X.w) X.A (f v u) (EP X pins σ Q) X.xe s
def UnR (X:Cx) (f:Value->Sem Value) (r:V->Hp->VK->Prop):Prop:=
 ∀ (pins:List (Addr×Obj)) (s:Shared) (σ:St) (H:Hp) (x:V) (v:Value) (Q:VK),Inv X pins σ H s->zT x v->r x H Q ->
  wpAny (model X.prog X.w) X.A (f v) (EP X pins σ Q) X.xe s
def QB (X:Cx) (f:Value) (r:List V->Hp->VK->Prop):Prop:=
 ∀ (pins:List (Addr×Obj)) (s:Shared) (σ:St) (H:Hp) (xs:List V) (us:List Value) (Q:VK),Inv X pins σ H s->zn xs us->r xs H Q ->
  wpAny (model X.prog X.w) X.A (call f us) (EP X pins σ Q) X.xe s
def tOp (r:R2) (ta tb:TE):TE:=λσ H Q=>ta σ H λx H1=>tb σ H1 λy H2=>r x y H2 Q
def tUn (r:V->Hp->VK->Prop) (ta:TE):TE:=λσ H Q=>ta σ H λx H1=>r x H1 Q
def rI (C:Int->Int->Prop) (g:Int->Int->V):R2:=λx y H Q=>∃ i j,x=.int i/\y=.int j/\C i j/\Q (g i j) H
def rI0 (g:Int->Int->V):R2:=λx y H Q=>∃ i j,x=.int i/\y=.int j/\Q (g i j) H
def rU (g:Int->V):V->Hp->VK->Prop:=λx H Q=>∃ i,x=.int i/\Q (g i) H
section
variable {X:Cx} {a b c:Expr} {ta tb tc:TE} {pos:Pos}
def qgu (ha:PE X a ta) (hb:PE X b tb) {pins:List (Addr×Obj)} {s:Shared} {σ:St} {H:Hp} {R:V->V->Hp->Prop} (I:Inv X pins σ H s)
  (h:ta σ H λx H1=>tb σ H1 λy H2=>R x y H2) {Q:Value->Shared->Prop} {f:Value->Value->Sem Value}
  (hf:∀ v u s2 x y H2,Inv X pins σ H2 s2->zT x v->zT y u->R x y H2->wpAny (model X.prog X.w) X.A (f v u) Q X.xe s2) :
  wpAny (model X.prog X.w) X.A (eval a X.env) (λv s₁=>wpAny (model X.prog X.w) X.A (eval b X.env) (λu s₂=>wpAny (model X.prog X.w) X.A (f v u) Q X.xe s₂) X.xe s₁) X.xe s:=by
 refine thn (ha pins s σ H _ I h) λv s1 ⟨x,H1,I1,r1,q1⟩=>?_;refine thn (hb pins s1 σ H1 _ I1 q1) λu s2 ⟨y,H2,I2,r2,q2⟩=>?_;exact hf v u s2 x y H2 I2 r1 r2 q2
def qfZ {op:Operator} {r:R2} (ho:OpR X (binaryOp op) r) (ha:PE X a ta) (hb:PE X b tb):PE X (.BinOp a op b pos) (tOp r ta tb):=by
 intro pins s σ H Q I h;exact wpAny_BinOp (qgu ha hb I h λv u s2 x y H2 I2 rx ry q=>ho pins s2 σ H2 x y v u Q I2 rx ry q)
def qfN {op:UnaryOp} {r:V->Hp->VK->Prop} (ho:UnR X (unaryOp op) r) (ha:PE X a ta):PE X (.UnaryOp op a pos) (tUn r ta):=by
 intro pins s σ H Q I h;exact UnaryOp_ (thn (ha pins s σ H _ I h) λv s1 ⟨x,H1,I1,r1,q1⟩=>ho pins s1 σ H1 x v Q I1 r1 q1)
def opI {f:Value->Value->Sem Value} {C:Int->Int->Prop} {g:Int->Int->Int}
  (rule:∀ (i j:Int) (t u:Tok) (s:Shared) (Q:Value->Shared->Prop) (E:Value->Shared->Prop),C i j->Q (.int (g i j) s.toks) { s with toks:=s.toks+1 }->wpAny (model X.prog X.w) X.A (f (.int i t) (.int j u)) Q E s) :
  OpR X f (rI C λi j=>.int (g i j)):=by
 intro pins s σ H x y v u Q I rx ry h;obtain ⟨i,j,rfl,rfl,hc,q⟩:=h;obtain ⟨t,rfl⟩:=rx;obtain ⟨t',rfl⟩:=ry;exact rule i j t t' s _ _ hc ⟨.int (g i j),H,I.tok _,⟨_,rfl⟩,q⟩
def qgL {f:Value->Value->Sem Value} {g:Int->Int->Int}
  (rule:∀ (i j:Int) (t u:Tok) (s:Shared) (Q:Value->Shared->Prop) (E:Value->Shared->Prop),Q (.int (g i j) s.toks) { s with toks:=s.toks+1 }->wpAny (model X.prog X.w) X.A (f (.int i t) (.int j u)) Q E s) :
  OpR X f (rI0 λi j=>.int (g i j)):=by
 intro pins s σ H x y v u Q I rx ry h;obtain ⟨i,j,rfl,rfl,q⟩:=h;obtain ⟨t,rfl⟩:=rx;obtain ⟨t',rfl⟩:=ry;exact rule i j t t' s _ _ ⟨.int (g i j),H,I.tok _,⟨_,rfl⟩,q⟩
def qfq {f:Value->Value->Sem Value} {g:Int->Int->Bool}
  (rule:∀ (i j:Int) (t u:Tok) (s:Shared) (Q:Value->Shared->Prop) (E:Value->Shared->Prop),Q (.bool (g i j)) s->wpAny (model X.prog X.w) X.A (f (.int i t) (.int j u)) Q E s) :
  OpR X f (rI0 λi j=>.bl (g i j)):=by
 intro pins s σ H x y v u Q I rx ry h;obtain ⟨i,j,rfl,rfl,q⟩:=h;obtain ⟨t,rfl⟩:=rx;obtain ⟨t',rfl⟩:=ry;exact rule i j t t' s _ _ ⟨.bl (g i j),H,I,rfl,q⟩
def qbE (i j:Int):Prop:=0<j/\j<1073741824
def KY (i j:Int):Prop:=0<=j/\j<=1000000/\i.natAbs<2 ^ 64
def EQ (i j:Int):Prop:=(-(2 ^ 64)<i/\i<2 ^ 64)\/(-(2 ^ 64)<j/\j<2 ^ 64)
def EQ.ok {i j:Int} (h:EQ i j):IntMulOk i j:=by
 rcases h with ⟨h1,h2⟩|⟨h1,h2⟩
 ·exact .of_left (intBits_le_64 h1 h2)
 ·exact .of_right (intBits_le_64 h1 h2)
def N7:OpR X (binaryOp .Add) (rI0 λi j=>.int (i+j)):=qgL λ_ _ _ _ _ _ _ q=>add_int q
def qdm:OpR X (binaryOp .Sub) (rI0 λi j=>.int (i-j)):=qgL λ_ _ _ _ _ _ _ q=>sub_int q
def qey:OpR X (binaryOp .Mult) (rI EQ λi j=>.int (i*j)):=opI λ_ _ _ _ _ _ _ hc q=>mul_int q hc.ok
def qaE:OpR X (binaryOp .FloorDiv) (rI qbE λi j=>.int (i/j)):=opI λi j _ _ _ _ _ hc q=>by
 have h1:(0:Int)<j:=hc.1;have h2:j<1073741824:=hc.2;exact floordiv_int (by omega) (by rw [Int.fdiv_eq_ediv_of_nonneg i (by omega)];exact q) (.inl (PyProof.noPylong_small (by omega)))
def qdM:OpR X (binaryOp .Mod) (rI (λ_ j=>0<j) λi j=>.int (i%j)):=opI λi j _ _ _ _ _ hc q=>by
 have h1:(0:Int)<j:=hc;exact mod_int' (by omega) (by rw [Int.fmod_eq_emod_of_nonneg i (by omega)];exact q)
def qez:OpR X (binaryOp .Pow) (rI KY λi j=>.int (i ^ j.toNat)):=opI λ_ _ _ _ _ _ _ hc q=>pow_int_small hc.1 hc.2.1 hc.2.2 q
def unI {f:Value->Sem Value} {g:Int->Int}
  (rule:∀ (i:Int) (t:Tok) (s:Shared) (Q:Value->Shared->Prop) (E:Value->Shared->Prop),Q (.int (g i) s.toks) { s with toks:=s.toks+1 }->wpAny (model X.prog X.w) X.A (f (.int i t)) Q E s) :
  UnR X f (rU λi=>.int (g i)):=by
 intro pins s σ H x v Q I rx h;obtain ⟨i,rfl,q⟩:=h;obtain ⟨t,rfl⟩:=rx;exact rule i t s _ _ ⟨.int (g i),H,I.tok _,⟨_,rfl⟩,q⟩
def qcW:UnR X (unaryOp .USub) (rU λi=>.int (-i)):=unI λ_ _ _ _ _ q=>neg_int q
end
def qfG:V->V->Bool
 |.non,.non=>true|.non,.int _=>true|.int _,.non=>true|.non,.bl _=>true|.bl _,.non=>true|.non,.str _=>true|.str _,.non=>true
 |.int _,.int _=>true|.bl _,.bl _=>true|.str _,.str _=>true|.byt _,.byt _=>true
 |.int _,.str _=>true|.str _,.int _=>true|.bl _,.str _=>true|.str _,.bl _=>true
 |_,_=>false
def rEq:R2:=λx y H Q=>qfG x y=true/\Q (.bl (decide (x=y))) H
def rNe:R2:=λx y H Q=>qfG x y=true/\Q (.bl (!decide (x=y))) H
def RR {i j:Int}:decide (V.int i=V.int j)=(i==j):=by
 rw [Bool.eq_iff_iff];simp
def NF {i j:Bool}:decide (V.bl i=V.bl j)=(i==j):=by
 rw [Bool.eq_iff_iff];simp
def R7 {i j:Str}:decide (V.str i=V.str j)=(i==j):=by
 rw [Bool.eq_iff_iff];simp
def T0 {i j:Array UInt8}:decide (V.byt i=V.byt j)=(i.toList==j.toList):=by
 rw [Bool.eq_iff_iff];cases i;cases j;simp
section
variable {X:Cx} {a b c:Expr} {ta tb tc:TE} {pos:Pos}
def qK {pins:List (Addr×Obj)} {σ:St} {H:Hp} {s:Shared} {Q:VK} {k k':Bool} (I:Inv X pins σ H s) (q:Q (.bl k) H) (e:k=k'):EP X pins σ Q (.bool k') s:=by
 subst e;exact ⟨.bl k,H,I,rfl,q⟩
def qf4:OpR X (compareOp .Eq) rEq:=by
 intro pins s σ H x y v u Q I rx ry h;obtain ⟨hs,q⟩:=h;cases x with
 |non=>
  cases rx;cases y with
  |non=>cases ry;exact PySem.EqNone.eq_none_none (qK I q (by simp))
  |bl j=>cases ry;exact PySem.EqNone.eq_none_bool (qK I q (by simp))
  |int j=>obtain ⟨t',rfl⟩:=ry;exact PySem.EqNone.eq_none_int (qK I q (by simp))
  |str j=>obtain ⟨t',rfl⟩:=ry;exact PySem.EqNone.eq_none_str (qK I q (by simp))
  |_=>exact absurd (show false=true from hs) Bool.false_ne_true
 |bl i=>
  cases rx;cases y with
  |non=>cases ry;exact PySem.EqNone.eq_bool_none (qK I q (by simp))
  |bl j=>cases ry;exact eq_bool (qK I q NF)
  |str j=>obtain ⟨t',rfl⟩:=ry;exact PySem.EqMixed.eq_bool_str (qK I q (by simp))
  |_=>exact absurd (show false=true from hs) Bool.false_ne_true
 |int i=>
  obtain ⟨t,rfl⟩:=rx;cases y with
  |non=>cases ry;exact PySem.EqNone.eq_int_none (qK I q (by simp))
  |int j=>obtain ⟨t',rfl⟩:=ry;exact eq_int (qK I q RR)
  |str j=>obtain ⟨t',rfl⟩:=ry;exact PySem.EqMixed.eq_int_str (qK I q (by simp))
  |_=>exact absurd (show false=true from hs) Bool.false_ne_true
 |str i=>
  obtain ⟨t,rfl⟩:=rx;cases y with
  |non=>cases ry;exact PySem.EqNone.eq_str_none (qK I q (by simp))
  |bl j=>cases ry;exact PySem.EqMixed.eq_str_bool (qK I q (by simp))
  |int j=>obtain ⟨t',rfl⟩:=ry;exact PySem.EqMixed.eq_str_int (qK I q (by simp))
  |str j=>obtain ⟨t',rfl⟩:=ry;exact eq_str (qK I q R7)
  |_=>exact absurd (show false=true from hs) Bool.false_ne_true
 |byt i=>
  obtain ⟨t,rfl⟩:=rx;cases y with
  |byt j=>obtain ⟨t',rfl⟩:=ry;exact PySem.W.eq_bytes (qK I q T0)
  |_=>exact absurd (show false=true from hs) Bool.false_ne_true
 |_=>cases y<;>exact absurd (show false=true from hs) Bool.false_ne_true
def qfk:OpR X (compareOp .NotEq) rNe:=by
 intro pins s σ H x y v u Q I rx ry h;obtain ⟨hs,q⟩:=h;cases x with
 |non=>
  cases rx;cases y with
  |non=>cases ry;exact PySem.EqNone.ne_none_none (qK I q (by simp))
  |bl j=>cases ry;exact PySem.EqNone.ne_none_bool (qK I q (by simp))
  |int j=>obtain ⟨t',rfl⟩:=ry;exact PySem.EqNone.ne_none_int (qK I q (by simp))
  |str j=>obtain ⟨t',rfl⟩:=ry;exact PySem.EqNone.ne_none_str (qK I q (by simp))
  |_=>exact absurd (show false=true from hs) Bool.false_ne_true
 |bl i=>
  cases rx;cases y with
  |non=>cases ry;exact PySem.EqNone.ne_bool_none (qK I q (by simp))
  |bl j=>cases ry;exact ne_bool (qK I q (congrArg not NF))
  |str j=>obtain ⟨t',rfl⟩:=ry;exact PySem.EqMixed.ne_bool_str (qK I q (by simp))
  |_=>exact absurd (show false=true from hs) Bool.false_ne_true
 |int i=>
  obtain ⟨t,rfl⟩:=rx;cases y with
  |non=>cases ry;exact PySem.EqNone.ne_int_none (qK I q (by simp))
  |int j=>obtain ⟨t',rfl⟩:=ry;exact ne_int (qK I q (congrArg not RR))
  |str j=>obtain ⟨t',rfl⟩:=ry;exact PySem.EqMixed.ne_int_str (qK I q (by simp))
  |_=>exact absurd (show false=true from hs) Bool.false_ne_true
 |str i=>
  obtain ⟨t,rfl⟩:=rx;cases y with
  |non=>cases ry;exact PySem.EqNone.ne_str_none (qK I q (by simp))
  |bl j=>cases ry;exact PySem.EqMixed.ne_str_bool (qK I q (by simp))
  |int j=>obtain ⟨t',rfl⟩:=ry;exact PySem.EqMixed.ne_str_int (qK I q (by simp))
  |str j=>obtain ⟨t',rfl⟩:=ry;exact ne_str (qK I q (congrArg not R7))
  |_=>exact absurd (show false=true from hs) Bool.false_ne_true
 |byt i=>
  obtain ⟨t,rfl⟩:=rx;cases y with
  |byt j=>obtain ⟨t',rfl⟩:=ry;exact PySem.W.ne_bytes (qK I q (congrArg not T0))
  |_=>exact absurd (show false=true from hs) Bool.false_ne_true
 |_=>cases y<;>exact absurd (show false=true from hs) Bool.false_ne_true
def LI:OpR X (compareOp .Lt) (rI0 λi j=>.bl (decide (i<j))):=qfq λ_ _ _ _ _ _ _ q=>lt_int q
def qfU:OpR X (compareOp .Gt) (rI0 λi j=>.bl (decide (j<i))):=qfq λ_ _ _ _ _ _ _ q=>gt_int q
def R0:OpR X (compareOp .GtE) (rI0 λi j=>.bl (decide (j<=i))):=qfq λ_ _ _ _ _ _ _ q=>ge_int q
def OpR.or {f:Value->Value->Sem Value} {r r':R2} (h:OpR X f r) (h':OpR X f r'):OpR X f (λx y H Q=>r x y H Q\/r' x y H Q):=by
 intro pins s σ H x y v u Q I rx ry q;rcases q with q|q
 ·exact h pins s σ H x y v u Q I rx ry q
 ·exact h' pins s σ H x y v u Q I rx ry q
def qr (b:Expr) {op:CmpOp} (h:op≠.In:=by decide) (h2:op≠.NotIn:=by decide):behindInMarks op b=false:=by
 have e1:(op==CmpOp.In)=false:=by cases op<;>first|rfl|exact absurd rfl h
 have e2:(op==CmpOp.NotIn)=false:=by cases op<;>first|rfl|exact absurd rfl h2
 cases b<;>simp [behindInMarks,e1,e2]
def qaJ {op:CmpOp} {r:R2} (ho:OpR X (compareOp op) r) (ha:PE X a ta) (hb:PE X b tb) (hm:behindInMarks op b=false):PE X (.Compare a [op] [b] pos) (tOp r ta tb):=by
 intro pins s σ H Q I h;exact wpAny_Compare1 (qgu ha hb I h λv u s2 x y H2 I2 rx ry q=>ho pins s2 σ H2 x y v u Q I2 rx ry q) hm
def qeD (t:TE):TT:=λσ H Q=>t σ H λx H'=>∃ k,x=.bl k/\Q k H'
def C6 {op:CmpOp} {r:R2} (ho:OpR X (compareOp op) r) (ha:PE X a ta) (hb:PE X b tb) (hm:behindInMarks op b=false):PT X (.Compare a [op] [b] pos) (qeD (tOp r ta tb)):=by
 intro pins s σ H Q I h;refine wpAny_isTrue_Compare1 (thn (ha pins s σ H _ I h) λv s1 ⟨x,H1,I1,r1,q1⟩=>thn (hb pins s1 σ H1 _ I1 q1) λu s2 ⟨y,H2,I2,r2,q2⟩=>
  thn (ho pins s2 σ H2 x y v u _ I2 r1 r2 q2) λc s3 ⟨z,H3,I3,r3,k,e,q3⟩=>?_) hm
 subst e;cases r3;exact wpAny_truthy_bool ⟨H3,I3,q3⟩
def EC:(sizeLine:Nat)<2 ^ 63:=by rw [sizeLine_eq];decide
def YE {x:V} {us:List Value} (r:zn [x] us):∃ u,us=[u]/\zT x u:=by
 cases r with
 |cons r1 r2=>cases r2;exact ⟨_,rfl,r1⟩
def qeH {x y:V} {us:List Value} (r:zn [x,y] us):∃ u w',us=[u,w']/\zT x u/\zT y w':=by
 cases r with
 |cons r1 r2=>
  cases r2 with
  |cons r3 r4=>cases r4;exact ⟨_,_,rfl,r1,r3⟩
def W7:QB X (.builtin "abs") (λxs H Q=>∃ i,xs=[.int i]/\Q (.int (if i<0 then -i else i)) H):=by
 intro pins s σ H xs us Q I r h;obtain ⟨i,rfl,q⟩:=h;obtain ⟨u,rfl,t,rfl⟩:=YE r;exact call_abs_int λu tk=>⟨.int (if i<0 then -i else i),H,I.tok _,⟨_,rfl⟩,q⟩
def RK (hc:X.calm=true):QB X (.builtin "min") (λxs H Q=>∃ i j,xs=[.int i,.int j]/\Q (.int (if j<i then j else i)) H):=by
 intro pins s σ H xs us Q I r h;obtain ⟨i,j,rfl,q⟩:=h;obtain ⟨u,w',rfl,⟨t,rfl⟩,⟨t',rfl⟩⟩:=qeH r;refine min_two_ints (I.ok.hd hc) λh' tk k=>⟨_,H,I.kept k,?_,q⟩
 by_cases hj:j<i
 ·rw [if_pos hj,if_pos hj];exact ⟨_,rfl⟩
 ·rw [if_neg hj,if_neg hj];exact ⟨_,rfl⟩
def YB:QB X (.type "int") (λxs H Q=>(∃ i,xs=[.int i]/\Q (.int i) H)\/∃ k,xs=[.bl k]/\Q (.int (if k then 1 else 0)) H):=by
 intro pins s σ H xs us Q I r h;rcases h with ⟨i,rfl,q⟩|⟨k,rfl,q⟩
 ·obtain ⟨u,rfl,t,rfl⟩:=YE r;exact call_int_int ⟨.int i,H,I,⟨_,rfl⟩,q⟩
 ·obtain ⟨u,rfl,r1⟩:=YE r;cases r1;exact call_int_bool ⟨.int (if k then 1 else 0),H,I.tok _,⟨_,rfl⟩,q⟩
def qgU (K:Frg) (x:V) (H:Hp) (n:Nat):Prop:=
 match x with
 |.str y=>y.length<=sizeLine/\n=y.length
 |.byt y=>y.size<=sizeLine/\n=y.size
 |.ref p=>(∃ xs,SqL K H p xs/\n=xs.length)\/∃ xs,SqT K H p xs/\n=xs.length
 |_=>False
def zb:QB X (.builtin "len") (λxs H Q=>∃ x n,xs=[x]/\qgU X.K x H n/\Q (.int n) H):=by
 intro pins s σ H xs us Q I r h;obtain ⟨x,n,rfl,e,q⟩:=h;obtain ⟨u,rfl,rx⟩:=YE r;have hl:=EC;have hs:sizeLine=16777216:=sizeLine_eq;cases x with
 |str y=>
  obtain ⟨t,rfl⟩:=rx;obtain ⟨hy,e'⟩:y.length<=sizeLine/\n=y.length:=e;subst e';exact len_str (by omega) ⟨.int _,H,I.tok _,⟨_,rfl⟩,q⟩
 |byt y=>
  obtain ⟨t,rfl⟩:=rx;obtain ⟨hy,e'⟩:y.size<=sizeLine/\n=y.size:=e;subst e';exact PySem.W.len_bytes (by omega) ⟨.int _,H,I.tok _,⟨_,rfl⟩,q⟩
 |ref p=>
  cases rx;have e':(∃ xs,SqL X.K H p xs/\n=xs.length)\/∃ xs,SqT X.K H p xs/\n=xs.length:=e;rcases e' with ⟨xs,hx,e'⟩|⟨xs,hx,e'⟩
  ·subst e';obtain ⟨its,r',pl,hz⟩:=I.list hx;have hlen:=r'.length;exact Calls.call_len_list pl.isList (by simp only [size_toArray];omega) ⟨.int xs.length,H,I.tok _,⟨_,by simp only [size_toArray];rw [hlen]⟩,q⟩
  ·subst e';obtain ⟨its,r',pl,hz⟩:=I.tuple hx;have hlen:=r'.length;exact len_tuple pl (by simp only [size_toArray];omega) ⟨.int xs.length,H,I.tok _,⟨_,by simp only [size_toArray];rw [hlen]⟩,q⟩
 |_=>exact (show False from e).elim
end
section
variable {prog:Program} {w:World} {A:Around} {E:Value->Shared->Prop} {s:Shared} {K:Frg} {x dx C f:Addr} {mA:Str->Option Value} {name:Str} {v:Value}
end
section
variable {P:Program} {w:World} {H H':Hp} {h h':Heap} {a C dx:Addr} {fs fs':List (Str×V)}
end
section
variable {X:Cx} {pins:List (Addr×Obj)} {σ:St} {H:Hp} {s:Shared} {a C dx:Addr} {fs:List (Str×V)} {f:Str} {v:V} {A:Around} {E:Value->Shared->Prop}
def Inv.made (I:Inv X pins σ H s):Inv X pins σ (upd (upd H s.heap.objs.size (.own (s.heap.objs.size+1))) (s.heap.objs.size+1) (.ins C s.heap.objs.size []))
  { s with heap:=(s.heap.push PySem.W.emptyDict).push (PySem.W.instObj C s.heap.objs.size) }:=by
 have e1:(s.heap.push PySem.W.emptyDict).get? s.heap.objs.size=some PySem.W.emptyDict:=Heap.get?_push_size s.heap rfl;have e2:((s.heap.push PySem.W.emptyDict).push (PySem.W.instObj C s.heap.objs.size)).get? (s.heap.objs.size+1)=some (PySem.W.instObj C s.heap.objs.size):=by
  have:=Heap.get?_push_size (s.heap.push PySem.W.emptyDict) (o:=PySem.W.instObj C s.heap.objs.size) rfl
  rwa [Heap.size_push] at this
 have e3:(s.heap.push PySem.W.emptyDict).Ns s.heap.objs.size (λ_=>none):=⟨PySem.W.emptyDict,#[],_,e1,rfl,(λe he=>absurd he (by simp)),λ_=>rfl⟩
 have I1:=I.laid (a:=s.heap.objs.size) (o:=.own (s.heap.objs.size+1)) (h':=s.heap.push PySem.W.emptyDict) (t':=s.toks) (λb u q=>Heap.get?_push_of_some _ q) (Nat.le_refl _) ⟨_,e1⟩;refine I1.laid (a:=s.heap.objs.size+1) (o:=.ins C s.heap.objs.size []) (t':=s.toks) (λb u q=>Heap.get?_push_of_some _ q) (Nat.le_of_eq (Heap.size_push _ _)) ?_;have ne:s.heap.objs.size≠s.heap.objs.size+1:=Nat.ne_of_lt (Nat.lt_succ_self _);refine ⟨by rw [qB ne,za],Nat.zero_le _,ne,e2,λ_=>none,(Heap.Ns1.of_empty e3).at λo q=>Heap.get?_push_of_some _ q,λ_=>True.intro,λy hy=>absurd rfl hy⟩
end
section
variable {X:Cx} {o e value:Expr} {f:Str} {pos pos' tpos:Pos} {ta tv:TE}
end
section
variable {X:Cx} {pins:List (Addr×Obj)} {σ:St} {H:Hp} {s:Shared} {A:Around} {E:Value->Shared->Prop} {Q:Value->Shared->Prop} {c:Value} {b:Bool}
end
structure Room (k:Nat) (A:Around):Prop where
 hd:A.handled=none
 dp:A.depth+3*k+5<recursionLimit
 un:A.units+16*k+200<cLine
 gd:A.guards=some []
def Room.mono {j k:Nat} {A:Around} (r:Room k A) (h:j<=k):Room j A:=⟨r.hd,by have:=r.dp;omega,by have:=r.un;omega,r.gd⟩
def Room.deeper {k:Nat} {A:Around} (r:Room (k+1) A) (env:Env):Room k (A.deeper env):=
 ⟨r.hd,by have:=r.dp;show A.depth+1+3*k+5<_;omega,by have:=r.un;show A.units+3+16*k+200<_;omega,r.gd⟩
def Room.in1 {k:Nat} {A:Around} (r:Room (k+1) A):Room k A.in1:=
 ⟨r.hd,by have:=r.dp;show A.depth+3*k+5<_;omega,by have:=r.un;show A.units+1+16*k+200<_;omega,r.gd⟩
def Room.depth {k:Nat} {A:Around} (r:Room k A):A.depth<recursionLimit:=by have:=r.dp;omega
def Room.units {k:Nat} {A:Around} (r:Room k A):A.units+64<cLine:=by have:=r.un;omega
def qhz:TA:=λ_ H Q=>Q [] H
def qeZ (ta:TE) (tr:TA):TA:=λσ H Q=>ta σ H λx H1=>tr σ H1 λxs H2=>Q (x::xs) H2
section
variable {X:Cx} {e:Expr} {es:List Expr} {te:TE} {t:TA} {pos:Pos}
def M4:PA X [] qhz:=λ_ _ _ _ H Q I h=>Calls.spliced_nil ⟨[],H,I,.nil,h⟩
def DW (ha:PE X e te) (hr:PA X es t) (hs:starEach (e::es) X.env=(false,eval e X.env)::starEach es X.env:=by rfl):PA X (e::es) (qeZ te t):=by
 intro pos pins s σ H Q I h;rw [hs];show wpAny _ _ (spliced ((false,eval e X.env)::backTo pos (starEach es X.env))) _ _ s;refine Calls.spliced_cons (thn (ha pins s σ H _ I h) λu s1 ⟨x,H1,I1,r1,q1⟩=>?_);exact thn (hr pos pins s1 σ H1 _ I1 q1) λus s2 ⟨xs,H2,I2,r2,q2⟩=>⟨x::xs,H2,I2,.cons r1 r2,q2⟩
def qhy (t:TA):TE:=λσ H Q=>t σ H λxs H1=>xs.length<=sizeLine/\∀ p,H1 p=none->Q (.ref p) (upd H1 p (.tup xs))
def qhv (t:TA):TE:=λσ H Q=>t σ H λxs H1=>xs.length<=sizeLine/\∀ p,H1 p=none->Q (.ref p) (upd H1 p (.lst xs))
def qcg {x1} (h:PA X es t):PE X (.Tuple es x1 pos) (qhy t):=by
 intro pins s σ H Q I hq;refine wpAny_Tuple_spliced (thn (h pos pins s σ H _ I hq) λus s1 ⟨xs,H1,I1,r,z,q⟩=>⟨by rw [← r.length];exact z,?_⟩);have hf:H1 s1.heap.objs.size=none:=I1.hok.fresh (Nat.le_refl _);refine ⟨.ref s1.heap.objs.size,upd H1 s1.heap.objs.size (.tup xs),I1.laid (t':=s1.toks) (λb u e=>Heap.get?_push_of_some _ e) (Nat.le_refl _) ?_,rfl,q _ hf⟩;exact ⟨z,us,r,⟨_,Heap.get?_push_size _ rfl,rfl,_,rfl⟩⟩
def qbT (h:PA X es t):PE X (.List es pos) (qhv t):=by
 intro pins s σ H Q I hq;refine wpAny_List_spliced (thn (h pos pins s σ H _ I hq) λus s1 ⟨xs,H1,I1,r,z,q⟩=>⟨by rw [← r.length];exact z,?_⟩);have hf:H1 s1.heap.objs.size=none:=I1.hok.fresh (Nat.le_refl _);refine ⟨.ref s1.heap.objs.size,upd H1 s1.heap.objs.size (.lst xs),I1.laid (t':=s1.toks) (λb u e=>Heap.get?_push_of_some _ e) (Nat.le_refl _) ?_,rfl,q _ hf⟩;exact ⟨z,us,0,r,Heap.get?_push_size _ rfl⟩
end
abbrev Sp:=List V->Hp->VK->XK->Prop
abbrev CXT:=List Env->Hp->Shared->XK->Value->Shared->Prop
structure Env0 (P:Program) (w:World) (K:Frg) (mg:Str->Option Value) (base:Heap) (A:Around) (outer:List Env) (s:Shared) (H:Hp):Prop where
 frames:A.frames=some outer
 mod:Mod K mg base
 bs:∀ b o,base.get? b=some o->s.heap.get? b=some o/\H b=none
 bsz:base.objs.size<=s.heap.objs.size
 funs:s.heap.FunFrames base outer
 frf:∀ b∈frs outer,H b=none
 hok:HOk P w H s.heap
 bare:AllBare s.gens
def CE (outer:List Env) (P:Program) (w:World) (H:Hp) (s:Shared) (Q:VK) (u:Value) (s':Shared):Prop:=
 ∃ v H',s'.os=s.os/\AllBare s'.gens/\Un (frs outer) [] H H' s.heap s'.heap/\HOk P w H' s'.heap/\zT v u/\Q v H'
def CR (CX:CXT) (outer:List Env) (P:Program) (w:World) (H:Hp) (s:Shared) (Q:VK) (E:XK) (r:Result) (s':Shared):Prop:=
 match r with
 |.ok (.ret u)=>CE outer P w H s Q u s'
 |.ok _=>False
 |.error e=>CX outer H s E e s'
structure FnOk (P:Program) (w:World) (K:Frg) (mg:Str->Option Value) (base:Heap) (CX:CXT) (k:Nat) (f:Addr) (fd:FuncData) (ps:List Str) (sp:Sp):Prop where
 len:∀ vs H Q E,sp vs H Q E->vs.length=ps.length
 run:∀ (A:Around) (outer:List Env) (s:Shared) (H:Hp) (args:Args) (us:List Value) (vs:List V) (Q:VK) (E:XK),Room k A->Env0 P w K mg base A outer s H->BindsTo s fd args (ps.zip us)->zn vs us->sp vs H Q E ->
  codeAny (model P w) A (.call (.ref f) args) (CR CX outer P w H s Q E) s
def FnOk.mono {P:Program} {w:World} {K:Frg} {mg:Str->Option Value} {base:Heap} {CX:CXT} {j k:Nat} {f:Addr} {fd:FuncData} {ps:List Str} {sp:Sp} (F:FnOk P w K mg base CX j f fd ps sp) (h:j<=k) :
  FnOk P w K mg base CX k f fd ps sp:=⟨F.len,λA outer s H args us vs Q E hr=>F.run A outer s H args us vs Q E (hr.mono h)⟩
def FnOk.imp {P:Program} {w:World} {K:Frg} {mg:Str->Option Value} {base:Heap} {CX:CXT} {k:Nat} {f:Addr} {fd:FuncData} {ps:List Str} {sp sp':Sp} (F:FnOk P w K mg base CX k f fd ps sp)
  (h:∀ vs H Q E,sp' vs H Q E->sp vs H Q E):FnOk P w K mg base CX k f fd ps sp':=
 ⟨λvs H Q E q=>F.len vs H Q E (h _ _ _ _ q),λA outer s H args us vs Q E hr he hb hv hs=>F.run A outer s H args us vs Q E hr he hb hv (h _ _ _ _ hs)⟩
def Env0.in1 {P:Program} {w:World} {K:Frg} {mg:Str->Option Value} {base:Heap} {A:Around} {outer:List Env} {s:Shared} {H:Hp} (e:Env0 P w K mg base A outer s H) :
  Env0 P w K mg base A.in1 outer s H:=⟨e.frames,e.mod,e.bs,e.bsz,e.funs,e.frf,e.hok,e.bare⟩
section
variable {X:Cx} {pins:List (Addr×Obj)} {σ:St} {H:Hp} {s s':Shared}
def Inv.env0 (I:Inv X pins σ H s):Env0 X.prog X.w X.K X.mg X.base X.A X.stack s H:=
 ⟨I.ok.frames,I.ok.mod,I.bs,Nat.le_trans I.ok.bsz I.sz,I.stack,I.stkFree,I.hok,I.bare⟩
def Inv.after {Q:VK} {u:Value} (I:Inv X pins σ H s) (h:CE X.stack X.prog X.w H s Q u s'):EP X pins σ Q u s':=by
 obtain ⟨v,H',os,bare,un,hok,r,q⟩:=h;obtain ⟨hh,g,d,t,os'⟩:=s';obtain rfl:os'=s.os:=os;exact ⟨v,H',I.call (h':=hh) (g':=g) (d':=d) (t':=t) (ch:=[]) un hok bare (λb z=>absurd z (by simp)),r,q⟩
end
def qfa (sp:Sp) (dvs:List V) (E:XK) (t:TA):TE:=λσ H Q=>t σ H λvs H1=>sp (vs++dvs) H1 Q E
def zW (K:Frg) (fd:FuncData) (ps:List Str) (ds:List Value):Prop:=
 ∀ (s:Shared) (us:List Value),K.In s.heap->(us++ds).length=ps.length->BindsTo s fd ⟨us,[]⟩ (ps.zip (us++ds))
def zW.all {K:Frg} {fd:FuncData} {ps:List Str} (h:∀ us:List Value,us.length=ps.length->bindArgs fd ⟨us,[]⟩=pure (ps.zip us)):zW K fd ps []:=λs us _ hl=>by
 rw [List.append_nil] at hl ⊢;exact .of_eq (h us hl)
def RA (CX:CXT) (X:Cx) (E:XK):Prop:=∀ (pins:List (Addr×Obj)) (σ:St) (H:Hp) (s:Shared) (e:Value) (s':Shared),Inv X pins σ H s->CX X.stack H s E e s'->X.xe e s'
section
variable {X:Cx} {CX:CXT} {k:Nat} {f C:Addr} {fd:FuncData} {ps:List Str} {sp:Sp} {dvs:List V} {ds:List Value} {E:XK} {x m:Str} {p pos apos:Pos} {e o:Expr} {es:List Expr} {ta:TE} {t:TA}
def qdE {pins:List (Addr×Obj)} {σ:St} {H:Hp} {s:Shared} {Q:VK} {us:List Value} {vs:List V} (F:FnOk X.prog X.w X.K X.mg X.base CX k f fd ps sp) (hr:Room k X.A) (hb:zW X.K fd ps ds) (hd:zn dvs ds) (hx:RA CX X E)
  (I:Inv X pins σ H s) (r:zn vs us) (h:sp (vs++dvs) H Q E):wpAny (model X.prog X.w) X.A (call (.ref f) us) (EP X pins σ Q) X.xe s:=by
 have r2:zn (vs++dvs) (us++ds):=r.append hd;have hl:(us++ds).length=ps.length:=by rw [← r2.length];exact F.len _ _ _ _ h
 refine wpAny_call (codeAny_mono (F.run X.A X.stack s H ⟨us,[]⟩ (us++ds) (vs++dvs) Q E hr I.env0 (hb s us I.kIn hl) r2 h) λr s' hq=>?_);cases r with
 |error e=>exact hx pins σ H s e s' I hq
 |ok fl=>
  cases fl with
  |ret u=>exact I.after hq
  |next=>exact False.elim hq
  |brk=>exact False.elim hq
  |cont=>exact False.elim hq
def qbn (F:FnOk X.prog X.w X.K X.mg X.base CX k f fd ps sp) (hr:Room k X.A) (hg:Gl X x) (hm:X.mg x=some (.ref f)) (hk:PySem.W.keepIn X.K (.ref f)=true) (hb:zW X.K fd ps ds) (hd:zn dvs ds) (hx:RA CX X E)
  (ha:PA X (e::es) t) (hdb:(x==("__debug__" : Str))=false:=by decide) (he:starEach (e::es) X.env=(false,eval e X.env)::starEach es X.env:=by rfl) (hpl:(backTo pos (starEach es X.env)).any (·.1)=false:=by rfl) :
  PE X (.Call (.Name x p) (e::es) [] pos) (qfa sp dvs E t):=by
 intro pins s σ H Q I h;refine wpAny_Call_Name_kw (CZ I hg hm ?_ hdb);refine PySem.W.callWith_K (h₀:=X.base) I.ok.mod.kin hk (thn (ha pos pins s σ H _ I h) λus s1 ⟨vs,H1,I1,r,q⟩=>⟨I1.kIn,?_⟩) he hpl;exact qdE F hr hb hd hx I1 r q
end
section
variable {X:Cx} {CX:CXT} {k:Nat} {f C:Addr} {fd:FuncData} {ps ks:List Str} {sp:Sp} {E:XK} {x m:Str} {p pos apos kpos:Pos} {e o:Expr} {es:List Expr} {kws:List Keyword} {te ta:TE} {t tk:TA} {nm:Option Str}
variable {g:List Value->List Value->List Value} {gV:List V->List V->List V}
end
structure FnScope (N P:List Str) (sc:Scope):Prop where
 kind:sc.kind=.function
 co:sc.isCoroutine=false
 gen:sc.isGenerator=false
 nd:N.Nodup
 pre:N.take P.length=P
 par:∀ x∈P,sc.names.lookup x=some .local\/sc.names.lookup x=some .cell
 nofree:∀ y∈sc.names,y.2≠.free
def U5 {kindOf:Str->Option NameKind} {x:Str}:∀ {binds:List (Str×Value)} {m:Str->Option Value},(∀ v,(x,v)∉binds)->bindL kindOf binds m x=m x
 |[],_,_=>rfl
 | (n,v)::r,m,h=>by
  unfold bindL;rw [U5 λw hw=>h w (List.mem_cons_of_mem _ hw)];split
  ·have:x≠n:=by rintro rfl;exact h v List.mem_cons_self
   simp [this]
  ·rfl
def ED {kindOf:Str->Option NameKind} {x:Str}:∀ {binds:List (Str×Value)} {m:Str->Option Value},(∀ v,(x,v)∉binds)->bindC kindOf binds m x=m x
 |[],_,_=>rfl
 | (n,v)::r,m,h=>by
  unfold bindC;rw [ED λw hw=>h w (List.mem_cons_of_mem _ hw)];split
  ·rfl
  ·have:x≠n:=by rintro rfl;exact h v List.mem_cons_self
   simp [this]
def U8 {kindOf:Str->Option NameKind} {x:Str} {v:Value}:∀ {P:List Str} {vs:List Value} {i:Nat} {m:Str->Option Value},P.Nodup->P[i]?=some x->vs[i]?=some v->kindOf x=some .local ->
  bindL kindOf (P.zip vs) m x=some v
 |[],_,_,_,_,h,_,_=>by simp at h
 |_::_,[],_,_,_,_,h,_=>by simp at h
 |p::P,w::vs,0,m,nd,h1,h2,hk=>by
  simp at h1 h2;subst h1;subst h2;show bindL kindOf ((p,w)::P.zip vs) m p=_;unfold bindL;rw [U5 λv hv=>(List.nodup_cons.mp nd).1 (List.of_mem_zip hv).1,if_pos hk];simp
 |p::P,w::vs,i+1,m,nd,h1,h2,hk=>by
  show bindL kindOf ((p,w)::P.zip vs) m x=_;unfold bindL;exact U8 (i:=i) (List.nodup_cons.mp nd).2 (by simpa using h1) (by simpa using h2) hk
def EA {kindOf:Str->Option NameKind} {x:Str} {v:Value}:∀ {P:List Str} {vs:List Value} {i:Nat} {m:Str->Option Value},P.Nodup->P[i]?=some x->vs[i]?=some v->kindOf x≠some .local ->
  bindC kindOf (P.zip vs) m x=some v
 |[],_,_,_,_,h,_,_=>by simp at h
 |_::_,[],_,_,_,_,h,_=>by simp at h
 |p::P,w::vs,0,m,nd,h1,h2,hk=>by
  simp at h1 h2;subst h1;subst h2;show bindC kindOf ((p,w)::P.zip vs) m p=_;unfold bindC;rw [ED λv hv=>(List.nodup_cons.mp nd).1 (List.of_mem_zip hv).1,if_neg hk];simp
 |p::P,w::vs,i+1,m,nd,h1,h2,hk=>by
  show bindC kindOf ((p,w)::P.zip vs) m x=_;unfold bindC;exact EA (i:=i) (List.nodup_cons.mp nd).2 (by simpa using h1) (by simpa using h2) hk
def start (N:List Str) (vs:List V):St:=vs.map some++List.replicate (N.length-vs.length) none
def T7 (CX:CXT) (P:Program) (w:World) (K:Frg) (mg:Str->Option Value) (base:Heap) (N:List Str) (qual:Str) (scope:Scope) (f:Addr) (cd:Value) (A:Around) (outer:List Env) (s:Shared) (H:Hp) (E:XK):Cx where
 prog:=P
 w:=w
 K:=K
 mg:=mg
 base:=base
 A:=A.deeper (envOfC qual scope s.heap.objs.size f cd)
 N:=N
 s₀:=s
 H₀:=H
 env:=envOfC qual scope s.heap.objs.size f cd
 outer:=outer
 stack:=envOfC qual scope s.heap.objs.size f cd::outer
 ex:=[]
 calm:=true
 fn:=λ_=>true
 pn:=[]
 xe:=λe s'=>wpAny (model P w) (A.deeper (envOfC qual scope s.heap.objs.size f cd)) (leaving (envOfC qual scope s.heap.objs.size f cd) e) (λ_ s''=>CX outer H s E e s'') (λe' s''=>CX outer H s E e' s'') s'
def WI {sc:Scope} {n:Nat} {x:Str} (h:sc.names.lookup x=some .cell):∃ c,(cellsFrom n sc.names []).lookup x=some c:=by
 have q:=PySem.W.cellsFrom_some sc.names n [] (.inl h);exact Option.isSome_iff_exists.mp q
def R9 {CX:CXT} {P:Program} {w:World} {K:Frg} {mg:Str->Option Value} {base:Heap} {N ps:List Str} {qual:Str} {scope:Scope} {f:Addr} {cd:Value} {A:Around} {outer:List Env} {s s1:Shared} {H:Hp} {E:XK} {us:List Value} {vs:List V}
  (S:FnScope N ps scope) (hd:A.handled=none) (e0:Env0 P w K mg base A outer s H) (hl:vs.length=ps.length) (r:zn vs us)
  (x:InCallC s s.heap.objs.size (bindL (envOfC qual scope s.heap.objs.size f cd).kindOf (ps.zip us) λ_=>none) (cellsFrom (s.heap.objs.size+1) scope.names []) (bindC (envOfC qual scope s.heap.objs.size f cd).kindOf (ps.zip us) λ_=>none) s1) :
  Inv (T7 CX P w K mg base N qual scope f cd A outer s H E) [] (start N vs) H s1:=by
 have hpl:ps.length<=N.length:=by have:=congrArg List.length S.pre;rw [List.length_take] at this;omega
 obtain ⟨h1,tk,rfl,hk⟩:=x.done;have noA:∀ b:Addr,b∉(T7 CX P w K mg base N qual scope f cd A outer s H E).ex:=λb z=>absurd (show b∈([]:List Addr) from z) (by simp);refine ⟨⟨e0.mod,S.kind,rfl,rfl,Nat.le_refl _,λy z c h1 h2=>?_,λy hy=>?_,λy c _ h=>?_,λ_=>hd,Around.frames_deeper e0.frames,.inr ⟨rfl,rfl⟩,λb z=>absurd z (noA b),e0.bs,e0.bsz,λb _ _=>noA b,λb z=>absurd z (noA b),e0.funs,e0.frf⟩,
  rfl,e0.bare,Un.kept hk,⟨_,x.toInCall.ns,λi y v h1 h2 h3=>?_⟩,λy c h=>⟨_,x.cell y c h⟩,e0.hok.fresh (Nat.le_refl _),λy c h=>?_,λp hp=>absurd (show p∈([]:List (Addr×Obj)) from hp) (by simp),e0.hok.kept hk,?_⟩
 ·exact name_of_addr x.apart (PySem.mem_of_lookup h1) (PySem.mem_of_lookup h2)
 ·have hy:scope.names.lookup y=some .cell\/scope.names.lookup y=some .free:=hy;rcases hy with hy|hy
  ·exact WI hy
  ·exact absurd rfl (S.nofree _ (PySem.mem_of_lookup hy))
 ·exact Nat.le_of_lt (x.above y c (PySem.mem_of_lookup h))
 ·have hi:i<vs.length:=by
   unfold start at h2;by_cases hi:i<vs.length
   ·exact hi
   ·rw [List.getElem?_append_right (by simpa using hi)] at h2;rw [List.getElem?_replicate] at h2;split at h2<;>cases h2
  have ha:vs[i]?=some v:=by
   unfold start at h2;rw [List.getElem?_append_left (by simpa using hi),getElem?_map] at h2;cases e:vs[i]? with
   |none=>rw [e] at h2;cases h2
   |some a=>rw [e] at h2;cases h2;rfl
  obtain ⟨u,hu,rv⟩:=r.get ha;have hp:ps[i]?=some y:=by
   rw [← S.pre,List.getElem?_take_of_lt (by omega)];exact h1
  have ndP:ps.Nodup:=by rw [← S.pre];exact S.nd.sublist (List.take_sublist _ _)
  refine ⟨u,rv,?_⟩;rcases S.par y (mem_of_getElem? hp) with k|k
  ·exact .inl ⟨k,U8 ndP hp hu k⟩
  ·obtain ⟨c,e⟩:=WI (n:=s.heap.objs.size+1) k;refine .inr ⟨.inl k,c,e,?_⟩;have q:=x.cell y c e;rw [EA ndP hp hu (by show scope.names.lookup y≠_;rw [k];decide)] at q;exact q
 ·exact e0.hok.fresh (Nat.le_of_lt (x.above y c (PySem.mem_of_lookup h)))
 ·unfold start;show _=N.length;rw [length_append,length_map,List.length_replicate];omega
def qfo {CX:CXT} {P:Program} {w:World} {K:Frg} {mg:Str->Option Value} {base:Heap} {k:Nat} {f:Addr} {name qual:Str} {params:Arguments} {body:List Stmt} {scope:Scope} {dV kV doc pm cdv ct oc:Value} {an od:Option Addr}
  {osl:Array (Option Value)} {N ps:List Str} {sp:Sp} (lk:K.lookup f=some ⟨oc,od,.func (PySem.W.fnOf name qual params body scope dV kV doc pm an cdv ct),osl⟩) (hcd:PySem.W.codeIn K cdv qual=true) (S:FnScope N ps scope)
  (len:∀ vs H Q E,sp vs H Q E->vs.length=ps.length)
  (hbody:∀ (A:Around) (outer:List Env) (s:Shared) (H:Hp) (vs:List V) (Q:VK) (E:XK),Room k (A.deeper (envOfC qual scope s.heap.objs.size f cdv))->sp vs H Q E ->
   ∃ t,PSs (T7 CX P w K mg base N qual scope f cdv A outer s H E) body t/\t { nx:=λ_ H'=>Q .non H',rt:=Q } (start N vs) H) :
  FnOk P w K mg base CX (k+1) f (PySem.W.fnOf name qual params body scope dV kV doc pm an cdv ct) ps sp:=by
 refine ⟨len,λA outer s H args us vs Q E hr e0 hb r hsp=>?_⟩;have hl:=len _ _ _ _ hsp;have KX:K.In s.heap:=e0.mod.kin.keeps λb o e=>(e0.bs b o e).1;have lim:s.heap.NoLimit:=e0.mod.nolimit.keeps λb o e=>(e0.bs b o e).1;have hkind:∀ y∈ps.zip us,scope.names.lookup y.1=some .local\/(scope.names.lookup y.1=some .cell/\((cellsFrom (s.heap.objs.size+1) scope.names []).lookup y.1).isSome=true):=λ⟨n,v⟩ hy=>by
  rcases S.par n (List.of_mem_zip hy).1 with q|q
  ·exact .inl q
  ·exact .inr ⟨q,PySem.W.cellsFrom_some _ _ _ (.inl q)⟩
 refine codeAny_call_function hr.depth (KX _ _ lk) rfl S.co S.gen rfl (PySem.W.codeRec_of KX hcd) (hb _ _ _ _ ?_);refine wpAny_newFunctionEnv_cells S.kind hkind λenv he s1 x=>?_;subst he;refine ⟨lim.keeps x.toInCall.keep,codeAny_func ?_⟩;obtain ⟨t,ht,hq⟩:=hbody A outer s H vs Q E (hr.deeper _) hsp;have I:Inv (T7 CX P w K mg base N qual scope f cdv A outer s H E) [] (start N vs) H s1:=R9 S hr.hd e0 hl r x;refine wpAny_mono (ht [] s1 (start N vs) H _ I hq) (λfl s' hs=>?_) λe s' hs=>hs;have fin:∀ {σ':St} {H':Hp} {v:V} {u:Value},Inv (T7 CX P w K mg base N qual scope f cdv A outer s H E) [] σ' H' s'->zT v u->Q v H'->CE outer P w H s Q u s':=
  λ{σ' H' v u} J rv q=>⟨v,H',J.os,J.bare,J.base,J.hok,rv,q⟩
 cases fl with
 |ret u=>
  obtain ⟨v,σ',H',J,rv,q⟩:=hs;exact fin J rv q
 |next=>
  obtain ⟨σ',H',J,q⟩:=hs;exact fin (v:=V.non) (u:=Value.none) J rfl q
 |brk=>
  obtain ⟨_,_,_,q⟩:=hs;exact False.elim q
 |cont=>
  obtain ⟨_,_,_,q⟩:=hs;exact False.elim q
section
variable {X:Cx} {x:Str} {p pos:Pos} {e:Expr} {es:List Expr} {t:TA} {id T:String} {r:List V->Hp->VK->Prop}
def tCB (r:List V->Hp->VK->Prop) (t:TA):TE:=λσ H Q=>t σ H λvs H1=>r vs H1 Q
def WQ (hc:QB X (.builtin id) r) (hg:Gl X x) (hm:X.mg x=none) (hv:bootBuiltins x=some (.builtin id)) (ha:PA X (e::es) t) (hn:x≠"__name__" := by decide) (hdb:(x==("__debug__" : Str))=false:=by decide)
  (he:starEach (e::es) X.env=(false,eval e X.env)::starEach es X.env:=by rfl) (hpl:(backTo pos (starEach es X.env)).any (·.1)=false:=by rfl):PE X (.Call (.Name x p) (e::es) [] pos) (tCB r t):=by
 intro pins s σ H Q I h;refine wpAny_Call_Name_kw (YR I hg hm hv ?_ hn hdb);exact PyProof.Rows.callWith_builtin1 (thn (ha pos pins s σ H _ I h) λus s1 ⟨vs,H1,I1,r1,q1⟩=>hc pins s1 σ H1 vs us Q I1 r1 q1) he hpl
def C8 (hc:QB X (.type T) r) (hg:Gl X x) (hm:X.mg x=none) (hv:bootBuiltins x=some (.type T)) (ha:PA X (e::es) t) (hn:x≠"__name__" := by decide) (hdb:(x==("__debug__" : Str))=false:=by decide)
  (he:starEach (e::es) X.env=(false,eval e X.env)::starEach es X.env:=by rfl) (hpl:(backTo pos (starEach es X.env)).any (·.1)=false:=by rfl):PE X (.Call (.Name x p) (e::es) [] pos) (tCB r t):=by
 intro pins s σ H Q I h;refine wpAny_Call_Name_kw (YR I hg hm hv ?_ hn hdb);exact PyProof.Rows.callWith_type1 (thn (ha pos pins s σ H _ I h) λus s1 ⟨vs,H1,I1,r1,q1⟩=>hc pins s1 σ H1 vs us Q I1 r1 q1) he hpl
end
end L2
namespace HT
open PySem PyProof.Rows
section
open PySem.SeqAt
open PySem.MeetsSeq PySem.MeetsSeq2 PySem.MeetsSeq3
end
section
variable {prog:Program} {w:World} {A:Around} {E:Value->Shared->Prop} {s:Shared}
def qaG {t b:Addr} {vs ws:List Value} {Q:Value->Shared->Prop} (ht:IsTup s.heap t vs.toArray) (hb:IsTup s.heap b ws.toArray) (hv:vs≠[])
  (h1:ws=[]->Q (.ref t) s) (h2:ws≠[]->Q (.ref s.heap.objs.size) { s with heap:=s.heap.push { cls:=.type "tuple",data:=.seq (vs++ws).toArray } })
  (hsz:vs.length+ws.length<=sizeLine):wpAny (model prog w) A (binaryOp .Add (.ref t) (.ref b)) Q E s:=by
 obtain ⟨⟨cls,dd,data,sl⟩,ho,hc,n,hd⟩:=id ht;obtain ⟨⟨cls2,dd2,data2,sl2⟩,ho2,hc2,n2,hd2⟩:=id hb;simp only at hc hd hc2 hd2;subst hc hd hc2 hd2;have e:vs.toArray++ws.toArray=(vs++ws).toArray:=by simp
 by_cases hw:ws=[]
 ·exact concat_meets ⟨_,ho,rfl⟩ ⟨_,ho2,rfl⟩ noFill_tuple_add seq_tuple_add PySem.F.slot_tuple_add PySem.F.entry_tuple_add (PySem.F.args_tuple_add_2 _ _)
   (tuple_addW1 t b vs.toArray ws.toArray n n2 dd dd2 sl sl2 (by simpa using hv) (by simp [hw])) ⟨ho,ho2,h1 hw⟩
 ·refine concat_meets ⟨_,ho,rfl⟩ ⟨_,ho2,rfl⟩ noFill_tuple_add seq_tuple_add PySem.F.slot_tuple_add PySem.F.entry_tuple_add (PySem.F.args_tuple_add_2 _ _)
   (tuple_addW2 t b vs.toArray ws.toArray n n2 dd dd2 sl sl2 (by simpa using hv) (by simpa using hw) (by rw [size_toArray,size_toArray];exact hsz)) ⟨ho,ho2,?_⟩
  rw [e];exact h2 hw
def sIx (n d:Nat):Option Int->Nat
 |none=>d
 |some v=>if v<0 then (v+(n:Int)).toNat else min v.toNat n
def UL (n d:Nat):sIx n d none=d:=rfl
def V9 (n d k:Nat):sIx n d (some (k:Int))=min k n:=by
 show (if (k:Int)<0 then ((k:Int)+(n:Int)).toNat else min (k:Int).toNat n)=min k n;rw [if_neg (by omega),Int.toNat_natCast]
def qeb (n d:Nat) (hd:d<=n) (o:Option Int):sIx n d o<=n:=by
 cases o with
 |none=>exact hd
 |some v=>
  show (if v<0 then (v+(n:Int)).toNat else min v.toNat n)<=n;by_cases hv:v<0
  ·rw [if_pos hv];omega
  ·rw [if_neg hv];exact Nat.min_le_right _ _
def CP (v:Int) (n d:Nat):(if v<0 then max (v+(n:Int)) 0 else min v (n:Int))=((sIx n d (some v):Nat):Int):=by
 show (if v<0 then max (v+(n:Int)) 0 else min v (n:Int))=(((if v<0 then (v+(n:Int)).toNat else min v.toNat n):Nat):Int);by_cases hv:v<0
 ·simp only [if_pos hv];omega
 ·simp only [if_neg hv];omega
def XG (lo hi:Option Int) (n:Nat):Builtin.Slice.sliceAdjust lo hi 1 (n:Int)=(((sIx n 0 lo:Nat):Int),((sIx n n hi:Nat):Int)):=by
 have h1:¬ ((1:Int)<0):=by omega
 unfold Builtin.Slice.sliceAdjust;simp only [h1,if_false];refine Prod.ext ?_ ?_
 ·cases lo with
  |none=>rfl
  |some v=>exact CP v n 0
 ·cases hi with
  |none=>rfl
  |some v=>exact CP v n n
def XI (i j:Nat):Builtin.Slice.slicePlaces (i:Int) (j:Int) 1=j-i:=by
 unfold Builtin.Slice.slicePlaces;have h1:(1:Int) > 0:=by omega
 simp only [h1,if_true,Int.ediv_one];split<;>omega
def VJ {v:Value} {o:Option Int} {Q:Option Int->Shared->Prop} (p:IsPart v o) (h:Q o s):wpAny (model prog w) A (Builtin.Slice.slicePartIndex v) Q E s:=by
 cases p with
 |none=>exact slicePart_none h
 |int i t=>exact slicePart_int h
def jV {sl:Addr} {vl vu:Value} {lo hi:Option Int} {n:Nat} {Q:Int×Int×Nat->Shared->Prop} (hs:s.heap.IsSliceOf sl vl vu .none) (pl:IsPart vl lo) (pu:IsPart vu hi)
  (h:Q (((sIx n 0 lo:Nat):Int),1,sIx n n hi-sIx n 0 lo) s):wpAny (model prog w) A (Builtin.Slice.sliceApplied (.ref sl) (pure (n:Int))) Q E s:=by
 obtain ⟨os,hos,hcs,hds⟩:=id hs;unfold Builtin.Slice.sliceApplied Builtin.Slice.sliceFields;refine wpAny_bind (wpAny_bind (wpAny_field hos hds (x:=vl) rfl (wpAny_bind (wpAny_field hos hds (x:=vu) rfl (wpAny_bind (wpAny_field hos hds (x:=.none) rfl (wpAny_pure ?_)))))));refine wpAny_bind (slicePart_none ?_);show wpAny _ _ (if ((1:Int)==0)=true then _ else _) _ _ s;rw [if_neg (by decide)];refine wpAny_bind (VJ pl (wpAny_bind (VJ pu (wpAny_bind (wpAny_pure ?_)))));show wpAny _ _ (match Builtin.Slice.sliceAdjust lo hi 1 (n:Int) with|(lo,hi)=>pure (lo,(1:Int),Builtin.Slice.slicePlaces lo hi 1)) _ _ s;rw [XG lo hi n];show wpAny _ _ (pure (((sIx n 0 lo:Nat):Int),(1:Int),Builtin.Slice.slicePlaces ((sIx n 0 lo:Nat):Int) ((sIx n n hi:Nat):Int) 1)) _ _ s;rw [XI];exact wpAny_pure h
def K3 (xs:Array Value) (i k:Nat):((List.range k).filterMap λ(m:Nat)=>xs[((i:Int)+(m:Int)*1).toNat]?).toArray=((xs.toList.drop i).take k).toArray:=by
 have e:(λ(m:Nat)=>xs[((i:Int)+(m:Int)*1).toNat]?)=λm=>xs[i+m]?:=by
  funext m;have:((i:Int)+(m:Int)*1).toNat=i+m:=by omega
  rw [this]
 rw [e];have:=pick_run xs i k;rw [List.filterMap_map] at this;have e2:((λx=>xs[x]?)∘λx=>i+x)=λm=>xs[i+m]?:=rfl;rw [e2] at this;rw [this]
def Z7 {t sl:Addr} {items:Array Value} {vl vu:Value} {lo hi:Option Int} {Q:Value->Shared->Prop} (ht:IsTup s.heap t items) (hs:s.heap.IsSliceOf sl vl vu .none) (pl:IsPart vl lo) (pu:IsPart vu hi)
  (hw:¬ (sIx items.size 0 lo=0/\sIx items.size items.size hi=items.size))
  (h:Q (.ref s.heap.objs.size) { s with heap:=s.heap.push { cls:=.type "tuple",data:=.seq ((items.toList.drop (sIx items.size 0 lo)).take (sIx items.size items.size hi-sIx items.size 0 lo)).toArray } })
  (hsz:items.size<=sizeLine):wpAny (model prog w) A (getItem (.ref t) (.ref sl)) Q E s:=by
 have htake:sizeOk (.seq ((items.toList.drop (sIx items.size 0 lo)).take (sIx items.size items.size hi-sIx items.size 0 lo)).toArray):=by
  show ((items.toList.drop (sIx items.size 0 lo)).take (sIx items.size items.size hi-sIx items.size 0 lo)).toArray.size<=sizeLine;rw [size_toArray,List.length_take,List.length_drop,Array.length_toList];omega
 have hj:sIx items.size items.size hi<=items.size:=qeb _ _ (Nat.le_refl _) hi;obtain ⟨os,hos,hcs,hds⟩:=id hs;have hTs:s.TypeIs (.ref sl) "slice" := ⟨os,hos,hcs⟩
 unfold getItem
 try with_reducible refine wpAny_holding ?_
 first|refine wpAny_bind (wpAny_pure ?_)|skip
 refine wpAny_bind (wpAny_sequenceKey ht.typeIs (by decide) ?_);refine wpAny_bind (wpAny_callSpecial?_slot (name:=Str.ofString "__getitem__") ht.typeIs PyProof.Rows.slot_tuple_getitem
  (wpAny_call_entry PyProof.Rows.slot_tuple_getitem ht.typeIs entry_tuple_getitem ?_ (args_tuple_getitem _ _)))
 show wpAny _ _ (Builtin.Tuple.tupleItemsOf (.ref t) >>= _) _ _ s;refine wpAny_bind (tupleItemsOf_ ht ?_);refine wpAny_bind (wpAny_typeOf hTs ?_);rw [if_pos (by decide)];refine wpAny_bind (jV hs pl pu ?_);have hno:¬ ((((sIx items.size 0 lo:Nat):Int)==0&&(1:Int)==1&&(sIx items.size items.size hi-sIx items.size 0 lo)==items.size)=true):=by
  intro q;rw [Bool.and_eq_true,Bool.and_eq_true] at q;have q1:((sIx items.size 0 lo:Nat):Int)=0:=eq_of_beq q.1.1;have q2:sIx items.size items.size hi-sIx items.size 0 lo=items.size:=eq_of_beq q.2;exact hw ⟨by omega,by omega⟩
 show wpAny _ _ (if (((sIx items.size 0 lo:Nat):Int)==0&&(1:Int)==1&&(sIx items.size items.size hi-sIx items.size 0 lo)==items.size)=true then _ else _) _ _ s;rw [if_neg hno,K3]
 first
  |exact wpAny_bind (m:=Builtin.Tuple.tupleExact _) (wpAny_newObj_type (wpAny_pure ⟨_,rfl,wpAny_pure h⟩) htake)
  |exact wpAny_bind (m:=Builtin.Tuple.tupleExact _) (wpAny_newObj_type (wpAny_bind (wpAny_pure (wpAny_pure ⟨_,rfl,wpAny_pure h⟩))) htake)
  |exact wpAny_bind (wpAny_bind (m:=Builtin.Tuple.tupleExact _) (wpAny_newObj_type (wpAny_pure (wpAny_pure ⟨_,rfl,wpAny_pure h⟩)) htake))
  |exact wpAny_bind (wpAny_bind (m:=Builtin.Tuple.tupleExact _) (wpAny_newObj_type (wpAny_pure ⟨_,rfl,wpAny_pure h⟩) htake))
end
end HT
namespace L2
open PySem PySem.Spec PyProof.Rows
abbrev TO:=St->Hp->(Option Int->Hp->Prop)->Prop
def PO (X:Cx) (e:Option Expr) (t:TO):Prop:=
 ∀ (pins:List (Addr×Obj)) (s:Shared) (σ:St) (H:Hp) (Q:Option Int->Hp->Prop),Inv X pins σ H s->t σ H Q ->
  wpAny (model X.prog X.w) X.A (evalPart e X.env) (λu s'=>∃ o H',Inv X pins σ H' s'/\IsPart u o/\Q o H') X.xe s
def qaW:TO:=λ_ H Q=>Q none H
def qf7 (t:TE):TO:=λσ H Q=>t σ H λx H1=>∃ i,x=.int i/\Q (some i) H1
section
variable {X:Cx} {e:Expr} {te:TE} {lo hi:Option Expr} {tl th:TO} {pos p2:Pos}
def qaO:PO X none qaW:=by
 intro pins s σ H Q I h;rw [evalPart_none];exact wpAny_pure ⟨none,H,I,.none,h⟩
def qaN (h:PE X e te):PO X (some e) (qf7 te):=by
 intro pins s σ H Q I hw;rw [evalPart_some];refine thn (h pins s σ H _ I hw) λu s1 ⟨x,H1,I1,r1,q1⟩=>?_;obtain ⟨i,rfl,q⟩:=q1;obtain ⟨t,rfl⟩:=r1;exact ⟨some i,H1,I1,.int i t,q⟩
def SlR (X:Cx) (r:V->Option Int->Option Int->Hp->VK->Prop):Prop:=
 ∀ (pins:List (Addr×Obj)) (s:Shared) (σ:St) (H:Hp) (x:V) (v vl vu:Value) (lo hi:Option Int) (sl:Addr) (Q:VK),Inv X pins σ H s->zT x v->s.heap.IsSliceOf sl vl vu .none->IsPart vl lo->IsPart vu hi->r x lo hi H Q ->
  ∃ T id,typeLookup (.type T) "__getitem__" = pure (some (.builtin id))/\s.TypeIs v T/\wpAny (model X.prog X.w) X.A (getItem v (.ref sl)) (EP X pins σ Q) X.xe s
def SlR.or {r r':V->Option Int->Option Int->Hp->VK->Prop} (h:SlR X r) (h':SlR X r'):SlR X (λx lo hi H Q=>r x lo hi H Q\/r' x lo hi H Q):=by
 intro pins s σ H x v vl vu lo hi sl Q I rx hs pl pu q;rcases q with q|q
 ·exact h pins s σ H x v vl vu lo hi sl Q I rx hs pl pu q
 ·exact h' pins s σ H x v vl vu lo hi sl Q I rx hs pl pu q
def tSl (r:V->Option Int->Option Int->Hp->VK->Prop) (te:TE) (tl th:TO):TE:=λσ H Q=>te σ H λx H1=>tl σ H1 λl H2=>th σ H2 λu H3=>r x l u H3 Q
def WW {r:V->Option Int->Option Int->Hp->VK->Prop} (hr:SlR X r) (he:PE X e te) (hl:PO X lo tl) (hu:PO X hi th):PE X (.Subscript e (.Slice lo hi none p2) pos) (tSl r te tl th):=by
 intro pins s σ H Q I h;refine Subscript_ (thn (he pins s σ H _ I h) λv s1 ⟨x,H1,I1,r1,q1⟩=>?_);refine wpAny_Slice (thn (hl pins s1 σ H1 _ I1 q1) λvl s2 ⟨l,H2,I2,pl,q2⟩=>thn (hu pins s2 σ H2 _ I2 q2) λvu s3 ⟨u,H3,I3,pu,q3⟩=>?_);rw [evalPart_none];refine wpAny_pure ?_;have I4:Inv X pins σ H3 { s3 with heap:=s3.heap.push { cls:=.type "slice",data:=.fields #[vl,vu,.none] } }:=I3.kept (t':=s3.toks) λb ob q=>Heap.get?_push_of_some _ q;obtain ⟨T,id,hT,ht,hg⟩:=hr pins { s3 with heap:=s3.heap.push { cls:=.type "slice",data:=.fields #[vl,vu,.none] } } σ H3 x v vl vu l u s3.heap.objs.size Q I4 r1 (Heap.IsSliceOf.new ..) pl pu q3;show wpAny (model X.prog X.w) X.A (subscriptTail e (.Slice lo hi none p2) v (.ref s3.heap.objs.size)) (EP X pins σ Q) X.xe { s3 with heap:=s3.heap.push { cls:=.type "slice",data:=.fields #[vl,vu,.none] } };exact tail_any (ops:=[.ref s3.heap.objs.size,v]) ht hT hg (by with_unfolding_all rfl)
def NO (xs:List V) (lo hi:Option Int):List V:=(xs.drop (HT.sIx xs.length 0 lo)).take (HT.sIx xs.length xs.length hi-HT.sIx xs.length 0 lo)
def YN (xs:List V) (lo hi:Option Int):(NO xs lo hi).length<=xs.length:=by
 unfold NO;rw [List.length_take,List.length_drop];omega
def qhB (K:Frg):V->Option Int->Option Int->Hp->VK->Prop:=λx lo hi H Q=>∃ a xs,x=.ref a/\SqT K H a xs /\
 ¬ (HT.sIx xs.length 0 lo=0/\HT.sIx xs.length xs.length hi=xs.length)/\∀ p,H p=none->Q (.ref p) (upd H p (.tup (NO xs lo hi)))
def MD:SlR X (qhB X.K):=by
 intro pins s σ H x v vl vu lo hi sl Q I rx hs pl pu h;obtain ⟨a,xs,rfl,hx,hw,q⟩:=h;cases rx;obtain ⟨its,r,ht,hz⟩:=I.tuple hx;have hlen:its.toArray.size=xs.length:=by rw [size_toArray];exact r.length.symm
 refine ⟨"tuple",_,PyProof.Rows.slot_tuple_getitem.lookup,ht.typeIs,?_⟩;refine HT.Z7 ht hs pl pu (by rw [hlen];exact hw) ?_ (by rw [hlen];exact hz);rw [hlen];refine ⟨.ref s.heap.objs.size,_,I.laid (t':=s.toks) (o:=.tup (NO xs lo hi)) (λb ob q=>Heap.get?_push_of_some _ q) (Nat.le_refl _) ?_,rfl,q _ (I.hok.fresh (Nat.le_refl _))⟩;exact ⟨Nat.le_trans (YN xs lo hi) hz,_,(r.drop (HT.sIx xs.length 0 lo)).take (HT.sIx xs.length xs.length hi-HT.sIx xs.length 0 lo),IsTup.new _ _⟩
def qba (K:Frg):R2:=λx y H Q=>∃ a b xs ys,x=.ref a/\y=.ref b/\SqT K H a xs/\SqT K H b ys/\xs≠[]/\xs.length+ys.length<=sizeLine /\
 (ys=[]->Q (.ref a) H)/\(ys≠[]->∀ p,H p=none->Q (.ref p) (upd H p (.tup (xs++ys))))
def zn.nil_iff {xs:List V} {us:List Value} (r:zn xs us):us=[]↔xs=[]:=by
 cases r with
 |nil=>simp
 |cons _ _=>simp
def S9:OpR X (binaryOp .Add) (qba X.K):=by
 intro pins s σ H x y v u Q I rx ry h;obtain ⟨a,b,xs,ys,rfl,rfl,ha,hb,hx,hz,q1,q2⟩:=h;cases rx;cases ry;obtain ⟨its,r1,p1,_⟩:=I.tuple ha;obtain ⟨its2,r2,p2,_⟩:=I.tuple hb;refine HT.qaG p1 p2 (λz=>hx (r1.nil_iff.mp z)) (λz=>⟨.ref a,H,I,rfl,q1 (r2.nil_iff.mp z)⟩) (λz=>?_) (by rw [← r1.length,← r2.length];exact hz);refine ⟨.ref s.heap.objs.size,_,I.laid (t':=s.toks) (o:=.tup (xs++ys)) (λb ob q=>Heap.get?_push_of_some _ q) (Nat.le_refl _) ?_,rfl,q2 (λw=>z (r2.nil_iff.mpr w)) _ (I.hok.fresh (Nat.le_refl _))⟩;exact ⟨by rw [length_append];exact hz,_,r1.append r2,IsTup.new _ _⟩
end
def ixN (n:Nat) (i:Int):Option Nat:=if 0<=i then (if i<n then some i.toNat else none) else if -(n:Int)<=i then some (i+n).toNat else none
def atI {α:Type} (xs:List α) (i:Int):Option α:=(ixN xs.length i).bind λj=>xs[j]?
def CW {n:Nat} {i:Int} {j:Nat} (h:ixN n i=some j):seqIndex? i n=some j/\j<n/\-(n:Int)<=i/\i<n:=by
 unfold ixN at h;by_cases h0:0<=i
 ·rw [if_pos h0] at h;by_cases h1:i<n
  ·rw [if_pos h1] at h;have e:i.toNat=j:=Option.some.inj h;exact ⟨by rw [seqIndex_of h0 h1,e],by omega,by omega,h1⟩
  ·rw [if_neg h1] at h;cases h
 ·rw [if_neg h0] at h;by_cases h1:-(n:Int)<=i
  ·rw [if_pos h1] at h;have e:(i+n).toNat=j:=Option.some.inj h;exact ⟨by rw [seqIndex_neg (by omega) h1,e],by omega,h1,by omega⟩
  ·rw [if_neg h1] at h;cases h
def DA {α:Type} {xs:List α} {i:Int} {v:α} (h:atI xs i=some v):∃ j,seqIndex? i xs.length=some j/\xs[j]?=some v/\j<xs.length/\-(xs.length:Int)<=i/\i<xs.length:=by
 unfold atI at h;cases e:ixN xs.length i with
 |none=>rw [e] at h;cases h
 |some j=>
  rw [e] at h;obtain ⟨h1,h2,h3,h4⟩:=CW e;exact ⟨j,h1,h,h2,h3,h4⟩
def DG (b:Expr):Prop:=∀ o i,subscripted b false o i=operate [o,i] (getItem o i)
def IxR (X:Cx) (r:R2):Prop:=
 ∀ (value slice:Expr) (pins:List (Addr×Obj)) (s:Shared) (σ:St) (H:Hp) (x y:V) (v u:Value) (Q:VK),Inv X pins σ H s->zT x v->zT y u->r x y H Q ->
  subscripted slice false v u=operate [v,u] (getItem v u)->wpAny (model X.prog X.w) X.A (subscriptTail value slice v u) (EP X pins σ Q) X.xe s
def MtR (X:Cx) (id:String) (r:V->List V->Hp->VK->Prop):Prop:=
 ∀ (pins:List (Addr×Obj)) (s:Shared) (σ:St) (H:Hp) (x:V) (xs:List V) (v:Value) (us:List Value) (Q:VK),Inv X pins σ H s->zT x v->zn xs us->r x xs H Q ->
  wpAny (model X.prog X.w) X.A (call (.builtin id) (v::us)) (EP X pins σ Q) X.xe s
section
variable {X:Cx} {a b:Expr} {ta tb:TE} {pos:Pos}
def IxR.or {r r':R2} (h:IxR X r) (h':IxR X r'):IxR X (λx y H Q=>r x y H Q\/r' x y H Q):=by
 intro value slice pins s σ H x y v u Q I rx ry q hs;rcases q with q|q
 ·exact h value slice pins s σ H x y v u Q I rx ry q hs
 ·exact h' value slice pins s σ H x y v u Q I rx ry q hs
def qfO {r:R2} (hr:IxR X r) (ha:PE X a ta) (hb:PE X b tb) (hs:DG b):PE X (.Subscript a b pos) (tOp r ta tb):=by
 intro pins s σ H Q I h;exact Subscript_ (qgu ha hb I h λv u s2 x y H2 I2 rx ry q=>hr a b pins s2 σ H2 x y v u Q I2 rx ry q (hs _ _))
def qgT (K:Frg):R2:=λx y H Q=>∃ p xs i v,x=.ref p/\y=.int i/\SqL K H p xs/\atI xs i=some v/\Q v H
def qgX (K:Frg):R2:=λx y H Q=>∃ p xs i v,x=.ref p/\y=.int i/\SqT K H p xs/\atI xs i=some v/\Q v H
def qgI:R2:=λx y H Q=>∃ z i c,x=.str z/\y=.int i/\z.length<=sizeLine/\atI z.cps.toList i=some c/\Q (.str ⟨#[c]⟩) H
def qaM:IxR X (qgT X.K):=by
 intro value slice pins s σ H x y v u Q I rx ry h hs;obtain ⟨p,xs,i,z,rfl,rfl,hq,he,q⟩:=h;cases rx;obtain ⟨t,rfl⟩:=ry;obtain ⟨its,r,pl,hz⟩:=I.list hq;obtain ⟨j,h1,h2,h3,h4,h5⟩:=DA he;obtain ⟨w,ew,rw'⟩:=r.get h2;have hl:=r.length;have hn:=EC;have fin:EP X pins σ Q w s:=⟨z,H,I,rw',q⟩
 by_cases h0:0<=i
 ·have hj:i.toNat=j:=by
   rw [seqIndex_of h0 h5] at h1;exact Option.some.inj h1
  exact item_listR pl.isList h0 (by omega) (by rw [hj];simpa using ew) fin hs
 ·have hj:(i+(its.toArray.size:Int)).toNat=j:=by
   rw [seqIndex_neg (by omega) h4] at h1;rw [size_toArray,← hl];exact Option.some.inj h1
  exact subscriptTail_builtinR (x:=w) pl.isList.typeIs slot_list_getitem.lookup
   (wpAny_getItem_list_neg (Q:=λr s'=>r=w/\EP X pins σ Q r s') pl.isList (by omega) (by rw [size_toArray]<;>omega) (by omega) (by rw [hj];simpa using ew) ⟨rfl,fin⟩) hs
def qeK:IxR X (qgX X.K):=by
 intro value slice pins s σ H x y v u Q I rx ry h hs;obtain ⟨p,xs,i,z,rfl,rfl,hq,he,q⟩:=h;cases rx;obtain ⟨t,rfl⟩:=ry;obtain ⟨its,r,pl,hz⟩:=I.tuple hq;obtain ⟨j,h1,h2,h3,h4,h5⟩:=DA he;obtain ⟨w,ew,rw'⟩:=r.get h2;have hl:=r.length;have hn:=EC;have fin:EP X pins σ Q w s:=⟨z,H,I,rw',q⟩
 exact subscriptTail_builtinR (x:=w) pl.typeIs slot_tuple_getitem.lookup
  (getItem_tuple (j:=j) (Q:=λr s'=>r=w/\EP X pins σ Q r s') pl (by omega) (by omega) (by rw [size_toArray,← hl];exact h1) (by simpa using ew) ⟨rfl,fin⟩) hs
def qcD:IxR X qgI:=by
 intro value slice pins s σ H x y v u Q I rx ry h hs;obtain ⟨z,i,c,rfl,rfl,hz,he,q⟩:=h;obtain ⟨t,rfl⟩:=rx;obtain ⟨t',rfl⟩:=ry;obtain ⟨j,h1,h2,h3,h4,h5⟩:=DA he;have hl:z.cps.toList.length=z.length:=by simp [Str.length]
 rw [hl] at h1 h4 h5;have hn:=EC;exact tail_any (typeIs_str s z t) slot_str_getitem.lookup (getItem_str (c:=c) (by
  have e1:decide (i < -(2 ^ 63:Int))=false:=decide_eq_false (by omega);have e2:decide (i ≥ 2 ^ 63)=false:=decide_eq_false (by omega);rw [e1,e2,Bool.or_false]) (by rw [h1];simpa using h2) ⟨.str ⟨#[c]⟩,H,I.tok _,⟨_,rfl⟩,q⟩) hs
def rIx (K:Frg):R2:=λx y H Q=>qgT K x y H Q\/qgX K x y H Q\/qgI x y H Q
def qdo:IxR X (rIx X.K):=qaM.or (qeK.or qcD)
def XS (its:List Value) (n j:Nat) (u:Value):Obj.mapSeq (·.setIfInBounds j u) { cls:=.type "list",data:=.seq its.toArray n }={ cls:=.type "list",data:=.seq (its.set j u).toArray n }:=by
 simp [Obj.mapSeq]
def Inv.lst {pins:List (Addr×Obj)} {σ:St} {H:Hp} {s:Shared} {p:Addr} {xs:List V} (I:Inv X pins σ H s) (h:H p=some (.lst xs)) :
  ∃ (its:List Value) (n:Nat),zn xs its/\s.heap.get? p=some { cls:=.type "list",data:=.seq its.toArray n }/\xs.length<=sizeLine:=by
 obtain ⟨z,its,n,r,e⟩:=I.hok p _ h;exact ⟨its,n,r,e,z⟩
def Inv.lstUpd {pins:List (Addr×Obj)} {σ:St} {H:Hp} {s:Shared} {p:Addr} {xs ys:List V} {its its':List Value} {n n':Nat} {f:Obj->Obj} (I:Inv X pins σ H s) (h:H p=some (.lst xs))
  (ho:s.heap.get? p=some { cls:=.type "list",data:=.seq its.toArray n }) (hf:f { cls:=.type "list",data:=.seq its.toArray n }={ cls:=.type "list",data:=.seq its'.toArray n' }) (r:zn ys its') (hz:ys.length<=sizeLine) (t:Nat) :
  Inv X pins σ (upd H p (.lst ys)) { s with heap:=s.heap.update p f,toks:=t }:=by
 have e:(s.heap.update p f).get? p=some { cls:=.type "list",data:=.seq its'.toArray n' }:=by
  rw [Heap.get?_update_self f ho (by rw [hf]<;>rfl),hf]
 refine I.write (x:=p) (e:=p) (by rw [h];trivial) (.inl rfl) (λb u hb q=>(Heap.get?_update_other _ _ (Ne.symm hb)).trans q) ⟨_,e⟩ ?_;exact ⟨hz,its',n',r,e⟩
def qge:V->V->V->Hp->(Hp->Prop)->Prop:=λo i v H Q=>∃ p xs k j,o=.ref p/\i=.int k/\H p=some (.lst xs)/\ixN xs.length k=some j/\Q (upd H p (.lst (xs.set j v)))
def KM:qai X qge:=by
 intro pins s σ H o i v ov iv u Q I ro ri rv h;obtain ⟨p,xs,k,j,rfl,rfl,hp,hj,q⟩:=h;cases ro;obtain ⟨t,rfl⟩:=ri;obtain ⟨its,n,r,ho,hz⟩:=I.lst hp;obtain ⟨h1,h2,h3,h4⟩:=CW hj;have hl:=r.length;have hn:=EC;have I':Inv X pins σ (upd H p (.lst (xs.set j v))) { s with heap:=s.heap.update p (Obj.mapSeq (·.setIfInBounds j u)) }:=
  I.lstUpd hp ho (XS its n j u) (r.set rv j) (by rw [List.length_set];exact hz) s.toks
 by_cases h0:0<=k
 ·have hk:k.toNat=j:=by
   rw [seqIndex_of h0 h4] at h1;exact Option.some.inj h1
  exact PySem.W.ki_setAt ho h0 (by omega) (by rw [size_toArray,← hl];exact h4) (by rw [hk];exact ⟨_,I',q⟩)
 ·have hk:(k+(its.toArray.size:Int)).toNat=j:=by
   rw [seqIndex_neg (by omega) h3] at h1;rw [size_toArray,← hl];exact Option.some.inj h1
  exact PySem.W.ki_setBack ho (by omega) (by rw [size_toArray,← hl];exact h3) (by omega) (by rw [hk];exact ⟨_,I',q⟩)
def UV (lo hi:Option Int) (n:Nat):(sliceBounds lo hi none n).1=((HT.sIx n 0 lo:Nat):Int)/\(sliceBounds lo hi none n).2.1=((HT.sIx n n hi:Nat):Int)/\(sliceBounds lo hi none n).2.2=1:=by
 refine ⟨?_,?_,rfl⟩
 ·cases lo with
  |none=>simp [sliceBounds,HT.sIx]
  |some i=>
   simp only [sliceBounds,HT.sIx,Option.getD_none,show (1:Int) > 0 by decide,if_true];by_cases h:i<0
   ·simp only [h,if_true]<;>omega
   ·simp only [h,if_false]<;>omega
 ·cases hi with
  |none=>simp [sliceBounds,HT.sIx]
  |some i=>
   simp only [sliceBounds,HT.sIx,Option.getD_none,show (1:Int) > 0 by decide,if_true];by_cases h:i<0
   ·simp only [h,if_true]<;>omega
   ·simp only [h,if_false]<;>omega
def US (its:List Value) (lo hi:Option Int):slicePick its.toArray lo hi none=((its.drop (HT.sIx its.length 0 lo)).take (HT.sIx its.length its.length hi-HT.sIx its.length 0 lo)).toArray:=by
 obtain ⟨h1,h2,h3⟩:=UV lo hi its.toArray.size;unfold slicePick;rw [h1,h2,h3];simp only [sliceRange_one,pick_run,size_toArray]<;>rfl
def qhF (K:Frg):V->Option Int->Option Int->Hp->VK->Prop:=λx lo hi H Q=>∃ a xs,x=.ref a/\SqL K H a xs/\∀ p,H p=none->Q (.ref p) (upd H p (.lst (NO xs lo hi)))
def SL:SlR X (qhF X.K):=by
 intro pins s σ H x v vl vu lo hi sl Q I rx hs pl pu h;obtain ⟨a,xs,rfl,hx,q⟩:=h;cases rx;obtain ⟨its,r,ht,hz⟩:=I.list hx;have hlen:=r.length;refine ⟨"list",_,slot_list_getitem.lookup,ht.isList.typeIs,?_⟩;refine wpAny_getItem_list_slice ht.isList hs pl pu .none (by simp) ?_ (by rw [size_toArray]<;>omega);rw [US,← hlen];refine ⟨.ref s.heap.objs.size,_,I.laid (t':=s.toks) (o:=.lst (NO xs lo hi)) (λb ob q=>Heap.get?_push_of_some _ q) (Nat.le_refl _) ?_,rfl,q _ (I.hok.fresh (Nat.le_refl _))⟩;exact ⟨Nat.le_trans (YN xs lo hi) hz,_,0,(r.drop (HT.sIx xs.length 0 lo)).take (HT.sIx xs.length xs.length hi-HT.sIx xs.length 0 lo),Heap.get?_push_size _ rfl⟩
def j8:QB X (.type "list") (λxs H Q=>∃ p ys,xs=[.ref p]/\(SqL X.K H p ys\/SqT X.K H p ys)/\∀ l,H l=none->Q (.ref l) (upd H l (.lst ys))):=by
 intro pins s σ H xs us Q I r h;obtain ⟨p,ys,rfl,hq,q⟩:=h;obtain ⟨u,rfl,rx⟩:=YE r;cases rx;have fin:∀ (its:List Value),zn ys its->ys.length<=sizeLine->∀ (h':Heap) (c':Nat),(∀ b o',s.heap.get? b=some o'->h'.get? b=some o') ->
   h'.get? s.heap.objs.size=some { cls:=.type "list",dict:=none,data:=.seq its.toArray c',slots:=#[] }->EP X pins σ Q (.ref s.heap.objs.size) { s with heap:=h' }:=λits r' hz h' c' kp e=>
  ⟨.ref s.heap.objs.size,_,I.laid (t':=s.toks) kp (Nat.le_refl _) (show ZP X.prog X.w _ h' _ (.lst ys) from ⟨hz,its,c',r',e⟩),rfl,q _ (I.hok.fresh (Nat.le_refl _))⟩
 rcases hq with hq|hq
 ·obtain ⟨its,r',pl,hz⟩:=I.list hq;have hlen:=r'.length;obtain ⟨o,ho,hc,n,hd⟩:=pl.isList;exact call_list_seq p (.inl rfl) ho hc hd (λh' c' kp e=>fin its r' hz h' c' kp e) (by simp only [size_toArray]<;>omega)
 ·obtain ⟨its,r',pl,hz⟩:=I.tuple hq;have hlen:=r'.length;obtain ⟨o,ho,hc,n,hd⟩:=pl;exact call_list_seq p (.inr rfl) ho hc hd (λh' c' kp e=>fin its r' hz h' c' kp e) (by simp only [size_toArray]<;>omega)
def V6:QB X (.type "tuple") (λxs H Q=>∃ p ys,xs=[.ref p]/\((SqL X.K H p ys/\∀ l,H l=none->Q (.ref l) (upd H l (.tup ys)))\/(SqT X.K H p ys/\Q (.ref p) H))):=by
 intro pins s σ H xs us Q I r h;obtain ⟨p,ys,rfl,h⟩:=h;obtain ⟨u,rfl,rx⟩:=YE r;cases rx;rcases h with ⟨hq,q⟩|⟨hq,q⟩
 ·obtain ⟨its,r',pl,hz⟩:=I.list hq;have hlen:=r'.length;refine call_tuple_list pl.isList (λh' kp=>?_) (by simp only [size_toArray]<;>omega);have I1:Inv X pins σ H { s with heap:=h' }:=I.kept (t':=s.toks) kp;have I2:Inv X pins σ (upd H h'.objs.size (.tup ys)) { s with heap:=h'.push { cls:=.type "tuple",data:=.seq its.toArray } }:=
   I1.laid (t':=s.toks) (λb o e=>Heap.get?_push_of_some _ e) (Nat.le_refl _) (show ZP X.prog X.w _ _ _ (.tup ys) from ⟨hz,its,r',IsTup.new _ _⟩)
  exact ⟨.ref h'.objs.size,_,I2,rfl,q _ (I1.hok.fresh (Nat.le_refl _))⟩
 ·obtain ⟨its,r',pl,hz⟩:=I.tuple hq;exact call_tuple_same pl ⟨.ref p,H,I,rfl,q⟩
def tyV (K:Frg) (T:String) (x:V) (H:Hp):Prop:=match x with
 |.str _=>T="str"
 |.int _=>T="int"
 |.ref p=>(T="list"/\∃ xs,SqL K H p xs)\/(T="tuple"/\∃ o,K.lookup p=some o/\o.cls=.type "tuple"/\o.dict=none) ∨
   (T="dict"/\((∃ kvs,H p=some (.dK kvs))\/∃ kvs,H p=some (.dT kvs)))\/(T="set"/\∃ S n,H p=some (.set S n))
 |_=>False
def qdA {pins:List (Addr×Obj)} {σ:St} {H:Hp} {s:Shared} {T:String} {x:V} {v:Value} (I:Inv X pins σ H s) (r:zT x v) (ty:tyV X.K T x H) :
  s.TypeIs v T/\∀ a,v=.ref a->∃ ob,s.heap.get? a=some ob/\ob.dict=none:=by
 cases x with
 |str z=>
  obtain ⟨t,rfl⟩:=r;cases (show T="str" from ty);exact ⟨typeIs_str s z t,λ_ e=>nomatch e⟩
 |int i=>
  obtain ⟨t,rfl⟩:=r;cases (show T="int" from ty);exact ⟨typeIs_int s i t,λ_ e=>nomatch e⟩
 |ref p=>
  cases r;rcases ty with ⟨rfl,xs,hq⟩|⟨rfl,o,hk,hc,hd⟩|⟨rfl,hk⟩|⟨rfl,S,n,hk⟩
  ·obtain ⟨its,_,pl,_⟩:=I.list hq;refine ⟨pl.isList.typeIs,λa e=>?_⟩;cases e;obtain ⟨o,n,e,c,hd,_⟩:=pl;exact ⟨o,e,hd⟩
  ·refine ⟨⟨o,I.kIn p o hk,hc⟩,λa e=>?_⟩;cases e;exact ⟨o,I.kIn _ o hk,hd⟩
  ·have z:∃ o,s.heap.get? p=some o/\o.ExactDict:=by
    rcases hk with ⟨kvs,hk⟩|⟨kvs,hk⟩
    ·obtain ⟨_,_,_,_,o,_,_,e,ex,_⟩:=I.hok p _ hk;exact ⟨o,e,ex⟩
    ·obtain ⟨_,_,_,_,o,_,_,e,ex,_⟩:=I.hok p _ hk;exact ⟨o,e,ex⟩
   obtain ⟨o,e,ex⟩:=z;refine ⟨⟨o,e,ex.1⟩,λa e2=>?_⟩;cases e2;exact ⟨o,e,ex.2.1⟩
  ·obtain ⟨o,_,_,_,e,ex,_⟩:=I.hok p _ hk;refine ⟨⟨o,e,ex.1⟩,λa e2=>?_⟩;cases e2;exact ⟨o,e,ex.2.1⟩
 |_=>exact False.elim ty
def tBM (K:Frg) (T:String) (r:V->List V->Hp->VK->Prop) (to:TE) (t:TA):TE:=λσ H Q=>to σ H λx H1=>tyV K T x H1/\t σ H1 λxs H2=>r x xs H2 Q
variable {o e:Expr} {es:List Expr} {to:TE} {t:TA} {name:Str} {apos cpos:Pos} {T id:String} {r:V->List V->Hp->VK->Prop}
def qfn (pa:PlainAttrs T) (slot:Slot T name id) (hty:typeOf (.builtin id)=pure (.type "method_descriptor")) (hm:MtR X id r) (ho:PE X o to) (ha:PA X (e::es) t)
  (hbase:attributeBase o name X.env (eval o X.env)=eval o X.env:=by rfl)
  (hfew:((backTo cpos (starEach (e::es) X.env)).all (λx=>!x.1)&&(backToKw cpos (keywordEach [] X.env)).all (λx=>x.1.isSome)
   && decide ((e::es).length+([]:List Keyword).length+(if ([]:List Keyword).isEmpty then 0 else 1)<30))=true:=by rfl)
  (hline:(apos.endLine==cpos.line)=true:=by rfl) (hs:starEach (e::es) X.env=(false,eval e X.env)::starEach es X.env:=by rfl) (hplain:(backTo cpos (starEach es X.env)).any (·.1)=false:=by rfl) :
  PE X (.Call (.Attribute o name apos) (e::es) [] cpos) (tBM X.K T r to t):=by
 intro pins s σ H Q I h;refine wpAny_Call_method_late hbase hfew hline rfl (thn (ho pins s σ H _ I h) λv s1 ⟨x,H1,I1,r1,ty,q1⟩=>?_);obtain ⟨h1,h2⟩:=qdA I1 r1 ty;refine ⟨T,id,pa,slot,hty,h1,h2,?_⟩;have hA:=ha cpos pins s1 σ H1 _ I1 q1;rw [hs] at hA ⊢;refine Calls.callWith_builtin (by show (false||(backTo cpos (starEach es X.env)).any (·.1))=false;rw [hplain]<;>rfl) (Calls.evalArgs_plain ?_);exact thn hA λus s2 ⟨vs,H2,I2,r2,q2⟩=>hm pins s2 σ H2 x vs v us Q I2 r1 r2 q2
end
def MtM (X:Cx) (id:String) (r:V->List V->Hp->VK->Prop):Prop:=
 ∀ (pins:List (Addr×Obj)) (s:Shared) (σ:St) (H:Hp) (x:V) (xs:List V) (v:Value) (us:List Value) (Q:VK),Inv X pins σ H s->zT x v->zn xs us->r x xs H Q ->
  wpAny (model X.prog X.w) X.A (call (.builtin id) (v::us)) (EP X pins σ Q) X.xe s
def zn.one:∀ {x:V} {us:List Value},zn [x] us->∃ u,us=[u]/\zT x u
 |_,_,.cons r .nil=>⟨_,rfl,r⟩
def zn.reverse {xs:List V} {us:List Value} (h:zn xs us):zn xs.reverse us.reverse:=by
 induction h with
 |nil=>exact .nil
 |cons r t ih=>rw [List.reverse_cons,List.reverse_cons];exact zn.append ih (.cons r .nil)
section
variable {X:Cx} {pins:List (Addr×Obj)} {σ:St} {H:Hp} {s:Shared} {l b:Addr} {xs ys zs:List V}
def Inv.lset {its its':List Value} {n:Nat} {f:Array Value->Array Value} {t':Nat} (I:Inv X pins σ H s) (hH:H l=some (.lst xs))
  (e:s.heap.get? l=some { cls:=.type "list",data:=.seq its.toArray n }) (hf:f its.toArray=its'.toArray) (hv:zn ys its') (hz:ys.length<=sizeLine) :
  Inv X pins σ (upd H l (.lst ys)) { s with heap:=s.heap.update l (Obj.mapSeq f),toks:=t' }:=by
 have q:=PySem.IsL.update e f;rw [hf] at q;refine I.write (x:=l) (e:=l) (by rw [hH];exact trivial) (.inl rfl) (λb' u hb hu=>(Heap.get?_update_other s.heap (Obj.mapSeq f) (Ne.symm hb)).trans hu) ⟨_,q⟩ ?_;exact ⟨hz,its',_,hv,q⟩
def Inv.lnew {its:List Value} {t':Nat} (I:Inv X pins σ H s) (hv:zn ys its) (hz:ys.length<=sizeLine) :
  Inv X pins σ (upd H s.heap.objs.size (.lst ys)) { s with heap:=s.heap.push { cls:=.type "list",data:=.seq its.toArray },toks:=t' }:=
 I.laid (λ_ _ q=>Heap.get?_push_of_some _ q) (Nat.le_refl _) ⟨hz,its,0,hv,Heap.get?_push_size _ rfl⟩
def Inv.fresh (I:Inv X pins σ H s):H s.heap.objs.size=none:=I.hok.fresh (Nat.le_refl _)
def Inv.lstM (I:Inv X pins σ H s) (hH:H l=some (.lst xs)):xs.length<=sizeLine/\∃ (its:List Value) (n:Nat),zn xs its/\xs.length=its.length/\s.heap.get? l=some { cls:=.type "list",data:=.seq its.toArray n }:=by
 obtain ⟨z,its,n,r,e⟩:=I.hok l _ hH;exact ⟨z,its,n,r,r.length,e⟩
end
section
variable {X:Cx}
def CQ:V->List V->Hp->VK->Prop:=λx vs H Q=>∃ l xs y,x=.ref l/\vs=[y]/\H l=some (.lst xs)/\xs.length<sizeLine/\Q .non (upd H l (.lst (xs++[y])))
def ES:MtM X "list.append" CQ:=by
 intro pins s σ H x vs v us Q I rx rv h;obtain ⟨l,xs,y,rfl,rfl,hH,hz,q⟩:=h;cases rx;obtain ⟨u,rfl,ru⟩:=rv.one;obtain ⟨z,its,n,r,hl,e⟩:=I.lstM hH;refine call_meets F.slot_list_append ⟨_,e,rfl⟩ F.entry_list_append (F.args_list_append_2 _ _) (PySem.list_append l its.toArray n u (by rw [size_toArray];omega)) ⟨e,?_⟩;refine ⟨.non,_,I.lset (its':=its++[u]) hH e (by simp) (r.append (.cons ru .nil)) ?_,rfl,q⟩;rw [length_append,List.length_singleton];omega
def qgA:R2:=λx y H Q=>∃ l b xs zs,x=.ref l/\y=.ref b/\H l=some (.lst xs)/\H b=some (.lst zs)/\xs.length+zs.length<=sizeLine/\∀ p,H p=none->Q (.ref p) (upd H p (.lst (xs++zs)))
def NH:OpR X (binaryOp .Add) qgA:=by
 intro pins s σ H x y v u Q I rx ry h;obtain ⟨l,b,xs,zs,rfl,rfl,hH,hB,hz,q⟩:=h;cases rx;cases ry;obtain ⟨z,its,n,r,hl,e⟩:=I.lstM hH;obtain ⟨z2,its2,n2,r2,hl2,e2⟩:=I.lstM hB;refine PySem.P.add_list e e2 ?_ (by rw [size_toArray,size_toArray];omega);have ea:its.toArray++its2.toArray=(its++its2).toArray:=by simp
 rw [ea];exact ⟨.ref _,_,I.lnew (t':=s.toks) (r.append r2) (by rw [length_append];omega),rfl,q _ I.fresh⟩
end
section
variable {prog:Program} {w:World} {A:Around} {E:Value->Shared->Prop} {s:Shared}
end
section
variable {X:Cx}
end
end L2
namespace Att
open PySem PySem.W PySem.Calls PyProof.Rows
def YO {P:Params} {h:Heap}:∀ (ns:List Int) (vs:List Value),WellAll P h vs (ns.map WData.int)->IntsAre vs ns:=by
 intro ns;induction ns with
 |nil=>
  intro vs w;rw [List.map_nil] at w;cases w;exact .nil
 |cons n ns ih=>
  intro vs w;rw [map_cons] at w;cases w with
  |cons a b=>
   cases a;exact .cons _ _ (ih _ b)
def S0 {l:OpenLaw} {n:Nat} (hn:l.most=some n) {P:Params} {h:Heap} {args:List WData} {vals:List Value}
  (hpre:l.row.toRowW.claim.pre args=true) (hwl:WellAll P h vals args) :
  ∃ a vs ns,vals=[Value.ref a]/\args=[WData.list (ns.map WData.int)]/\h.get? a=some { cls:=.type "list",data:=.seq vs.toArray }/\IntsAre vs ns/\ns.length<=n:=by
 have hsh:WShape.hasAll [] args [.list .int]=true:=(pre_splitW hpre).1;have hc:l.pre.holds [] { args:=args }=true:=(pre_splitW hpre).2;obtain ⟨d,r,rfl,h1,h2⟩:=hasAllW_cons hsh;obtain rfl:=hasAllW_nil h2;obtain ⟨xs,rfl,h3⟩:=hasW_list h1;obtain ⟨ns,rfl⟩:=items_int h3;have hlen:ns.length<=n:=by
  unfold OpenLaw.pre at hc;have h4:(WTm.not (.lt (.lit (.int (n:Int))) (.len (.arg 0)))).holds [] { args:=[.list (ns.map .int)] }=true:=by
   have h4:=(holds_andW hc).1;rw [hn] at h4;exact h4
  have h5:=condW_of h4 (w_not (w_lt w_lit (w_len_list (w_arg rfl))));rw [length_map] at h5;refine Nat.le_of_not_lt λq=>?_;have q':(n:Int)<((ns.length:Nat):Int):=by omega
  first
   | (rw [decide_eq_true q'] at h5;exact absurd h5 (by decide))
   | (simp at h5;omega)
 cases hwl with
 |cons w1 w2=>
  cases w2;cases w1 with
  |list ho hall=>exact ⟨_,_,ns,rfl,rfl,ho,YO ns _ hall,hlen⟩
def C7 (l:OpenLaw) (args:List WData):l.row.toRowW.claim.post args (.bool true) args=true:=
 postW_of (r:=l.row.toRowW) (X:=(true==true))
  (show WShape.has [] (.bool true) .bool=true by first|rfl|decide|simp [WShape.has,WShape.arms,WShape.armsAll])
  (show (WTm.eq .res (.lit (.bool true))).value [] { args:=args,res:=some (.bool true),after:=args }=some (.bool (true==true)) from w_eq_bool (w_res rfl) w_lit) rfl
def DY {l:OpenLaw} {n:Nat} {q:Program} {loose:List Str} {XP:(Str->Option Value)->Heap->Prop} {YP:World->Heap->Prop} {d:DefRec}
  (hn:l.most=some n) (hdf:d.params.defaults=[])
  (call:∀ (w:World) (s₀ s₁:Shared) (mg mb:Str->Option Value) (fa:Addr) (o:Obj) (pm cd doc:Value) (a:Addr) (vs:List Value) (ns:List Int),
   Ground q loose [] XP w s₀ mg mb s₁.heap->YP w s₁.heap ->
   s₁.heap.get? fa=some o->o.data=.func (docDef d.name d.params d.body d.scope pm cd doc)->s₁.heap.CodeRec cd d.name->mg d.name=some (.ref fa) ->
   s₁.heap.get? a=some { cls:=.type "list",data:=.seq vs.toArray }->IntsAre vs ns->ns.length<=n->s₁.gens=#[] ->
   codeAny (model l.prog w) callerA (.call (.ref fa) ⟨[.ref a],[]⟩) (λr s'=>r=.ok (.ret (.bool true))/\OldK s₁.heap s'.heap/\s'.os=s₁.os/\AllBare s'.gens) s₁) :
  WalkO q loose XP YP l.row.toRowW d [] (λf vs=>PySem.call f vs):=by
 intro w s₀ s₁ mg mb G Y fa o pm cd doc dV kV ho hd hcd hD hmg hg args vals as hpre hlay hrd hwl hlo;obtain rfl:dV=.none:=Dflts.none hD hdf;obtain rfl:kV=.none:=Dflts.noKw hD;obtain ⟨a,vs,ns,rfl,rfl,hobj,hints,hlen⟩:=S0 hn hpre hwl;refine enter_call (codeAny_mono (call w s₀ s₁ mg mb fa o pm cd doc a vs ns G Y ho (fd_plain hd) hcd hmg hobj hints hlen hg) λr s' hq=>?_);obtain ⟨rfl,h2,h3,h4⟩:=hq;exact ⟨.inl ⟨.bool true,.bool true,[],rfl,λ_=>rfl,.bool true,C7 l _,λ_=>⟨List.Pairwise.nil,λ_ hm=>(nomatch hm)⟩⟩,h2,h3,h4⟩
section
variable {prog:Program} {w:World} {A:Around} {E:Value->Shared->Prop} {s:Shared} {K:Frag}
end
end Att
namespace L2
open PySem PySem.Spec PyProof.Rows
def EB:∀ {vs:List Value} {ns:List Int},IntsAre vs ns->zn (ns.map V.int) vs
 |_,_,.nil=>.nil
 |_,_,.cons n t h=>.cons ⟨t,rfl⟩ (EB h)
def qeQ (H:Hp):Prop:=∀ b,H b=none\/∃ o xs,H b=some (.frz o (.lst xs))
def LW {P:Program} {w:World} {K:Frg} {mg mb:Str->Option Value} {CX:CXT} {k:Nat} {fa a:Addr} {fd:FuncData} {x:Str} {sp:Sp} {s₁:Shared} {vs:List Value} {ns:List Int}
  (KX:K.In s₁.heap) (hns:s₁.heap.Ns mainGlobals mg) (hb:s₁.heap.Ns builtinsNs mb) (hbb:∀ x:Str,x≠"__name__" -> mb x=bootBuiltins x) (hlim:s₁.heap.NoLimit) (hg:s₁.gens=#[])
  (ha:s₁.heap.get? a=some { cls:=.type "list",data:=.seq vs.toArray }) (hi:IntsAre vs ns) (hl:ns.length<=sizeLine) (hr:Room k callerA)
  (F:∀ base:Heap,K.In base->base.Ns mainGlobals mg->FnOk P w K mg base CX k fa fd [x] sp) (hbind:∀ (s:Shared) (u:Value),BindsTo s fd ⟨[u],[]⟩ [(x,u)])
  (hsp:∀ H:Hp,qeQ H->SqL K H a (ns.map V.int)->sp [.ref a] H (λv _=>v=.bl true) λ_ _ _=>False)
  (hCX:∀ H e s',CX [] H s₁ (λ_ _ _=>False) e s'->False) :
  codeAny (model P w) callerA (.call (.ref fa) ⟨[.ref a],[]⟩) (λr s'=>r=.ok (.ret (.bool true))/\OldK s₁.heap s'.heap/\s'.os=s₁.os/\AllBare s'.gens) s₁:=by
 have rv:=EB hi;have lenV:=hi.length
 -- from an abstract heap in which nothing but the script may be tracked
 have core:∀ H:Hp,qeQ H->SqL K H a (ns.map V.int)->HOk P w H s₁.heap->(∀ b,H b≠none->b=a)->(H a≠none->K.lookup a=none) ->
   codeAny (model P w) callerA (.call (.ref fa) ⟨[.ref a],[]⟩) (λr s'=>r=.ok (.ret (.bool true))/\OldK s₁.heap s'.heap/\s'.os=s₁.os/\AllBare s'.gens) s₁:=by
  intro H hO hS hok hA hK;have base_of:∀ {b:Addr} {o:Obj},s₁.heap.get? b=some o->H b=none->(LV s₁.heap H).get? b=some o:=λe n=>K4 e n;have noA:∀ {b:Addr} {o:Obj} {es:Array DictEntry} {ep:Nat},s₁.heap.get? b=some o->o.data=.dict es ep->H b=none:=λ{b o es ep} e d=>by
   cases q:H b with
   |none=>rfl
   |some u=>
    have e':b=a:=hA b (by rw [q];simp);subst e';rw [ha] at e;cases e;have d':Data.seq vs.toArray _=Data.dict es ep:=d;cases d'
  have nsK:∀ {b:Addr} {m:Str->Option Value},s₁.heap.Ns b m->(LV s₁.heap H).Ns b m:=λ{b m} ⟨o,es,ep,e,d,r⟩=>⟨o,es,ep,base_of e (noA e d),d,r⟩
  have hKb:K.In (LV s₁.heap H):=λb o e=>base_of (KX b o e) (by
   cases q:H b with
   |none=>rfl
   |some u=>
    have e':b=a:=hA b (by rw [q];simp);subst e';rw [hK (by rw [q];simp)] at e;cases e)
  have hM:Mod K mg (LV s₁.heap H):=⟨hKb,nsK hns,⟨mb,nsK hb,hbb⟩,let ⟨mc,h1,h2⟩:=hlim;⟨mc,nsK h1,h2⟩⟩
  have e0:Env0 P w K mg (LV s₁.heap H) callerA [] s₁ H:=⟨rfl,hM,λb o e=>qbp e,Nat.le_of_eq (C0 _ _),trivial,λb hb=>absurd (show b∈([]:List Addr) from hb) (by simp),hok,.of_eq hg⟩
  refine codeAny_mono ((F _ hKb (nsK hns)).run callerA [] s₁ H ⟨[.ref a],[]⟩ [.ref a] [.ref a] _ _ hr e0 (hbind s₁ (.ref a)) (.cons rfl .nil) (hsp H hO hS)) λr s' h=>?_;cases r with
  |error e=>exact (hCX H e s' h).elim
  |ok fl=>
   cases fl with
   |next=>exact False.elim h
   |brk=>exact False.elim h
   |cont=>exact False.elim h
   |ret u=>
    obtain ⟨v,H',os,bare,un,hok',r',q⟩:=h;have q':v=.bl true:=q;subst q';obtain rfl:u=Value.bool true:=r';refine ⟨rfl,OldK.of_keep λb o e=>?_,os,bare⟩;cases q:H b with
    |none=>exact un.keep b o e q (by intro z;exact absurd (show b∈([]:List Addr) from z) (by simp)) (by simp)
    |some u=>
     rcases hO b with z|⟨ob,xs,z⟩
     ·rw [q] at z;cases z
     ·have z2:=un.frzs b ob _ z;obtain ⟨e1,_⟩:=hok b _ z;obtain ⟨e2,_⟩:=hok' b _ z2;rw [e] at e1;cases e1;exact e2
 cases hk:K.lookup a with
 |some o=>
  -- the script is one of the module's own objects
  have e:=KX a o hk;rw [ha] at e;cases e;refine core (λ_=>none) (λ_=>.inl rfl) (.inr ⟨_,vs.toArray,_,hk,rfl,rfl,rfl,by rw [size_toArray,lenV];exact hl,by simpa using rv⟩) (λb u z=>by have z':(none:Option HO)=some u:=z;cases z') (λb z=>absurd rfl z) λz=>absurd rfl z
 |none=>
  refine core (λb=>if b=a then some (.frz { cls:=.type "list",data:=.seq vs.toArray } (.lst (ns.map V.int))) else none) (λb=>?_) (.inl (.inr ⟨{ cls:=.type "list",data:=.seq vs.toArray },if_pos rfl⟩)) (λb u z=>?_) (λb z=>?_) λ_=>hk
  ·by_cases hb:b=a
   ·exact .inr ⟨_,_,if_pos hb⟩
   ·exact .inl (if_neg hb)
  ·by_cases hb:b=a
   ·have z':=(if_pos hb).symm.trans z;cases z';subst hb;exact ⟨ha,by rw [length_map];exact hl,vs,_,rv,ha⟩
   ·have z':=(if_neg hb).symm.trans z;cases z'
  ·by_cases hb:b=a
   ·exact hb
   ·exact absurd (if_neg hb) z
def qaw {l:PySem.W.OpenLaw} {n k:Nat} {q:Program} {loose:List Str} {XP:(Str->Option Value)->Heap->Prop} {YP:World->Heap->Prop} {d:DefRec} {K:Params->PySem.W.Frag} {CX:World->CXT} {sp:World->Sp} {x:Str}
  (hn:l.most=some n) (hn2:n<=sizeLine) (hdf:d.params.defaults=[]) (hr:Room k callerA)
  (hY:∀ (w:World) (h:Heap),YP w h->(K w.params).In h)
  (F:∀ (w:World) (mg:Str->Option Value) (fa:Addr) (h:Heap),(K w.params).In h->h.Ns mainGlobals mg->mg d.name=some (.ref fa) ->
   ∃ fd:FuncData,(∀ (s:Shared) (u:Value),BindsTo s fd ⟨[u],[]⟩ [(x,u)]) /\
    ∀ base:Heap,(K w.params).In base->base.Ns mainGlobals mg->FnOk l.prog w (K w.params) mg base (CX w) k fa fd [x] (sp w))
  (hsp:∀ (w:World) (H:Hp) (a:Addr) (ns:List Int),ns.length<=n->qeQ H->SqL (K w.params) H a (ns.map V.int)->sp w [.ref a] H (λv _=>v=.bl true) λ_ _ _=>False)
  (hCX:∀ (w:World) (H:Hp) (s:Shared) (e:Value) (s':Shared),CX w [] H s (λ_ _ _=>False) e s'->False) :
  PySem.W.WalkO q loose XP YP l.row.toRowW d [] (λf vs=>PySem.call f vs):=by
 refine Att.DY hn hdf λw s₀ s₁ mg mb fa o pm cd doc a vs ns G Y ho hd hcd hmg hobj hints hlen hg=>?_;have KX:=hY w _ Y;obtain ⟨fd,hb,hF⟩:=F w mg fa _ KX G.T.g hmg;exact LW KX G.T.g G.T.b G.T.builtins G.T.nolimit hg hobj hints (Nat.le_trans hlen hn2) hr hF hb (λH hO hS=>hsp w H a ns hlen hO hS) λH e s'=>hCX w H s₁ e s'
def QG (s:Stmt):Arguments:=match s with
 |.FunctionDef _ a _ _ _ _ _ _ _ _=>a
 |_=>{ posonlyargs:=[],args:=[],vararg:=none,kwonlyargs:=[],kw_defaults:=[],kwarg:=none,defaults:=[] }
def zK (s:Stmt):List Stmt:=match s with
 |.FunctionDef _ _ b _ _ _ _ _ _ _=>b
 |_=>[]
def qj (s:Stmt):Scope:=match s with
 |.FunctionDef _ _ _ _ _ _ sc _ _ _=>sc
 |_=>{ kind:=.function,names:=[],isGenerator:=false,isCoroutine:=false }
abbrev CX0:CXT:=λ_ _ _ _ _ _=>False
abbrev E0:XK:=λ_ _ _=>False
def qe7 {X:Cx}:RA CX0 X E0:=λ_ _ _ _ _ _ _ h=>h.elim
structure Fun (K:Frg) (x qual:Str) (st:Stmt) (f:Addr) (fd:FuncData):Prop where
 ex:∃ (oc:Value) (od:Option Addr) (kV doc pm:Value) (an:Option Addr) (cdv ct:Value) (osl:Array (Option Value)),
  fd=PySem.W.fnOf x qual (QG st) (zK st) (qj st) .none kV doc pm an cdv ct/\K.lookup f=some ⟨oc,od,.func fd,osl⟩/\PySem.W.codeIn K cdv qual=true
 kp:PySem.W.keepIn K (.ref f)=true
section
variable {P:Program} {w:World} {K:Frg} {mg:Str->Option Value} {base:Heap}
def Fun.ok {x qual:Str} {st:Stmt} {f:Addr} {fd:FuncData} {N ps:List Str} {k:Nat} {sp:Sp} (F:Fun K x qual st f fd) (S:FnScope N ps (qj st)) (len:∀ vs H Q E,sp vs H Q E->vs.length=ps.length)
  (hbody:∀ (cdv:Value) (A:Around) (outer:List Env) (s:Shared) (H:Hp) (vs:List V) (Q:VK) (E:XK),Room k (A.deeper (envOfC qual (qj st) s.heap.objs.size f cdv))->sp vs H Q E ->
   ∃ t,PSs (T7 CX0 P w K mg base N qual (qj st) f cdv A outer s H E).nox (zK st) t/\t { nx:=λ_ H'=>Q .non H',rt:=Q } (start N vs) H):FnOk P w K mg base CX0 (k+1) f fd ps sp:=by
 obtain ⟨oc,od,kV,doc,pm,an,cdv,ct,osl,rfl,lk,hcd⟩:=F.ex;refine qfo lk hcd S len λA outer s H vs Q E hr hsp=>?_;obtain ⟨t,h,q⟩:=hbody cdv A outer s H vs Q E hr hsp;exact ⟨t,h.nox,q⟩
def Fun.binds {x qual:Str} {st:Stmt} {f:Addr} {fd:FuncData} {ps:List Str} (F:Fun K x qual st f fd)
  (h:∀ (kV doc pm:Value) (an:Option Addr) (cdv ct:Value) (us:List Value),us.length=ps.length->bindArgs (PySem.W.fnOf x qual (QG st) (zK st) (qj st) .none kV doc pm an cdv ct) ⟨us,[]⟩=pure (ps.zip us)):zW K fd ps []:=by
 obtain ⟨oc,od,kV,doc,pm,an,cdv,ct,osl,rfl,lk,hcd⟩:=F.ex;exact .all (h kV doc pm an cdv ct)
def qds {x qual:Str} {st:Stmt} {f:Addr} {oc:Value} {od an:Option Addr} {osl:Array (Option Value)} {kV doc pm cdv ct:Value} (l:K.lookup f=some ⟨oc,od,.func (PySem.W.fnOf x qual (QG st) (zK st) (qj st) .none kV doc pm an cdv ct),osl⟩)
  (c:PySem.W.codeIn K cdv qual=true) (k:PySem.W.keepIn K (.ref f)=true):Fun K x qual st f (PySem.W.fnOf x qual (QG st) (zK st) (qj st) .none kV doc pm an cdv ct):=⟨⟨oc,od,kV,doc,pm,an,cdv,ct,osl,rfl,l,c⟩,k⟩
end
section
variable {X:Cx}
end
def qhA {A B:Prop} (h:B):if false=true then A else B:=by
 rw [if_neg Bool.false_ne_true];exact h
def qhb {A B:Prop} (h:A):if true=true then A else B:=by
 rw [if_pos rfl];exact h
end L2
set_option maxHeartbeats 4000000
namespace L3
open PySem PySem.Spec PyProof.Rows L2
set_option genInjectivity true in
inductive T where
 |non|bl (b:Bool)|int (i:Int)|str (x:Str)|tup (xs:List T)|ref (a:Addr)
inductive O where
 |lst (xs:List T)
 |frz (xs:List T)
abbrev Gp:=Addr->Option O
def gu (G:Gp) (a:Addr) (o:O):Gp:=λb=>if b=a then some o else G b
def qL {G:Gp} {a:Addr} {o:O}:gu G a o a=some o:=by unfold gu;rw [if_pos rfl]
def j7 {G:Gp} {a b:Addr} {o:O} (h:b≠a):gu G a o b=G b:=by unfold gu;rw [if_neg h]
mutual
inductive Rp (K:Frg) (H:Hp):T->V->Prop
 |non:Rp K H .non .non
 |bl (b:Bool):Rp K H (.bl b) (.bl b)
 |int (i:Int):Rp K H (.int i) (.int i)
 |str (x:Str):Rp K H (.str x) (.str x)
 |ref (a:Addr):Rp K H (.ref a) (.ref a)
 |tup {xs:List T} {a:Addr} {vs:List V}:SqT K H a vs->Rps K H xs vs->Rp K H (.tup xs) (.ref a)
inductive Rps (K:Frg) (H:Hp):List T->List V->Prop
 |nil:Rps K H [] []
 |cons {x:T} {v:V} {xs:List T} {vs:List V}:Rp K H x v->Rps K H xs vs->Rps K H (x::xs) (v::vs)
end
def OR (K:Frg) (H:Hp) (a:Addr):O->Prop
 |.lst xs=>∃ vs,H a=some (.lst vs)/\Rps K H xs vs
 |.frz xs=>∃ vs,(∃ o,H a=some (.frz o (.lst vs)))/\Rps K H xs vs
def HR (K:Frg) (G:Gp) (H:Hp):Prop:=∀ a o,G a=some o->OR K H a o
def Kp (G:Gp) (H:Hp) (G':Gp) (H':Hp):Prop:=∀ a o,H a=some o->G a=none->H' a=some o/\G' a=none
def Kp.refl {G:Gp} {H:Hp}:Kp G H G H:=λ_ _ h g=>⟨h,g⟩
def Kp.trans {G G1 G2:Gp} {H H1 H2:Hp} (a:Kp G H G1 H1) (b:Kp G1 H1 G2 H2):Kp G H G2 H2:=λx o h g=>
 let ⟨h1,g1⟩:=a x o h g;b x o h1 g1
section
variable {K:Frg} {G G':Gp} {H H':Hp}
def HR.noneT (hr:HR K G H) {a:Addr} {vs:List V} (h:Rd H a (.tup vs)):G a=none:=by
 cases e:G a with
 |none=>rfl
 |some o=>
  have q:=hr a o e;cases o with
  |lst xs=>
   obtain ⟨us,q1,_⟩:=q;rcases h with h|⟨ob,h⟩<;>(rw [q1] at h;cases h)
  |frz xs=>
   obtain ⟨us,⟨o1,q1⟩,_⟩:=q;rcases h with h|⟨ob,h⟩<;>(rw [q1] at h;cases h)
def UC (hr:HR K G H) (k:Kp G H G' H') {a:Addr} {vs:List V} (h:SqT K H a vs):SqT K H' a vs:=by
 rcases h with h|h
 ·have g:=hr.noneT h;rcases h with h|⟨o,h⟩
  ·exact .inl (.inl (k a _ h g).1)
  ·exact .inl (.inr ⟨o,(k a _ h g).1⟩)
 ·exact .inr h
mutual
def Rp.keep (hr:HR K G H) (k:Kp G H G' H'):∀ {x:T} {v:V},Rp K H x v->Rp K H' x v
 |_,_,.non=>.non
 |_,_,.bl b=>.bl b
 |_,_,.int i=>.int i
 |_,_,.str x=>.str x
 |_,_,.ref a=>.ref a
 |_,_,.tup h hs=>.tup (UC hr k h) (Rps.keep hr k hs)
def Rps.keep (hr:HR K G H) (k:Kp G H G' H'):∀ {x:List T} {v:List V},Rps K H x v->Rps K H' x v
 |_,_,.nil=>.nil
 |_,_,.cons a b=>.cons (Rp.keep hr k a) (Rps.keep hr k b)
end
def Rps.length:∀ {xs:List T} {vs:List V},Rps K H xs vs->xs.length=vs.length
 |_,_,.nil=>rfl
 |_,_,.cons _ b=>by simp [Rps.length b]
def Rps.get:∀ {xs:List T} {vs:List V} {i:Nat} {x:T},Rps K H xs vs->xs[i]?=some x->∃ v,vs[i]?=some v/\Rp K H x v
 |_,_,_,_,.nil,e=>by simp at e
 |_,_,0,_,.cons r _,e=>by simp at e;subst e;exact ⟨_,rfl,r⟩
 |_,_,i+1,x,.cons _ t,e=>by
  obtain ⟨u,h1,h2⟩:=Rps.get (i:=i) (x:=x) t (by simpa using e);exact ⟨u,by simpa using h1,h2⟩
def Rps.append:∀ {xs ys:List T} {vs us:List V},Rps K H xs vs->Rps K H ys us->Rps K H (xs++ys) (vs++us)
 |_,_,_,_,.nil,s=>s
 |_,_,_,_,.cons r t,s=>.cons r (Rps.append t s)
def Rps.take:∀ {xs:List T} {vs:List V} (n:Nat),Rps K H xs vs->Rps K H (xs.take n) (vs.take n)
 |_,_,0,_=>.nil
 |_,_,_+1,.nil=>.nil
 |_,_,n+1,.cons r t=>.cons r (Rps.take n t)
def Rps.drop:∀ {xs:List T} {vs:List V} (n:Nat),Rps K H xs vs->Rps K H (xs.drop n) (vs.drop n)
 |_,_,0,r=>r
 |_,_,_+1,.nil=>.nil
 |_,_,n+1,.cons _ t=>Rps.drop n t
def Rps.set {x:T} {v:V} (r:Rp K H x v):∀ {xs:List T} {vs:List V} (i:Nat),Rps K H xs vs->Rps K H (xs.set i x) (vs.set i v)
 |_,_,_,.nil=>.nil
 |_,_,0,.cons _ t=>.cons r t
 |_,_,i+1,.cons q t=>.cons q (Rps.set r i t)
def Rps.ints:∀ (ns:List Int),Rps K H (ns.map T.int) (ns.map V.int)
 |[]=>.nil
 |n::r=>.cons (.int n) (Rps.ints r)
def Rps.reverse {xs:List T} {vs:List V} (h:Rps K H xs vs):Rps K H xs.reverse vs.reverse:=by
 induction xs generalizing vs with
 |nil=>cases h;exact .nil
 |cons x r ih=>
  cases h with
  |cons a b=>
   rw [List.reverse_cons,List.reverse_cons];exact (ih b).append (.cons a .nil)
def Kp.laid {p:Addr} {ho:HO} (hp:H p=none):Kp G H G (upd H p ho):=λa o h g=>⟨by rw [qB (qw h hp)];exact h,g⟩
def HR.free (hr:HR K G H) {p:Addr} (hp:H p=none):G p=none:=by
 cases e:G p with
 |none=>rfl
 |some o=>
  have q:=hr p o e;cases o with
  |lst xs=>obtain ⟨us,q1,_⟩:=q;rw [hp] at q1;cases q1
  |frz xs=>obtain ⟨us,⟨o1,q1⟩,_⟩:=q;rw [hp] at q1;cases q1
def OR.keep (hr:HR K G H) (k:Kp G H G' H') {a:Addr} {o:O} (h:OR K H a o) (e:∀ u,H a=some u->H' a=some u):OR K H' a o:=by
 cases o with
 |lst xs=>obtain ⟨vs,h1,h2⟩:=h;exact ⟨vs,e _ h1,h2.keep hr k⟩
 |frz xs=>obtain ⟨vs,⟨o,h1⟩,h2⟩:=h;exact ⟨vs,⟨o,e _ h1⟩,h2.keep hr k⟩
def HR.laid (hr:HR K G H) {p:Addr} {ho:HO} (hp:H p=none):HR K G (upd H p ho):=λa o e=>
 (hr a o e).keep hr (Kp.laid hp) λu h=>by rw [qB (qw h hp)];exact h
def Kp.newL {p:Addr} {ho:HO} {o':O} (hp:H p=none):Kp G H (gu G p o') (upd H p ho):=λa o h g=>
 ⟨by rw [qB (qw h hp)];exact h,by rw [j7 (qw h hp)];exact g⟩
def HR.newL (hr:HR K G H) {p:Addr} {xs:List T} {vs:List V} (hp:H p=none) (r:Rps K H xs vs):HR K (gu G p (.lst xs)) (upd H p (.lst vs)):=λa o e=>by
 by_cases ha:a=p
 ·subst ha;rw [qL] at e;cases e;exact ⟨vs,za,r.keep hr (Kp.laid hp)⟩
 ·rw [j7 ha] at e;exact (hr a o e).keep hr (Kp.laid hp) λu h=>by rw [qB ha];exact h
def Kp.wr {p:Addr} {ho:HO} {o o':O} (g:G p=some o):Kp G H (gu G p o') (upd H p ho):=λa ob h ga=>by
 have ha:a≠p:=by intro e;subst e;rw [g] at ga;cases ga
 exact ⟨by rw [qB ha];exact h,by rw [j7 ha];exact ga⟩
def HR.wr (hr:HR K G H) {p:Addr} {ys xs:List T} {vs:List V} (g:G p=some (.lst ys)) (r:Rps K H xs vs):HR K (gu G p (.lst xs)) (upd H p (.lst vs)):=λa o e=>by
 have k:Kp G H (gu G p (.lst xs)) (upd H p (.lst vs)):=Kp.wr g;by_cases ha:a=p
 ·subst ha;rw [qL] at e;cases e;exact ⟨vs,za,r.keep hr k⟩
 ·rw [j7 ha] at e;exact (hr a o e).keep hr k λu h=>by rw [qB ha];exact h
end
abbrev St3:=List (Option T)
structure Rel (K:Frg) (τ:St3) (G:Gp) (σ:L2.St) (H:Hp):Prop where
 hp:HR K G H
 len:τ.length=σ.length
 st:∀ (i:Nat) (t:T),τ[i]?=some (some t)->∃ v,σ[i]?=some (some v)/\Rp K H t v
def Rel.next {K:Frg} {τ:St3} {G G':Gp} {σ:L2.St} {H H':Hp} (r:Rel K τ G σ H) (hr:HR K G' H') (k:Kp G H G' H'):Rel K τ G' σ H':=
 ⟨hr,r.len,λi t e=>let ⟨v,h1,h2⟩:=r.st i t e;⟨v,h1,h2.keep r.hp k⟩⟩
def Rel.set {K:Frg} {τ:St3} {G:Gp} {σ:L2.St} {H:Hp} {t:T} {v:V} (r:Rel K τ G σ H) (i:Nat) (h:Rp K H t v):Rel K (τ.set i (some t)) G (σ.set i (some v)) H:=by
 refine ⟨r.hp,by simp [r.len],λj u e=>?_⟩;by_cases hij:i=j
 ·subst hij;rw [List.getElem?_set_self'] at e;have hl:i<τ.length:=by
   cases q:τ[i]? with
   |none=>rw [q] at e;cases e
   |some z=>exact (List.getElem?_eq_some_iff.mp q).1
  rw [getElem?_eq_getElem hl] at e;have e':t=u:=by simpa using e
  subst e';exact ⟨v,by rw [List.getElem?_set_self (by rw [← r.len];exact hl)],h⟩
 ·rw [List.getElem?_set_ne hij] at e;obtain ⟨w,h1,h2⟩:=r.st j u e;exact ⟨w,by rw [List.getElem?_set_ne hij];exact h1,h2⟩
abbrev Q3:=T->Gp->Prop
abbrev TE3:=St3->Gp->Q3->Prop
abbrev TT3:=St3->Gp->(Bool->Gp->Prop)->Prop
abbrev TA3:=St3->Gp->(List T->Gp->Prop)->Prop
def Aft (K:Frg) (G:Gp) (H:Hp) (q:Q3) (Q:VK):Prop:=∀ x G',q x G'->∀ v H',Rp K H' x v->HR K G' H'->Kp G H G' H'->Q v H'
def qeN (K:Frg) (G:Gp) (H:Hp) (q:Bool->Gp->Prop) (Q:Bool->Hp->Prop):Prop:=∀ x G',q x G'->∀ H',HR K G' H'->Kp G H G' H'->Q x H'
def qhC (K:Frg) (G:Gp) (H:Hp) (q:List T->Gp->Prop) (Q:List V->Hp->Prop):Prop:=∀ x G',q x G'->∀ v H',Rps K H' x v->HR K G' H'->Kp G H G' H'->Q v H'
def lE (K:Frg) (t:TE3):TE:=λσ H Q=>∃ τ G q,Rel K τ G σ H/\t τ G q/\Aft K G H q Q
def lT (K:Frg) (t:TT3):TT:=λσ H Q=>∃ τ G q,Rel K τ G σ H/\t τ G q/\qeN K G H q Q
def lA (K:Frg) (t:TA3):TA:=λσ H Q=>∃ τ G q,Rel K τ G σ H/\t τ G q/\qhC K G H q Q
abbrev E3 (X:Cx) (e:Expr) (t:TE3):Prop:=PE X e (lE X.K t)
abbrev C3 (X:Cx) (e:Expr) (t:TT3):Prop:=PT X e (lT X.K t)
abbrev W3 (X:Cx) (e:Expr) (t:TT3):Prop:=PW X e (lT X.K t)
abbrev A3 (X:Cx) (es:List Expr) (t:TA3):Prop:=PA X es (lA X.K t)
def Aft.back {K:Frg} {G G1:Gp} {H H1:Hp} {q:Q3} {Q:VK} (a:Aft K G H q Q) (k:Kp G H G1 H1):Aft K G1 H1 q Q:=λx G' h v H' r hr k'=>a x G' h v H' r hr (k.trans k')
def qeN.back {K:Frg} {G G1:Gp} {H H1:Hp} {q:Bool->Gp->Prop} {Q:Bool->Hp->Prop} (a:qeN K G H q Q) (k:Kp G H G1 H1):qeN K G1 H1 q Q:=λx G' h H' hr k'=>a x G' h H' hr (k.trans k')
def YZ {X:Cx} {e:Expr} {t t':TE} (h:PE X e t) (w:∀ σ H Q,t' σ H Q->t σ H Q):PE X e t':=λpins s σ H Q I q=>h pins s σ H Q I (w σ H Q q)
def qeO {X:Cx} {e:Expr} {t t':TT} (h:PT X e t) (w:∀ σ H Q,t' σ H Q->t σ H Q):PT X e t':=λpins s σ H Q I q=>h pins s σ H Q I (w σ H Q q)
def qht {X:Cx} {e:Expr} {t t':TT} (h:PW X e t) (w:∀ σ H Q,t' σ H Q->t σ H Q):PW X e t':=λwh pins s σ H Q I q=>h wh pins s σ H Q I (w σ H Q q)
def qgZ {X:Cx} {e:List Expr} {t t':TA} (h:PA X e t) (w:∀ σ H Q,t' σ H Q->t σ H Q):PA X e t':=λpos pins s σ H Q I q=>h pos pins s σ H Q I (w σ H Q q)
def zp {K:Frg} {ta:TE3} {τ:St3} {G:Gp} {σ:L2.St} {H:Hp} {q:Q3} {Q:VK} (r:Rel K τ G σ H) (h:ta τ G q)
  (n:∀ x G1,q x G1->∀ v H1,Rp K H1 x v->HR K G1 H1->Kp G H G1 H1->Rel K τ G1 σ H1->Q v H1):lE K ta σ H Q:=
 ⟨τ,G,q,r,h,λx G1 hq v H1 rx hr k=>n x G1 hq v H1 rx hr k (r.next hr k)⟩
def W2 {K:Frg} {ta:TT3} {τ:St3} {G:Gp} {σ:L2.St} {H:Hp} {q:Bool->Gp->Prop} {Q:Bool->Hp->Prop} (r:Rel K τ G σ H) (h:ta τ G q)
  (n:∀ x G1,q x G1->∀ H1,HR K G1 H1->Kp G H G1 H1->Rel K τ G1 σ H1->Q x H1):lT K ta σ H Q:=
 ⟨τ,G,q,r,h,λx G1 hq H1 hr k=>n x G1 hq H1 hr k (r.next hr k)⟩
def ZE {K:Frg} {ta:TA3} {τ:St3} {G:Gp} {σ:L2.St} {H:Hp} {q:List T->Gp->Prop} {Q:List V->Hp->Prop} (r:Rel K τ G σ H) (h:ta τ G q)
  (n:∀ x G1,q x G1->∀ v H1,Rps K H1 x v->HR K G1 H1->Kp G H G1 H1->Rel K τ G1 σ H1->Q v H1):lA K ta σ H Q:=
 ⟨τ,G,q,r,h,λx G1 hq v H1 rx hr k=>n x G1 hq v H1 rx hr k (r.next hr k)⟩
section
variable {X:Cx} {a b c:Expr} {ta tb tc:TE3} {pos:Pos}
def v3 (i:Nat):TE3:=λτ G q=>match τ[i]? with|some (some t)=>q t G|_=>False
def qgk (i:Nat) {x:Str} {pos:Pos} (hN:X.N[i]?=some x:=by rfl) (hv:Vis X.env.scope x:=by first|exact Or.inl rfl|exact Or.inr (Or.inl rfl)|exact Or.inr (Or.inr rfl)) (hd:(x==("__debug__" : Str))=false:=by decide)
  (hcd:(x==("__classdict__" : Str))=false:=by decide):E3 X (.Name x pos) (v3 i):=by
 refine YZ (qeh (i:=i) hN hv hd hcd) λσ H Q ⟨τ,G,q,r,h,af⟩=>?_;unfold v3 at h;split at h
 ·rename_i t e;obtain ⟨v,e2,rv⟩:=r.st i t e;exact ⟨v,e2,af t G h v H rv r.hp Kp.refl⟩
 ·exact h.elim
def c3 (t:T):TE3:=λ_ G q=>q t G
def e_c {t:T} {v:V} {e:Expr} (h:PE X e (tC v)) (hr:∀ H,Rp X.K H t v):E3 X e (c3 t):=YZ h λσ H Q ⟨τ,G,q,r,h,af⟩=>af t G h v H (hr H) r.hp Kp.refl
def qgv {i:Int} {j pos}:E3 X (.Constant (.int i) j pos) (c3 (.int i)):=e_c qb7 λ_=>.int i
def qhf {b:Bool} {j pos}:E3 X (.Constant (.bool b) j pos) (c3 (.bl b)):=e_c qf5 λ_=>.bl b
def qf6 {j pos}:E3 X (.Constant .none j pos) (c3 .non):=e_c qd6 λ_=>.non
def qfc {x:Str} {j pos}:E3 X (.Constant (.str x) j pos) (c3 (.str x)):=e_c qbU λ_=>.str x
def n3:TE3:=λ_ _ _=>False
abbrev R3:=T->T->Gp->Q3->Prop
def DK (K:Frg) (r3:R3) (r:R2):Prop:=∀ x y v u G H q Q,HR K G H->Rp K H x v->Rp K H y u->r3 x y G q->Aft K G H q Q->r v u H Q
def o3 (r:R3) (ta tb:TE3):TE3:=λτ G q=>ta τ G λx G1=>tb τ G1 λy G2=>r x y G2 q
def LP {K:Frg} {r3:R3} {r:R2} (hr:DK K r3 r) {σ:L2.St} {H:Hp} {Q:VK} (h:lE K (o3 r3 ta tb) σ H Q):tOp r (lE K ta) (lE K tb) σ H Q:=by
 obtain ⟨τ,G,q,rl,h,af⟩:=h;refine zp rl h λx G1 h1 v H1 rx hr1 k1 rl1=>zp rl1 h1 λy G2 h2 u H2 ry hr2 k2 rl2=>?_;exact hr x y v u G2 H2 q Q hr2 (rx.keep hr1 k2) ry h2 (af.back (k1.trans k2))
def qax {op:Operator} {r3:R3} {r:R2} (ho:OpR X (binaryOp op) r) (hr:DK X.K r3 r) (ha:E3 X a ta) (hb:E3 X b tb):E3 X (.BinOp a op b pos) (o3 r3 ta tb):=
 YZ (qfZ ho ha hb) λ_ _ _ h=>LP hr h
def qfz {op:CmpOp} {r3:R3} {r:R2} (ho:OpR X (compareOp op) r) (hr:DK X.K r3 r) (ha:E3 X a ta) (hb:E3 X b tb) (hm:behindInMarks op b=false):E3 X (.Compare a [op] [b] pos) (o3 r3 ta tb):=
 YZ (qaJ ho ha hb hm) λ_ _ _ h=>LP hr h
def tb3 (t:TE3):TT3:=λτ G q=>t τ G λx G'=>match x with|.bl k=>q k G'|_=>False
def qbf {K:Frg} {t:TE3} {t2:TE} (hw:∀ σ H Q,lE K t σ H Q->t2 σ H Q) {σ:L2.St} {H:Hp} {Q:Bool->Hp->Prop} (h:lT K (tb3 t) σ H Q):qeD t2 σ H Q:=by
 obtain ⟨τ,G,q,rl,h,af⟩:=h;refine hw _ _ _ (zp rl h λx G1 h1 v H1 rx hr1 k1 rl1=>?_);cases x with
 |bl k=>cases rx;exact ⟨k,rfl,af k G1 h1 H1 hr1 k1⟩
 |_=>exact h1.elim
def qfH {op:CmpOp} {r3:R3} {r:R2} (ho:OpR X (compareOp op) r) (hr:DK X.K r3 r) (ha:E3 X a ta) (hb:E3 X b tb) (hm:behindInMarks op b=false):C3 X (.Compare a [op] [b] pos) (tb3 (o3 r3 ta tb)):=
 qeO (C6 ho ha hb hm) λ_ _ _ h=>qbf (λ_ _ _=>LP hr) h
def qg4 (K:Frg) (r3:T->Gp->Q3->Prop) (r:V->Hp->VK->Prop):Prop:=∀ x v G H q Q,HR K G H->Rp K H x v->r3 x G q->Aft K G H q Q->r v H Q
def u3 (r:T->Gp->Q3->Prop) (ta:TE3):TE3:=λτ G q=>ta τ G λx G1=>r x G1 q
def qhu {op:UnaryOp} {r3:T->Gp->Q3->Prop} {r:V->Hp->VK->Prop} (ho:UnR X (unaryOp op) r) (hr:qg4 X.K r3 r) (ha:E3 X a ta):E3 X (.UnaryOp op a pos) (u3 r3 ta):=
 YZ (qfN ho ha) λ_ _ _ ⟨τ,G,q,rl,h,af⟩=>zp rl h λx G1 h1 v H1 rx hr1 k1 rl1=>hr x v G1 H1 q _ hr1 rx h1 (af.back k1)
def qbe:T->Gp->Q3->Prop:=λx G q=>match x with|.int i=>q (.int (-i)) G|_=>False
def qbj {K:Frg}:qg4 K qbe (rU λi=>.int (-i)):=λx v G H q Q hr rx h af=>by
 cases x with
 |int i=>cases rx;exact ⟨i,rfl,af _ G h _ H (.int _) hr Kp.refl⟩
 |_=>exact h.elim
def iI (f:Int->Int->Int):R3:=λx y G q=>match x,y with|.int i,.int j=>q (.int (f i j)) G|_,_=>False
def iC (C:Int->Int->Prop) (f:Int->Int->Int):R3:=λx y G q=>match x,y with|.int i,.int j=>C i j/\q (.int (f i j)) G|_,_=>False
def iB (f:Int->Int->Bool):R3:=λx y G q=>match x,y with|.int i,.int j=>q (.bl (f i j)) G|_,_=>False
def qdT {K:Frg} {f:Int->Int->Int}:DK K (iI f) (rI0 λi j=>.int (f i j)):=λx y v u G H q Q hr rx ry h af=>by
 cases x<;>try exact h.elim
 cases y<;>try exact h.elim
 cases rx;cases ry;exact ⟨_,_,rfl,rfl,af _ G h _ H (.int _) hr Kp.refl⟩
def WJ {K:Frg} {C:Int->Int->Prop} {f:Int->Int->Int}:DK K (iC C f) (rI C λi j=>.int (f i j)):=λx y v u G H q Q hr rx ry h af=>by
 cases x<;>try exact h.elim
 cases y<;>try exact h.elim
 cases rx;cases ry;exact ⟨_,_,rfl,rfl,h.1,af _ G h.2 _ H (.int _) hr Kp.refl⟩
def Q0 {K:Frg} {f:Int->Int->Bool}:DK K (iB f) (rI0 λi j=>.bl (f i j)):=λx y v u G H q Q hr rx ry h af=>by
 cases x<;>try exact h.elim
 cases y<;>try exact h.elim
 cases rx;cases ry;exact ⟨_,_,rfl,rfl,af _ G h _ H (.bl _) hr Kp.refl⟩
def qft (ha:E3 X a ta) (hb:E3 X b tb):E3 X (.BinOp a .Sub b pos) (o3 (iI (·-·)) ta tb):=qax qdm qdT ha hb
def qfJ (ha:E3 X a ta) (hb:E3 X b tb):E3 X (.BinOp a .Mult b pos) (o3 (iC EQ (·*·)) ta tb):=qax qey WJ ha hb
def qgd (ha:E3 X a ta) (hb:E3 X b tb):E3 X (.BinOp a .Mod b pos) (o3 (iC (λ_ j=>0<j) (·%·)) ta tb):=qax qdM WJ ha hb
def qf0 (ha:E3 X a ta) (hb:E3 X b tb):E3 X (.BinOp a .FloorDiv b pos) (o3 (iC qbE (·/·)) ta tb):=qax qaE WJ ha hb
def qfR (ha:E3 X a ta) (hb:E3 X b tb):E3 X (.BinOp a .Pow b pos) (o3 (iC KY (λi j=>i ^ j.toNat)) ta tb):=qax qez WJ ha hb
def qfY (ha:E3 X a ta):E3 X (.UnaryOp .USub a pos) (u3 qbe ta):=qhu qcW qbj ha
def UP:T->T->Option Bool
 |.non,.non=>some true|.non,.int _=>some false|.int _,.non=>some false|.non,.bl _=>some false|.bl _,.non=>some false|.non,.str _=>some false|.str _,.non=>some false
 |.int i,.int j=>some (decide (i=j))|.bl i,.bl j=>some (decide (i=j))|.str i,.str j=>some (decide (i=j))
 |.int _,.str _=>some false|.str _,.int _=>some false|.bl _,.str _=>some false|.str _,.bl _=>some false
 |_,_=>none
def XC {K:Frg} {H:Hp} {x y:T} {v u:V} {k:Bool} (rx:Rp K H x v) (ry:Rp K H y u) (h:UP x y=some k):qfG v u=true/\decide (v=u)=k:=by
 cases rx<;>cases ry<;>simp [UP] at h<;>subst h<;>refine ⟨rfl,?_⟩<;>simp
variable {tA tB:TT3} {je:List Expr}
def or3 (t u:TT3):TT3:=λτ G q=>t τ G λk G1=>if k=true then q true G1 else u τ G1 q
def EI (t:TT3):TT3:=λτ G q=>t τ G λk G1=>q (!k) G1
def qf2 (ha:C3 X a tA):W3 X (.BoolOp .Or [a] pos) tA:=qdO ha
def qhi (ha:C3 X a tA) (hb:W3 X (.BoolOp .Or (b::je) pos) tB):W3 X (.BoolOp .Or (a::b::je) pos) (or3 tA tB):=
 qht (qgc ha hb) λ_ _ _ ⟨τ,G,q,rl,h,af⟩=>W2 rl h λk G1 h1 H1 hr1 k1 rl1=>by
  cases k with
  |true=>rw [if_pos rfl] at h1 ⊢;exact af _ G1 h1 H1 hr1 k1
  |false=>rw [if_neg Bool.false_ne_true] at h1 ⊢;exact ⟨τ,G1,q,rl1,h1,af.back k1⟩
def qe5 (ha:C3 X a tA):C3 X (.UnaryOp .Not a pos) (EI tA):=
 qeO (qb8 ha) λ_ _ _ ⟨τ,G,q,rl,h,af⟩=>W2 rl h λk G1 h1 H1 hr1 k1 rl1=>af _ G1 h1 H1 hr1 k1
def qgl {e:Expr} {t:TE3} (h:E3 X e t) (he:∀ whole,isTrue e X.env whole=(do let v←whole;standAt e.pos;holding [v] (truthy v)):=by intro _;rfl):C3 X e (tb3 t):=
 qeO (qcJ h he) λ_ _ _ h=>qbf (λ_ _ _ h=>h) h
def jc (ta tb:TE3):TE3:=λτ G q=>ta τ G λx G1=>match x with|.bl k=>if k=true then tb τ G1 q else q (.bl false) G1|_=>False
def qcX (ta tb:TE3):TE3:=λτ G q=>ta τ G λx G1=>match x with|.bl k=>if k=true then q (.bl true) G1 else tb τ G1 q|_=>False
def L0 (ta:TE3):TE3:=λτ G q=>ta τ G λx G1=>match x with|.bl k=>q (.bl (!k)) G1|_=>False
def qfA {op} (h:E3 X a ta):E3 X (.BoolOp op [a] pos) ta:=qbI h
def qgs (ha:E3 X a ta) (hb:E3 X (.BoolOp .And (b::je) pos) tb):E3 X (.BoolOp .And (a::b::je) pos) (jc ta tb):=
 YZ (qcY ha hb) λ_ _ _ ⟨τ,G,q,rl,h,af⟩=>zp rl h λx G1 h1 v H1 rx hr1 k1 rl1=>by
  cases x with
  |bl k=>
   cases rx;refine ⟨k,rfl,?_⟩;cases k with
   |true=>rw [if_pos rfl];exact ⟨τ,G1,q,rl1,(show tb τ G1 q from by simpa using h1),af.back k1⟩
   |false=>rw [if_neg Bool.false_ne_true];exact af _ G1 (by simpa using h1) _ H1 (.bl false) hr1 k1
  |_=>exact h1.elim
def qhI (ha:E3 X a ta) (hb:E3 X (.BoolOp .Or (b::je) pos) tb):E3 X (.BoolOp .Or (a::b::je) pos) (qcX ta tb):=
 YZ (qfh ha hb) λ_ _ _ ⟨τ,G,q,rl,h,af⟩=>zp rl h λx G1 h1 v H1 rx hr1 k1 rl1=>by
  cases x with
  |bl k=>
   cases rx;refine ⟨k,rfl,?_⟩;cases k with
   |true=>rw [if_pos rfl];exact af _ G1 (by simpa using h1) _ H1 (.bl true) hr1 k1
   |false=>rw [if_neg Bool.false_ne_true];exact ⟨τ,G1,q,rl1,(show tb τ G1 q from by simpa using h1),af.back k1⟩
  |_=>exact h1.elim
def qfg (ha:E3 X a ta):E3 X (.UnaryOp .Not a pos) (L0 ta):=
 YZ (qbV ha) λ_ _ _ ⟨τ,G,q,rl,h,af⟩=>zp rl h λx G1 h1 v H1 rx hr1 k1 rl1=>by
  cases x with
  |bl k=>cases rx;exact ⟨k,rfl,af _ G1 h1 _ H1 (.bl _) hr1 k1⟩
  |_=>exact h1.elim
def if3 (t:TT3) (ta tb:TE3):TE3:=λτ G q=>t τ G λk G1=>if k=true then ta τ G1 q else tb τ G1 q
def qhj {c:Expr} (hc:C3 X c tA) (ha:E3 X a ta) (hb:E3 X b tb):E3 X (.IfExp c a b pos) (if3 tA ta tb):=
 YZ (LC hc ha hb) λ_ _ _ ⟨τ,G,q,rl,h,af⟩=>W2 rl h λk G1 h1 H1 hr1 k1 rl1=>by
  cases k with
  |true=>rw [if_pos rfl] at h1 ⊢;exact ⟨τ,G1,q,rl1,h1,af.back k1⟩
  |false=>rw [if_neg Bool.false_ne_true] at h1 ⊢;exact ⟨τ,G1,q,rl1,h1,af.back k1⟩
variable {e:Expr} {es:List Expr} {te:TE3} {t:TA3}
def qp:TA3:=λ_ G q=>q [] G
def qc (ta:TE3) (tr:TA3):TA3:=λτ G q=>ta τ G λx G1=>tr τ G1 λxs G2=>q (x::xs) G2
def qe0:A3 X [] qp:=qgZ M4 λ_ H _ ⟨τ,G,q,rl,h,af⟩=>af _ G h _ H .nil rl.hp Kp.refl
def qdz (ha:E3 X e te) (hr:A3 X es t) (hs:starEach (e::es) X.env=(false,eval e X.env)::starEach es X.env:=by rfl):A3 X (e::es) (qc te t):=
 qgZ (DW ha hr hs) λ_ _ _ ⟨τ,G,q,rl,h,af⟩=>zp rl h λx G1 h1 v H1 rx hr1 k1 rl1=>ZE rl1 h1 λxs G2 h2 vs H2 rs hr2 k2 rl2=>
  af _ G2 h2 _ H2 (.cons (rx.keep hr1 k2) rs) hr2 (k1.trans k2)
def j0 (t:TA3):TE3:=λτ G q=>t τ G λxs G1=>xs.length<=sizeLine/\q (.tup xs) G1
def VF (t:TA3):TE3:=λτ G q=>t τ G λxs G1=>xs.length<=sizeLine/\∀ p,G1 p=none->q (.ref p) (gu G1 p (.lst xs))
def qgr {x1} (h:A3 X es t):E3 X (.Tuple es x1 pos) (j0 t):=
 YZ (qcg h) λ_ _ _ ⟨τ,G,q,rl,h,af⟩=>ZE rl h λxs G1 h1 vs H1 rs hr1 k1 rl1=>⟨by rw [← rs.length];exact h1.1,λp hp=>
  af _ G1 h1.2 _ _ (.tup (SqT.of za) (rs.keep hr1 (Kp.laid hp))) (hr1.laid hp) (k1.trans (Kp.laid hp))⟩
def qfm (h:A3 X es t):E3 X (.List es pos) (VF t):=
 YZ (qbT h) λ_ _ _ ⟨τ,G,q,rl,h,af⟩=>ZE rl h λxs G1 h1 vs H1 rs hr1 k1 rl1=>⟨by rw [← rs.length];exact h1.1,λp hp=>
  af _ _ (h1.2 p (hr1.free hp)) _ _ (.ref p) (hr1.newL hp rs) (k1.trans (Kp.newL hp))⟩
def W8 (K:Frg) (r3:List T->Gp->Q3->Prop) (r:List V->Hp->VK->Prop):Prop:=∀ xs vs G H q Q,HR K G H->Rps K H xs vs->r3 xs G q->Aft K G H q Q->r vs H Q
def cb3 (r:List T->Gp->Q3->Prop) (t:TA3):TE3:=λτ G q=>t τ G λxs G1=>r xs G1 q
def qdl {K:Frg} {r3:List T->Gp->Q3->Prop} {r:List V->Hp->VK->Prop} (hr:W8 K r3 r) {σ:L2.St} {H:Hp} {Q:VK} (h:lE K (cb3 r3 t) σ H Q):tCB r (lA K t) σ H Q:=by
 obtain ⟨τ,G,q,rl,h,af⟩:=h;exact ZE rl h λxs G1 h1 vs H1 rs hr1 k1 rl1=>hr xs vs G1 H1 q Q hr1 rs h1 (af.back k1)
def qbv {x:Str} {p:Pos} {id:String} {r3:List T->Gp->Q3->Prop} {r:List V->Hp->VK->Prop} (hc:QB X (.builtin id) r) (hr:W8 X.K r3 r) (hg:Gl X x) (hm:X.mg x=none) (hv:bootBuiltins x=some (.builtin id)) (ha:A3 X (e::es) t) (hn:x≠"__name__" := by decide) (hdb:(x==("__debug__" : Str))=false:=by decide)
  (he:starEach (e::es) X.env=(false,eval e X.env)::starEach es X.env:=by rfl) (hpl:(backTo pos (starEach es X.env)).any (·.1)=false:=by rfl):E3 X (.Call (.Name x p) (e::es) [] pos) (cb3 r3 t):=
 YZ (WQ hc hg hm hv ha hn hdb he hpl) λ_ _ _ h=>qdl hr h
def K1 {x:Str} {p:Pos} {ty:String} {r3:List T->Gp->Q3->Prop} {r:List V->Hp->VK->Prop} (hc:QB X (.type ty) r) (hr:W8 X.K r3 r) (hg:Gl X x) (hm:X.mg x=none) (hv:bootBuiltins x=some (.type ty)) (ha:A3 X (e::es) t) (hn:x≠"__name__" := by decide) (hdb:(x==("__debug__" : Str))=false:=by decide)
  (he:starEach (e::es) X.env=(false,eval e X.env)::starEach es X.env:=by rfl) (hpl:(backTo pos (starEach es X.env)).any (·.1)=false:=by rfl):E3 X (.Call (.Name x p) (e::es) [] pos) (cb3 r3 t):=
 YZ (C8 hc hg hm hv ha hn hdb he hpl) λ_ _ _ h=>qdl hr h
end
def getL (G:Gp) (p:Addr):Option (List T):=match G p with|some (.lst xs)=>some xs|some (.frz xs)=>some xs|none=>none
section
variable {K:Frg} {G G':Gp} {H H':Hp}
def zA (hr:HR K G H) {p:Addr} {xs:List T} (h:getL G p=some xs):∃ vs,SqL K H p vs/\Rps K H xs vs:=by
 unfold getL at h;split at h
 ·rename_i ys e;cases h;obtain ⟨vs,h1,h2⟩:=hr p _ e;exact ⟨vs,SqL.of h1,h2⟩
 ·rename_i ys e;cases h;obtain ⟨vs,⟨o,h1⟩,h2⟩:=hr p _ e;exact ⟨vs,.inl (.inr ⟨o,h1⟩),h2⟩
 ·cases h
def HR.lst (hr:HR K G H) {p:Addr} {xs:List T} (h:G p=some (.lst xs)):∃ vs,H p=some (.lst vs)/\Rps K H xs vs:=hr p _ h
def Rps.atI {xs:List T} {vs:List V} {i:Int} {x:T} (r:Rps K H xs vs) (h:atI xs i=some x):∃ v,L2.atI vs i=some v/\Rp K H x v:=by
 unfold L2.atI at h ⊢;rw [← r.length];cases e:ixN xs.length i with
 |none=>rw [e] at h;cases h
 |some j=>
  rw [e] at h;exact r.get (by simpa using h)
end
def ix3:R3:=λx y G q=>match x,y with
 |.tup xs,.int i=>(match atI xs i with|some z=>q z G|none=>False)
 |.ref p,.int i=>(match getL G p with|some xs=>(match atI xs i with|some z=>q z G|none=>False)|none=>False)
 |_,_=>False
section
variable {X:Cx} {a b c e:Expr} {es:List Expr} {ta tb tc te:TE3} {t:TA3} {pos:Pos}
def qd1 {K:Frg}:DK K ix3 (rIx K):=λx y v u G H q Q hr rx ry h af=>by
 cases x<;>try exact h.elim
 case tup xs=>
  cases y<;>try exact h.elim
  case int i=>
   unfold ix3 at h;simp only at h;split at h
   ·rename_i z e;cases ry;cases rx with
    |tup hs rs=>
     obtain ⟨w,e2,rw'⟩:=rs.atI e;exact .inr (.inl ⟨_,_,i,w,rfl,rfl,hs,e2,af z G h w H rw' hr Kp.refl⟩)
   ·exact h.elim
 case ref p=>
  cases y<;>try exact h.elim
  case int i=>
   unfold ix3 at h;simp only at h;split at h
   ·rename_i xs e0;split at h
    ·rename_i z e;cases ry;cases rx;obtain ⟨vs,hs,rs⟩:=zA hr e0;obtain ⟨w,e2,rw'⟩:=rs.atI e;exact .inl ⟨p,vs,i,w,rfl,rfl,hs,e2,af z G h w H rw' hr Kp.refl⟩
    ·exact h.elim
   ·exact h.elim
def qhk (ha:E3 X a ta) (hb:E3 X b tb) (hs:DG b:=by intro _ _;rfl):E3 X (.Subscript a b pos) (o3 ix3 ta tb):=YZ (qfO qdo ha hb hs) λ_ _ _ h=>LP qd1 h
def JB {α:Type} (xs:List α) (lo hi:Option Int):List α:=(xs.drop (HT.sIx xs.length 0 lo)).take (HT.sIx xs.length xs.length hi-HT.sIx xs.length 0 lo)
def Rps.cut {K:Frg} {H:Hp} {xs:List T} {vs:List V} (r:Rps K H xs vs) (lo hi:Option Int):Rps K H (JB xs lo hi) (NO vs lo hi):=by
 unfold JB NO;rw [r.length];exact (r.drop _).take _
abbrev TO3:=St3->Gp->(Option Int->Gp->Prop)->Prop
def lO (K:Frg) (t:TO3):TO:=λσ H Q=>∃ τ G q,Rel K τ G σ H/\t τ G q/\∀ x G',q x G'->∀ H',HR K G' H'->Kp G H G' H'->Q x H'
abbrev P3 (X:Cx) (e:Option Expr) (t:TO3):Prop:=PO X e (lO X.K t)
def np3:TO3:=λ_ G q=>q none G
def sp3 (t:TE3):TO3:=λτ G q=>t τ G λx G1=>match x with|.int i=>q (some i) G1|_=>False
def qg0 {X:Cx} {e:Option Expr} {t t':TO} (h:PO X e t) (w:∀ σ H Q,t' σ H Q->t σ H Q):PO X e t':=λpins s σ H Q I q=>h pins s σ H Q I (w σ H Q q)
def qcF:P3 X none np3:=qg0 qaO λ_ H _ ⟨τ,G,q,rl,h,af⟩=>af none G h H rl.hp Kp.refl
def qbQ (h:E3 X e te):P3 X (some e) (sp3 te):=qg0 (qaN h) λ_ _ _ ⟨τ,G,q,rl,h,af⟩=>zp rl h λx G1 h1 v H1 rx hr1 k1 rl1=>by
 cases x<;>try exact h1.elim
 cases rx;exact ⟨_,rfl,af _ G1 h1 H1 hr1 k1⟩
def sl3:T->Option Int->Option Int->Gp->Q3->Prop:=λx lo hi G q=>match x with
 |.tup xs=>¬ (HT.sIx xs.length 0 lo=0/\HT.sIx xs.length xs.length hi=xs.length)/\q (.tup (JB xs lo hi)) G
 |.ref p=>(match getL G p with|some xs=>∀ a,G a=none->q (.ref a) (gu G a (.lst (JB xs lo hi)))|none=>False)
 |_=>False
def LM (te:TE3) (tl th:TO3):TE3:=λτ G q=>te τ G λx G1=>tl τ G1 λl G2=>th τ G2 λu G3=>sl3 x l u G3 q
def qaA {lo hi:Option Expr} {tl th:TO3} {p2:Pos} (he:E3 X e te) (hl:P3 X lo tl) (hu:P3 X hi th):E3 X (.Subscript e (.Slice lo hi none p2) pos) (LM te tl th):=
 YZ (WW (MD.or SL) he hl hu) λ_ _ _ ⟨τ,G,q,rl,h,af⟩=>zp rl h λx G1 h1 v H1 rx hr1 k1 rl1=>
  ⟨τ,G1,_,rl1,h1,λl G2 h2 H2 hr2 k2=>⟨τ,G2,_,rl1.next hr2 k2,h2,λu G3 h3 H3 hr3 k3=>by
   have kk:=(k1.trans k2).trans k3;have rx3:=(rx.keep hr1 k2).keep hr2 k3;cases x<;>try exact h3.elim
   case tup xs=>
    cases rx3 with
    |tup hs rs=>
     refine .inl ⟨_,_,rfl,hs,by rw [← rs.length];exact h3.1,λp hp=>?_⟩;exact af _ G3 h3.2 _ _ (.tup (SqT.of za) ((rs.cut _ _).keep hr3 (Kp.laid hp))) (hr3.laid hp) (kk.trans (Kp.laid hp))
   case ref p=>
    unfold sl3 at h3;simp only at h3;split at h3
    ·rename_i xs e0;cases rx3;obtain ⟨vs,hs,rs⟩:=zA hr3 e0;refine .inr ⟨p,vs,rfl,hs,λa ha=>?_⟩;exact af _ _ (h3 a (hr3.free ha)) _ _ (.ref a) (hr3.newL ha (rs.cut _ _)) (kk.trans (Kp.newL ha))
    ·exact h3.elim⟩⟩
def RZ {K:Frg} {H:Hp} {xs:List T} {vs:List V} (r:Rps K H xs vs):vs=[]↔xs=[]:=by
 cases r<;>simp
def j3:R3:=λx y G q=>match x,y with
 |.tup xs,.tup ys=>xs≠[]/\xs.length+ys.length<=sizeLine/\q (.tup (xs++ys)) G
 |.ref a,.ref b=>(match G a,G b with|some (.lst xs),some (.lst ys)=>xs.length+ys.length<=sizeLine/\∀ p,G p=none->q (.ref p) (gu G p (.lst (xs++ys)))|_,_=>False)
 |.int i,.int j=>q (.int (i+j)) G
 |_,_=>False
def V4 {K:Frg}:DK K j3 (λx y H Q=>(rI0 (λi j=>.int (i+j)) x y H Q\/qba K x y H Q)\/qgA x y H Q):=λx y v u G H q Q hr rx ry h af=>by
 cases x<;>try exact h.elim
 case int i=>
  cases y<;>try exact h.elim
  cases rx;cases ry;exact .inl (.inl ⟨_,_,rfl,rfl,af _ G h _ H (.int _) hr Kp.refl⟩)
 case tup xs=>
  cases y<;>try exact h.elim
  case tup ys=>
   obtain ⟨h1,h2,h3⟩:=h;cases rx with
   |tup hs rs=>
    cases ry with
    |tup hs' rs'=>
     refine .inl (.inr ⟨_,_,_,_,rfl,rfl,hs,hs',λz=>h1 ((RZ rs).mp z),by rw [← rs.length,← rs'.length];exact h2,λz=>?_,λz p hp=>?_⟩)
     ·have e:=(RZ rs').mp z;subst e;rw [List.append_nil] at h3;exact af _ G h3 _ H (.tup hs rs) hr Kp.refl
     ·exact af _ G h3 _ _ (.tup (SqT.of za) ((rs.append rs').keep hr (Kp.laid hp))) (hr.laid hp) (Kp.laid hp)
 case ref a=>
  cases y<;>try exact h.elim
  case ref b=>
   unfold j3 at h;simp only at h;split at h
   ·rename_i xs ys e1 e2;cases rx;cases ry;obtain ⟨vs,g1,r1⟩:=hr.lst e1;obtain ⟨us,g2,r2⟩:=hr.lst e2;refine .inr ⟨a,b,vs,us,rfl,rfl,g1,g2,by rw [← r1.length,← r2.length];exact h.1,λp hp=>?_⟩;exact af _ _ (h.2 p (hr.free hp)) _ _ (.ref p) (hr.newL hp (r1.append r2)) (Kp.newL hp)
   ·exact h.elim
def qbN (ha:E3 X a ta) (hb:E3 X b tb):E3 X (.BinOp a .Add b pos) (o3 j3 ta tb):=qax ((N7.or S9).or NH) V4 ha hb
def YT:List T->Gp->Q3->Prop:=λxs G q=>match xs with
 |[.tup ys]=>q (.int ys.length) G
 |[.str y]=>y.length<=sizeLine/\q (.int y.length) G
 |[.ref p]=>(match getL G p with|some ys=>q (.int ys.length) G|none=>False)
 |_=>False
def EY {K:Frg} {H:Hp} {x:T} {vs:List V} (r:Rps K H [x] vs):∃ v,vs=[v]/\Rp K H x v:=by
 cases r with
 |cons a b=>cases b;exact ⟨_,rfl,a⟩
def qgR {K:Frg} {H:Hp} {x y:T} {vs:List V} (r:Rps K H [x,y] vs):∃ v u,vs=[v,u]/\Rp K H x v/\Rp K H y u:=by
 cases r with
 |cons a b=>cases b with|cons c d=>cases d;exact ⟨_,_,rfl,a,c⟩
def zE {K:Frg}:W8 K YT (λxs H Q=>∃ x n,xs=[x]/\qgU K x H n/\Q (.int n) H):=λxs vs G H q Q hr rs h af=>by
 unfold YT at h;split at h
 ·obtain ⟨v,rfl,r⟩:=EY rs;cases r with
  |tup hs r2=>exact ⟨_,_,rfl,.inr ⟨_,hs,rfl⟩,by rw [← r2.length];exact af _ G h _ H (.int _) hr Kp.refl⟩
 ·obtain ⟨v,rfl,r⟩:=EY rs;cases r;exact ⟨_,_,rfl,⟨h.1,rfl⟩,af _ G h.2 _ H (.int _) hr Kp.refl⟩
 ·obtain ⟨v,rfl,r⟩:=EY rs;split at h
  ·rename_i ys e;cases r;obtain ⟨us,hs,r2⟩:=zA hr e;exact ⟨_,_,rfl,.inl ⟨_,hs,rfl⟩,by rw [← r2.length];exact af _ G h _ H (.int _) hr Kp.refl⟩
  ·exact h.elim
 ·exact h.elim
def qcU:List T->Gp->Q3->Prop:=λxs G q=>match xs with|[.int i]=>q (.int (if i<0 then -i else i)) G|_=>False
def TL {K:Frg}:W8 K qcU (λxs H Q=>∃ i,xs=[.int i]/\Q (.int (if i<0 then -i else i)) H):=λxs vs G H q Q hr rs h af=>by
 unfold qcU at h;split at h
 ·obtain ⟨v,rfl,r⟩:=EY rs;cases r;exact ⟨_,rfl,af _ G h _ H (.int _) hr Kp.refl⟩
 ·exact h.elim
def qc7:List T->Gp->Q3->Prop:=λxs G q=>match xs with|[.int i,.int j]=>q (.int (if j<i then j else i)) G|_=>False
def qa6 {K:Frg}:W8 K qc7 (λxs H Q=>∃ i j,xs=[.int i,.int j]/\Q (.int (if j<i then j else i)) H):=λxs vs G H q Q hr rs h af=>by
 unfold qc7 at h;split at h
 ·obtain ⟨v,u,rfl,r,r'⟩:=qgR rs;cases r;cases r';exact ⟨_,_,rfl,af _ G h _ H (.int _) hr Kp.refl⟩
 ·exact h.elim
def T9:List T->Gp->Q3->Prop:=λxs G q=>match xs with|[.int i]=>q (.int i) G|[.bl k]=>q (.int (if k then 1 else 0)) G|_=>False
def DC {K:Frg}:W8 K T9 (λxs H Q=>(∃ i,xs=[.int i]/\Q (.int i) H)\/∃ k,xs=[.bl k]/\Q (.int (if k then 1 else 0)) H):=λxs vs G H q Q hr rs h af=>by
 unfold T9 at h;split at h
 ·obtain ⟨v,rfl,r⟩:=EY rs;cases r;exact .inl ⟨_,rfl,af _ G h _ H (.int _) hr Kp.refl⟩
 ·obtain ⟨v,rfl,r⟩:=EY rs;cases r;exact .inr ⟨_,rfl,af _ G h _ H (.int _) hr Kp.refl⟩
 ·exact h.elim
def WD:List T->Gp->Q3->Prop:=λxs G q=>match xs with
 |[.tup ys]=>q (.tup ys) G
 |[.ref p]=>(match getL G p with|some ys=>q (.tup ys) G|none=>False)
 |_=>False
def R4 {K:Frg}:W8 K WD (λxs H Q=>∃ p ys,xs=[.ref p]/\((SqL K H p ys/\∀ l,H l=none->Q (.ref l) (upd H l (.tup ys)))\/(SqT K H p ys/\Q (.ref p) H))):=λxs vs G H q Q hr rs h af=>by
 unfold WD at h;split at h
 ·obtain ⟨v,rfl,r⟩:=EY rs;cases r with
  |tup hs r2=>exact ⟨_,_,rfl,.inr ⟨hs,af _ G h _ H (.tup hs r2) hr Kp.refl⟩⟩
 ·obtain ⟨v,rfl,r⟩:=EY rs;split at h
  ·rename_i ys e;cases r;obtain ⟨us,hs,r2⟩:=zA hr e;exact ⟨_,_,rfl,.inl ⟨hs,λl hl=>af _ G h _ _ (.tup (SqT.of za) (r2.keep hr (Kp.laid hl))) (hr.laid hl) (Kp.laid hl)⟩⟩
  ·exact h.elim
 ·exact h.elim
def D0:List T->Gp->Q3->Prop:=λxs G q=>match xs with
 |[.tup ys]=>∀ p,G p=none->q (.ref p) (gu G p (.lst ys))
 |[.ref p]=>(match getL G p with|some ys=>∀ p,G p=none->q (.ref p) (gu G p (.lst ys))|none=>False)
 |_=>False
def UF {K:Frg}:W8 K D0 (λxs H Q=>∃ p ys,xs=[.ref p]/\(SqL K H p ys\/SqT K H p ys)/\∀ l,H l=none->Q (.ref l) (upd H l (.lst ys))):=λxs vs G H q Q hr rs h af=>by
 unfold D0 at h;split at h
 ·obtain ⟨v,rfl,r⟩:=EY rs;cases r with
  |tup hs r2=>exact ⟨_,_,rfl,.inr hs,λl hl=>af _ _ (h l (hr.free hl)) _ _ (.ref l) (hr.newL hl r2) (Kp.newL hl)⟩
 ·obtain ⟨v,rfl,r⟩:=EY rs;split at h
  ·rename_i ys e;cases r;obtain ⟨us,hs,r2⟩:=zA hr e;exact ⟨_,_,rfl,.inl hs,λl hl=>af _ _ (h l (hr.free hl)) _ _ (.ref l) (hr.newL hl r2) (Kp.newL hl)⟩
  ·exact h.elim
 ·exact h.elim
def qbz:T->List T->Gp->Q3->Prop:=λx xs G q=>match x,xs with
 |.ref l,[y]=>(match G l with|some (.lst ys)=>ys.length<sizeLine/\q .non (gu G l (.lst (ys++[y])))|_=>False)
 |_,_=>False
def qg7 (K:Frg) (r3:T->List T->Gp->Q3->Prop) (r:V->List V->Hp->VK->Prop):Prop:=∀ x xs v vs G H q Q,HR K G H->Rp K H x v->Rps K H xs vs->r3 x xs G q->Aft K G H q Q->r v vs H Q
def qaP {K:Frg}:qg7 K qbz CQ:=λx xs v vs G H q Q hr rx rs h af=>by
 unfold qbz at h;split at h
 ·rename_i l y;split at h
  ·rename_i ys e1;cases rx;obtain ⟨u,rfl,r⟩:=EY rs;obtain ⟨vs,g1,r1⟩:=hr.lst e1;exact ⟨l,vs,u,rfl,rfl,g1,by rw [← r1.length];exact h.1,af _ _ h.2 _ _ .non (hr.wr e1 (r1.append (.cons r .nil))) (Kp.wr e1)⟩
  ·exact h.elim
 ·exact h.elim
def bm3 (r:T->List T->Gp->Q3->Prop) (to:TE3) (t:TA3):TE3:=λτ G q=>to τ G λx G1=>(match x with|.ref p=>(getL G1 p).isSome=true|_=>False)/\t τ G1 λxs G2=>r x xs G2 q
def qhG {o:Expr} {to:TE3} {name:Str} {apos cpos:Pos} {id:String} {r3:T->List T->Gp->Q3->Prop} {r:V->List V->Hp->VK->Prop} (slot:Slot "list" name id) (hty:typeOf (.builtin id)=pure (.type "method_descriptor")) (hm:MtR X id r) (hr:qg7 X.K r3 r) (ho:E3 X o to) (ha:A3 X (e::es) t)
  (hbase:attributeBase o name X.env (eval o X.env)=eval o X.env:=by rfl)
  (hfew:((backTo cpos (starEach (e::es) X.env)).all (λx=>!x.1)&&(backToKw cpos (keywordEach [] X.env)).all (λx=>x.1.isSome)
   && decide ((e::es).length+([]:List Keyword).length+(if ([]:List Keyword).isEmpty then 0 else 1)<30))=true:=by rfl)
  (hline:(apos.endLine==cpos.line)=true:=by rfl) (hs:starEach (e::es) X.env=(false,eval e X.env)::starEach es X.env:=by rfl) (hplain:(backTo cpos (starEach es X.env)).any (·.1)=false:=by rfl) :
  E3 X (.Call (.Attribute o name apos) (e::es) [] cpos) (bm3 r3 to t):=
 YZ (qfn PySem.F.plainAttrs_list slot hty hm ho ha hbase hfew hline hs hplain) λ_ _ _ ⟨τ,G,q,rl,h,af⟩=>zp rl h λx G1 h1 v H1 rx hr1 k1 rl1=>by
  obtain ⟨hp,h1⟩:=h1;cases x<;>try exact hp.elim
  case ref p=>
   cases rx;have hp':(getL G1 p).isSome=true:=hp;obtain ⟨ys,e⟩:=Option.isSome_iff_exists.mp hp';obtain ⟨us,hs,r2⟩:=zA hr1 e;exact ⟨.inl ⟨rfl,us,hs⟩,ZE rl1 h1 λxs G2 h2 vs H2 rs hr2 k2 rl2=>hr _ xs _ vs G2 H2 q _ hr2 (.ref p) rs h2 (af.back (k1.trans k2))⟩
def K2 {o:Expr} {to:TE3} {apos cpos:Pos} (ho:E3 X o to) (ha:A3 X [e] t)
  (hbase:attributeBase o "append" X.env (eval o X.env)=eval o X.env:=by rfl)
  (hfew:((backTo cpos (starEach [e] X.env)).all (λx=>!x.1)&&(backToKw cpos (keywordEach [] X.env)).all (λx=>x.1.isSome)
   && decide (([e]:List Expr).length+([]:List Keyword).length+(if ([]:List Keyword).isEmpty then 0 else 1)<30))=true:=by rfl)
  (hline:(apos.endLine==cpos.line)=true:=by rfl) (hs:starEach [e] X.env=(false,eval e X.env)::starEach [] X.env:=by rfl) (hplain:(backTo cpos (starEach [] X.env)).any (·.1)=false:=by rfl) :
  E3 X (.Call (.Attribute o "append" apos) [e] [] cpos) (bm3 qbz to t):=qhG PySem.F.slot_list_append PySem.F.type_list_append ES qaP ho ha hbase hfew hline hs hplain
end
def tyT (G:Gp):T->Option String
 |.non=>some "NoneType" |.bl _=>some "bool" |.int _=>some "int" |.str _=>some "str" |.tup _=>some "tuple"
 |.ref p=>if (getL G p).isSome then some "list" else none
def ja (t c:String):Bool:=t==c||(t == "bool" && c == "int")
def LN (K:Frg):∀ t∈["NoneType","bool","int","str","tuple","list"],∀ c∈["bool","int","str","tuple","list"],PySem.W.kitOne K (.type t) (.type c)=some (ja t c):=by
 intro t ht c hc;simp only [mem_cons,not_mem_nil,or_false] at ht hc;rcases ht with rfl|rfl|rfl|rfl|rfl|rfl<;>rcases hc with rfl|rfl|rfl|rfl|rfl<;>kernel_rfl
section
variable {X:Cx} {a b c e:Expr} {es:List Expr} {ta tb tc te:TE3} {t:TA3} {pos:Pos}
def TyS (K:Frg) (H:Hp) (x:V) (t:String):Prop:=match x with
 |.non=>t="NoneType" |.bl _=>t="bool" |.int _=>t="int" |.str _=>t="str"
 |.ref a=>(t="tuple"/\∃ vs,SqT K H a vs)\/(t="list"/\∃ vs,SqL K H a vs)
 |_=>False
def TyS.mem {K:Frg} {H:Hp} {x:V} {t:String} (h:TyS K H x t):t∈["NoneType","bool","int","str","tuple","list"]:=by
 cases x<;>simp [TyS] at h<;>first|(subst h;decide)|(rcases h with ⟨rfl,_⟩|⟨rfl,_⟩<;>decide)
def TyS.kitx {pins:List (Addr×Obj)} {σ:L2.St} {H:Hp} {s:Shared} {x:V} {u:Value} {t:String} (I:Inv X pins σ H s) (rx:zT x u) (h:TyS X.K H x t) :
  ∃ HH:Heap->Prop,PySem.W.KitX X.K u (.type t) HH/\HH s.heap/\u≠.builtin "__main__.__loader__#opaque" := by
 cases x with
 |non=>cases (show u=Value.none from rx);cases (show t=_ from h);exact ⟨_,PySem.W.kitx_none,True.intro,λz=>nomatch z⟩
 |bl y=>cases (show u=Value.bool y from rx);cases (show t=_ from h);exact ⟨_,PySem.W.kitx_bool,True.intro,λz=>nomatch z⟩
 |int i=>obtain ⟨tk,q⟩:=(show ∃ t,u=Value.int i t from rx);cases q;cases (show t=_ from h);exact ⟨_,PySem.W.kitx_int,True.intro,λz=>nomatch z⟩
 |str y=>obtain ⟨tk,q⟩:=(show ∃ t,u=Value.str y t from rx);cases q;cases (show t=_ from h);exact ⟨_,PySem.W.kitx_str,True.intro,λz=>nomatch z⟩
 |ref a=>
  cases (show u=Value.ref a from rx);rcases (show (t="tuple"/\∃ vs,SqT X.K H a vs)\/(t="list"/\∃ vs,SqL X.K H a vs) from h) with ⟨rfl,vs,hs⟩|⟨rfl,vs,hs⟩
  ·obtain ⟨its,_,p,_⟩:=I.tuple hs;obtain ⟨o,h1,h2,_⟩:=p;exact ⟨_,PySem.W.kitx_tuple,⟨o,h1,h2⟩,λz=>nomatch z⟩
  ·obtain ⟨its,_,p,_⟩:=I.list hs;obtain ⟨o,n,h1,h2,_⟩:=p;exact ⟨_,PySem.W.kitx_list,⟨o,h1,h2⟩,λz=>nomatch z⟩
 |_=>exact False.elim h
abbrev DI:List String:=["bool","int","str","tuple","list"]
def KW:QB X (.builtin "isinstance") (λxs H Q=>∃ x t c,xs=[x,.ty c]/\TyS X.K H x t/\c∈DI/\Q (.bl (ja t c)) H):=by
 intro pins s σ H xs us Q I r h;obtain ⟨x,t,c,rfl,ht,hc,q⟩:=h;obtain ⟨u,w,rfl,rx,rc⟩:=qeH r;cases (show w=Value.type c from rc);obtain ⟨HH,kx,hh,ne⟩:=ht.kitx I rx;exact PySem.W.kia_one kx I.kIn hh (LN X.K t ht.mem c hc) ne λtk=>⟨.bl _,H,I.tok tk,rfl,q⟩
def qem {K:Frg} {G:Gp} {H:Hp} (hr:HR K G H) {x:T} {v:V} {t:String} (r:Rp K H x v) (h:tyT G x=some t):TyS K H v t:=by
 cases r with
 |non=>cases h;rfl
 |bl _=>cases h;rfl
 |int _=>cases h;rfl
 |str _=>cases h;rfl
 |tup hs rs=>cases h;exact .inl ⟨rfl,_,hs⟩
 |ref a=>
  have h:(if (getL G a).isSome then some "list" else none)=some t:=h;split at h
  ·rename_i e;cases h;obtain ⟨ys,e⟩:=Option.isSome_iff_exists.mp e;obtain ⟨us,hs,_⟩:=zA hr e;exact .inr ⟨rfl,us,hs⟩
  ·cases h
def DT (f:String->Bool) (te:TE3):TE3:=λτ G q=>te τ G λx G1=>match tyT G1 x with|some t=>q (.bl (f t)) G1|none=>False
def qfy {tn:Str} {ty:String} {p p2:Pos} (he:E3 X e te) (hg:Gl X "isinstance") (hm:X.mg "isinstance" = none) (hg2:Gl X tn) (hm2:X.mg tn=none) (hv:bootBuiltins tn=some (.type ty)) (hmem:ty∈DI:=by decide) (hn:tn≠"__name__" := by decide) (hdb:(tn==("__debug__" : Str))=false:=by decide)
  (hs:starEach [e,.Name tn p2] X.env=(false,eval e X.env)::starEach [.Name tn p2] X.env:=by rfl) (hs2:starEach [.Name tn p2] X.env=(false,eval (.Name tn p2) X.env)::starEach [] X.env:=by rfl) (hpl:(backTo pos (starEach [.Name tn p2] X.env)).any (·.1)=false:=by rfl) :
  E3 X (.Call (.Name "isinstance" p) [e,.Name tn p2] [] pos) (DT (λt=>ja t ty) te):=
 YZ (WQ KW hg hm PyProof.Rows.boot_isinstance (DW he (DW (qbt (v:=.ty ty) hg2 hm2 hv rfl hn hdb) M4 hs2) hs) (by decide) (by decide) hs hpl)
  λ_ _ _ ⟨τ,G,q,rl,h,af⟩=>zp rl h λx G1 h1 v H1 rx hr1 k1 rl1=>by
   split at h1
   ·rename_i t e1;exact ⟨_,t,ty,rfl,qem hr1 rx e1,hmem,af _ G1 h1 _ H1 (.bl _) hr1 k1⟩
   ·exact h1.elim
structure Ends3 where
 nx:St3->Gp->Prop
 rt:Q3
 bk:St3->Gp->Prop:=λ_ _=>False
 ct:St3->Gp->Prop:=λ_ _=>False
abbrev TS3:=Ends3->St3->Gp->Prop
def L9 (K:Frg) (G:Gp) (H:Hp) (q:St3->Gp->Prop) (Q:L2.St->Hp->Prop):Prop:=∀ τ G',q τ G'->∀ σ H',Rel K τ G' σ H'->Kp G H G' H'->Q σ H'
structure AftD (K:Frg) (G:Gp) (H:Hp) (d:Ends3) (D:Ends):Prop where
 nx:L9 K G H d.nx D.nx
 rt:Aft K G H d.rt D.rt
 bk:L9 K G H d.bk D.bk
 ct:L9 K G H d.ct D.ct
def L9.back {K:Frg} {G G1:Gp} {H H1:Hp} {q:St3->Gp->Prop} {Q:L2.St->Hp->Prop} (a:L9 K G H q Q) (k:Kp G H G1 H1):L9 K G1 H1 q Q:=λx G' h v H' r k'=>a x G' h v H' r (k.trans k')
def AftD.back {K:Frg} {G G1:Gp} {H H1:Hp} {d:Ends3} {D:Ends} (a:AftD K G H d D) (k:Kp G H G1 H1):AftD K G1 H1 d D:=⟨a.nx.back k,a.rt.back k,a.bk.back k,a.ct.back k⟩
def lS (K:Frg) (t:TS3):TS:=λD σ H=>∃ τ G d,Rel K τ G σ H/\t d τ G/\AftD K G H d D
abbrev S3 (X:Cx) (st:Stmt) (t:TS3):Prop:=PS X st (lS X.K t)
abbrev B3 (X:Cx) (st:List Stmt) (t:TS3):Prop:=PSs X st (lS X.K t)
def qbg {X:Cx} {st:Stmt} {t t':TS} (h:PS X st t) (w:∀ D σ H,t' D σ H->t D σ H):PS X st t':=λpins s σ H D I q=>h pins s σ H D I (w D σ H q)
def qb0 {X:Cx} {st:List Stmt} {t t':TS} (h:PSs X st t) (w:∀ D σ H,t' D σ H->t D σ H):PSs X st t':=λpins s σ H D I q=>h pins s σ H D I (w D σ H q)
variable {st:Stmt} {je:List Stmt} {t1 t2:TS3} {tA:TT3}
def qV:TS3:=λd τ G=>d.nx τ G
def zi (t u:TS3):TS3:=λd τ G=>t { d with nx:=u d } τ G
def qff:B3 X [] qV:=qb0 qaV λ_ σ H ⟨τ,G,d,rl,h,af⟩=>af.nx τ G h σ H rl Kp.refl
def qes (h1:S3 X st t1) (h2:B3 X je t2):B3 X (st::je) (zi t1 t2):=qb0 (KU h1 h2) λD σ H ⟨τ,G,d,rl,h,af⟩=>
 ⟨τ,G,{ d with nx:=t2 d },rl,h,⟨λτ' G' h' σ' H' rl' k'=>⟨τ',G',d,rl',h',af.back k'⟩,af.rt,af.bk,af.ct⟩⟩
def qfM (h1:S3 X st t1):B3 X [st] t1:=qbd h1
def LK (te:TE3):TS3:=λd τ G=>te τ G λ_ G1=>d.nx τ G1
def qec (he:E3 X e te) (hs:swapsWith e none pos.line X.env=pure false:=by rfl):S3 X (.Expr e pos) (LK te):=qbg (qbs he hs) λ_ σ H ⟨τ,G,d,rl,h,af⟩=>
 zp rl h λx G1 h1 v H1 rx hr1 k1 rl1=>af.nx τ G1 h1 σ H1 rl1 k1
def zw (te:TE3):TS3:=λd τ G=>te τ G d.rt
def qfx (he:E3 X e te):S3 X (.Return (some e) pos) (zw te):=qbg (qdR he) λ_ σ H ⟨τ,G,d,rl,h,af⟩=>⟨τ,G,d.rt,rl,h,af.rt⟩
def jI (c:TT3) (t u:TS3):TS3:=λd τ G=>c τ G λk G1=>if k=true then t d τ G1 else u d τ G1
def qhs {c:Expr} {ba bb:List Stmt} (hc:C3 X c tA) (ha:B3 X ba t1) (hb:B3 X bb t2):S3 X (.If c ba bb pos) (jI tA t1 t2):=qbg (qgt hc ha hb) λ_ σ H ⟨τ,G,d,rl,h,af⟩=>
 W2 rl h λk G1 h1 H1 hr1 k1 rl1=>by
  cases k with
  |true=>rw [if_pos rfl] at h1 ⊢;exact ⟨τ,G1,d,rl1,h1,af.back k1⟩
  |false=>rw [if_neg Bool.false_ne_true] at h1 ⊢;exact ⟨τ,G1,d,rl1,h1,af.back k1⟩
abbrev TG3:=T->St3->Gp->(St3->Gp->Prop)->Prop
abbrev EW:=List T->St3->Gp->(St3->Gp->Prop)->Prop
def lG (K:Frg) (t:TG3):TG:=λv σ H Q=>∃ x τ G q,Rp K H x v/\Rel K τ G σ H/\t x τ G q/\L9 K G H q Q
def lGs (K:Frg) (t:EW):TGs:=λv σ H Q=>∃ x τ G q,Rps K H x v/\Rel K τ G σ H/\t x τ G q/\L9 K G H q Q
abbrev G3 (X:Cx) (e:Expr) (t:TG3):Prop:=PG X e (lG X.K t)
abbrev Gs3 (X:Cx) (es:List Expr) (t:EW):Prop:=PGs X es (lGs X.K t)
def qfe {X:Cx} {e:Expr} {t t':TG} (h:PG X e t) (w:∀ v σ H Q,t' v σ H Q->t v σ H Q):PG X e t':=λpins s σ H v u Q I r q=>h pins s σ H v u Q I r (w v σ H Q q)
def qcV {X:Cx} {e:List Expr} {t t':TGs} (h:PGs X e t) (w:∀ v σ H Q,t' v σ H Q->t v σ H Q):PGs X e t':=λpins s σ H v u Q I r q=>h pins s σ H v u Q I r (w v σ H Q q)
def gn3 (i:Nat):TG3:=λx τ G q=>q (τ.set i (some x)) G
def qdV {i:Nat} {x:Str} (hN:X.N.Nodup) (hi:X.N[i]?=some x:=by rfl) (hx:Loc X.env.scope x:=by first|exact Or.inl rfl|exact Or.inr rfl) (hf:X.fn x=true\/X.env.scope.names.lookup x=some .local:=by first|exact .inl rfl|exact .inr rfl):G3 X (.Name x pos) (gn3 i):=
 qfe (qbw hN hi hx hf) λv σ H Q ⟨x,τ,G,q,rx,rl,h,af⟩=>af _ G h _ H (rl.set i rx) Kp.refl
def K7:EW:=λxs τ G q=>match xs with|[]=>q τ G|_=>False
def UY (t:TG3) (u:EW):EW:=λxs τ G q=>match xs with|x::r=>t x τ G λτ' G'=>u r τ' G' q|[]=>False
def qfF:Gs3 X [] K7:=qcV qa5 λv σ H Q ⟨x,τ,G,q,rx,rl,h,af⟩=>by
 cases rx with
 |nil=>exact ⟨rfl,af _ G h _ H rl Kp.refl⟩
 |cons _ _=>exact h.elim
def qdw {tg:TG3} {tgs:EW} (h1:G3 X e tg) (h2:Gs3 X es tgs) (hs:(assignEach (e::es) X.env).map (·.2)=assign e X.env::(assignEach es X.env).map (·.2):=by rfl):Gs3 X (e::es) (UY tg tgs):=qcV (KL h1 h2 hs) λv σ H Q ⟨x,τ,G,q,rx,rl,h,af⟩=>by
 cases rx with
 |nil=>exact h.elim
 |cons r rs=>exact ⟨_,_,rfl,_,τ,G,_,r,rl,h,λτ' G' h' σ' H' rl' k'=>⟨_,τ',G',q,rs.keep rl.hp k',rl',h',af.back k'⟩⟩
def LA (n:Nat) (t:EW):TG3:=λx τ G q=>match x with|.tup xs=>xs.length=n/\t xs τ G q|_=>False
def qfV {k:Nat} {tgs:EW} {n:Nat} (hc:X.calm=true) (h:Gs3 X es tgs) (hn:(assignEach es X.env).length=n:=by rfl) (hst:(assignEach es X.env).findIdx? (·.1)=none:=by rfl):G3 X (.Tuple es k pos) (LA n tgs):=
 qfe (qdI hc h hn hst) λv σ H Q ⟨x,τ,G,q,rx,rl,h,af⟩=>by
  cases x<;>try exact h.elim
  case tup xs=>
   cases rx with
   |tup hs rs=>exact ⟨_,_,rfl,hs,by rw [← rs.length];exact h.1,_,τ,G,q,rs,rl,h.2,af⟩
def qaS:T->T->T->Gp->(Gp->Prop)->Prop:=λo i v G q=>match o,i with
 |.ref p,.int k=>(match G p with|some (.lst xs)=>(match ixN xs.length k with|some j=>q (gu G p (.lst (xs.set j v)))|none=>False)|_=>False)
 |_,_=>False
def V5 (to ti:TE3):TG3:=λx τ G q=>to τ G λo G1=>ti τ G1 λi G2=>qaS o i x G2 λG3=>q τ G3
def qgn {o i : Expr} {to ti : TE3} (ho : E3 X o to) (hi : E3 X i ti) (ha : ∀ v,assign (.Subscript o i pos) X.env v = (do
      let ov←holding [v] (eval o X.env)
      let iv←holding [v,ov] (eval i X.env)
      standAt pos
      holding [v,ov,iv] (setItem ov iv v)
      release [v,ov,iv] []):=by intro _;rfl):G3 X (.Subscript o i pos) (V5 to ti):=
  qfe (qbW ho hi KM ha) λv σ H Q ⟨x,τ,G,q,rx,rl,h,af⟩=>zp rl h λy G1 h1 u H1 ry hr1 k1 rl1=>zp rl1 h1 λz G2 h2 w H2 rz hr2 k2 rl2=>by
    have rx2:=(rx.keep rl.hp k1).keep hr1 k2;have ry2:=ry.keep hr1 k2;unfold qaS at h2;split at h2
    · rename_i p k;split at h2
      · rename_i xs e;split at h2
        · rename_i j ej;cases ry2;cases rz;obtain ⟨vs,g1,r1⟩:=hr2.lst e;have kk:Kp G2 H2 (gu G2 p (.lst (xs.set j x))) (upd H2 p (.lst (vs.set j v))):=Kp.wr e;exact ⟨p,vs,k,j,rfl,rfl,g1,by rw [← r1.length];exact ej,af τ _ h2 σ _ (rl2.next (hr2.wr e (r1.set rx2 j)) kk) ((k1.trans k2).trans kk)⟩
        · exact h2.elim
      · exact h2.elim
    · exact h2.elim
def jo (te:TE3) (g:TG3):TS3:=λd τ G=>te τ G λx G1=>g x τ G1 d.nx
def qfd {tg e:Expr} {g:TG3} (he:E3 X e te) (hg:G3 X tg g) (hs:swapsWithSole [tg] e pos.line X.env=pure false:=by rfl) (hw:swappedStores [tg] e X.env=pure none:=by rfl)
  (h1:(assignEach [tg] X.env).map (·.2)=[assign tg X.env]:=by rfl):S3 X (.Assign [tg] e pos) (jo te g):=qbg (qeu he hg hs hw h1) λ_ σ H ⟨τ,G,d,rl,h,af⟩=>
 zp rl h λx G1 h1 v H1 rx hr1 k1 rl1=>⟨x,τ,G1,d.nx,rx,rl1,h1,af.nx.back k1⟩
def qfw (i:Nat) {x:Str} {e:Expr} {pos':Pos} (hN:X.N.Nodup) (he:E3 X e te) (hi:X.N[i]?=some x:=by rfl) (hx:Loc X.env.scope x:=by first|exact Or.inl rfl|exact Or.inr rfl) (hs:swapsWith e (some (.Name x pos')) pos.line X.env=pure false:=by rfl) (hf:X.fn x=true\/X.env.scope.names.lookup x=some .local:=by first|exact .inl rfl|exact .inr rfl) :
  S3 X (.Assign [.Name x pos'] e pos) (jo te (gn3 i)):=qbg (qbP hN hi hx he hs hf) λ_ σ H ⟨τ,G,d,rl,h,af⟩=>
 zp rl h λx G1 h1 v H1 rx hr1 k1 rl1=>af.nx _ G1 h1 _ H1 (rl1.set i rx) k1
def CO (i j:Nat) (ta:TA3):TS3:=λd τ G=>ta τ G λxs G1=>match xs with|[x,y]=>d.nx ((τ.set i (some x)).set j (some y)) G1|_=>False
def qfl {i j:Nat} {x y:Str} {a b:Expr} {tt:TA3} {px py pt:Pos} {kt k2 pt2} (hc:X.calm=true) (hN:X.N.Nodup) (hi:X.N[i]?=some x) (hj:X.N[j]?=some y) (hij:i≠j)
  (hx:X.env.scope.names.lookup x=some .local) (hy:X.env.scope.names.lookup y=some .local) (ha:A3 X [a,b] tt)
  (hw:swappedStores [.Tuple [.Name x px,.Name y py] kt pt] (.Tuple [a,b] k2 pt2) X.env=pure (some [x,y]):=by rfl)
  (hs:swapsWithSole [.Tuple [.Name x px,.Name y py] kt pt] (.Tuple [a,b] k2 pt2) pos.line X.env=pure false:=by rfl) :
  S3 X (.Assign [.Tuple [.Name x px,.Name y py] kt pt] (.Tuple [a,b] k2 pt2) pos) (CO i j tt):=qbg (qcr hc hN hi hj hij hx hy ha hw hs) λ_ σ H ⟨τ,G,d,rl,h,af⟩=>
 ZE rl h λxs G1 h1 vs H1 rs hr1 k1 rl1=>by
  split at h1
  ·obtain ⟨v,u,rfl,r,r'⟩:=qgR rs;exact ⟨v,u,rfl,af.nx _ G1 h1 _ H1 ((rl1.set i r).set j r') k1⟩
  ·exact h1.elim
end
abbrev TI3:=St3->Gp->(List T->(Gp->Prop)->Gp->Prop)->Prop
def qdP (K:Frg) (J:It) (items:List T) (stay:Gp->Prop) (G0:Gp) (H0:Hp):Prop:=∀ G H,HR K G H->Kp G0 H0 G H->stay G ->
 (∀ i x,items[i]?=some x->J.go i H)/\(∀ i x v H',items[i]?=some x->J.yld i H v H'->Rp K H' x v/\HR K G H'/\Kp G H G H')/\J.stop items.length H
def lI (K:Frg) (wi:TI3):TI:=λσ H R=>∃ τ G r,Rel K τ G σ H/\wi τ G r/\∀ items stay G',r items stay G'->∀ J H',HR K G' H'->Kp G H G' H'->qdP K J items stay G' H'->R J H'
abbrev I3 (X:Cx) (tg iter:Expr) (wi:TI3):Prop:=PI X tg iter (lI X.K wi)
def qgb {X:Cx} {tg e:Expr} {t t':TI} (h:PI X tg e t) (w:∀ σ H R,t' σ H R->t σ H R):PI X tg e t':=λpins s σ H R I q=>h pins s σ H R I (w σ H R q)
section
variable {X:Cx} {a b c e l tg:Expr} {es:List Expr} {ta tb tc te:TE3} {t:TA3} {pos:Pos}
def qed {tl:TE} (hl:PE X l tl):PI X tg l (λσ H R=>tl σ H λx H1=>∃ a,x=.ref a/\(((∃ xs,SqL X.K H1 a xs)/\R (Itl X.K a) H1)\/((∃ xs,SqT X.K H1 a xs)/\R (Itt X.K a) H1))):=by
 intro pins s σ H R I h;refine thn (hl pins s σ H _ I h) λv s1 ⟨x,H1,I1,r1,q1⟩=>?_;obtain ⟨a,e,⟨⟨xs,hq⟩,q⟩|⟨⟨xs,hq⟩,q⟩⟩:=q1
 ·subst e;cases r1;obtain ⟨its,rv,p,hz⟩:=I1.list hq;refine wpAny_pyIter_list p.isList ?_;refine ⟨s1.heap.objs.size,[s1.heap.objs.size],_,_,H1,rfl,I1.kept (t':=s1.toks) λb o e=>Heap.get?_push_of_some _ e,TD a _,⟨_,Heap.get?_push_size _ rfl,rfl,rfl⟩,λb hb=>?_,q⟩;have e:b=s1.heap.objs.size:=by simpa using hb
  subst e;exact I1.fpOk (Nat.le_refl _) (I1.hok.fresh (Nat.le_refl _))
 ·subst e;cases r1;obtain ⟨its,rv,p,hz⟩:=I1.tuple hq;refine wpAny_pyIter_tuple (show s1.heap.IsTuple a its.toArray from p) ?_;refine ⟨s1.heap.objs.size,[s1.heap.objs.size],_,_,H1,rfl,I1.kept (t':=s1.toks) λb o e=>Heap.get?_push_of_some _ e,X0 a _,⟨_,Heap.get?_push_size _ rfl,rfl,rfl⟩,λb hb=>?_,q⟩;have e:b=s1.heap.objs.size:=by simpa using hb
  subst e;exact I1.fpOk (Nat.le_refl _) (I1.hok.fresh (Nat.le_refl _))
def U4 (tl:TE3):TI3:=λτ G r=>tl τ G λx G1=>match x with
 |.tup xs=>r xs (λ_=>True) G1
 |.ref p=>(match getL G1 p with|some xs=>r xs (λG=>getL G p=some xs) G1|none=>False)
 |_=>False
def qet {K:Frg} {p:Addr} {xs:List T} {G0:Gp} {H0:Hp}:qdP K (Itl K p) xs (λG=>getL G p=some xs) G0 H0:=by
 intro G H hr _ hs;obtain ⟨vs,sq,rs⟩:=zA hr hs;refine ⟨λi x hi=>?_,λi x v H' hi y=>?_,⟨vs,sq,by rw [rs.length];exact Nat.le_refl _⟩⟩
 ·obtain ⟨v,hv,_⟩:=rs.get hi;exact ⟨vs,v,sq,hv⟩
 ·obtain ⟨e,y⟩:=y;subst e;obtain ⟨w,hw,rw'⟩:=rs.get hi;have e2:=(y vs sq).symm.trans hw;cases e2;exact ⟨rw',hr,Kp.refl⟩
def qb3 {K:Frg} {p:Addr} {xs:List T} {vs:List V} {G0:Gp} {H0:Hp} (hr0:HR K G0 H0) (sq0:SqT K H0 p vs) (rs0:Rps K H0 xs vs):qdP K (Itt K p) xs (λ_=>True) G0 H0:=by
 intro G H hr k _;have sq:=UC hr0 k sq0;have rs:=rs0.keep hr0 k;refine ⟨λi x hi=>?_,λi x v H' hi y=>?_,⟨vs,sq,by rw [rs.length];exact Nat.le_refl _⟩⟩
 ·obtain ⟨v,hv,_⟩:=rs.get hi;exact ⟨vs,v,sq,hv⟩
 ·obtain ⟨e,y⟩:=y;subst e;obtain ⟨w,hw,rw'⟩:=rs.get hi;have e2:=(y vs sq).symm.trans hw;cases e2;exact ⟨rw',hr,Kp.refl⟩
def qfS (hl:E3 X l te):I3 X tg l (U4 te):=qgb (qed hl) λσ H R ⟨τ,G,r,rl,h,af⟩=>zp rl h λx G1 h1 v H1 rx hr1 k1 rl1=>by
 cases x<;>try exact h1.elim
 case tup xs=>
  cases rx with
  |tup hs rs=>exact ⟨_,rfl,.inr ⟨⟨_,hs⟩,af _ _ G1 h1 _ H1 hr1 k1 (qb3 hr1 hs rs)⟩⟩
 case ref p=>
  simp only at h1;split at h1
  ·rename_i xs e0;cases rx;obtain ⟨vs,hs,rs⟩:=zA hr1 e0;exact ⟨_,rfl,.inl ⟨⟨_,hs⟩,af _ _ G1 h1 _ H1 hr1 k1 qet⟩⟩
  ·exact h1.elim
def XZ (lo:Int) (n:Nat):List T:=(List.range n).map λ(i:Nat)=>T.int (lo+(i:Int))
def qdp {K:Frg} {lo:Int} {n:Nat} {G0:Gp} {H0:Hp}:qdP K (Itr lo n) (XZ lo n) (λ_=>True) G0 H0:=by
 intro G H hr k _;have hl:(XZ lo n).length=n:=by simp [XZ]
 refine ⟨λi x hi=>?_,λi x v H' hi y=>?_,(show n<=(XZ lo n).length by rw [hl];exact Nat.le_refl n)⟩
 ·have:=(List.getElem?_eq_some_iff.mp hi).1;rw [hl] at this;exact this
 ·obtain ⟨e,y⟩:=y;subst e;subst y;have h1:=(List.getElem?_eq_some_iff.mp hi).1;rw [hl] at h1;unfold XZ at hi;rw [getElem?_map,List.getElem?_range h1] at hi;have e:T.int (lo+(i:Int))=x:=by simpa using hi
  subst e;exact ⟨.int _,hr,Kp.refl⟩
def VC (ta:TA3):TI3:=λτ G r=>ta τ G λxs G1=>match xs with
 |[.int j]=>(-(2 ^ 62)<=j/\j<2 ^ 62)/\r (XZ 0 j.toNat) (λ_=>True) G1
 |[.int i,.int j]=>(-(2 ^ 62)<=i/\i<2 ^ 62/\-(2 ^ 62)<=j/\j<2 ^ 62)/\r (XZ i (j-i).toNat) (λ_=>True) G1
 |_=>False
def LD {p:Pos} (hg:Gl X "range") (hm:X.mg "range" = none) (ha:A3 X [a] t) (hs:starEach [a] X.env=[(false,eval a X.env)]:=by rfl) (h1:∀ τ G q,t τ G q->t τ G λxs G=>q xs G/\xs.length=1):I3 X tg (.Call (.Name "range" p) [a] [] pos) (VC t):=
 qgb (SF hg hm ha hs) λσ H R ⟨τ,G,r,rl,h,af⟩=>ZE rl (h1 _ _ _ h) λxs G1 h1 vs H1 rs hr1 k1 rl1=>by
  obtain ⟨h1,hl⟩:=h1;simp only at h1;split at h1
  ·obtain ⟨v,rfl,r1⟩:=EY rs;cases r1;exact ⟨_,rfl,h1.1.1,h1.1.2,af _ _ G1 h1.2 _ H1 hr1 k1 qdp⟩
  ·simp at hl
  ·exact h1.elim
def V1 (stay:Gp->Prop) (g:TG3) (tb:TS3) (d:Ends3):List T->St3->Gp->Prop
 |[],τ,G=>stay G/\d.nx τ G
 |x::r,τ,G=>stay G/\g x τ G λτ2 G2=>tb { d with nx:=V1 stay g tb d r,ct:=V1 stay g tb d r,bk:=d.nx } τ2 G2
def CM (wi:TI3) (g:TG3) (tb:TS3):TS3:=λd τ G=>wi τ G λitems stay G1=>V1 stay g tb d items τ G1
def qe2 {iter:Expr} {body:List Stmt} {wi:TI3} {g:TG3} {tb:TS3} (hp:PassesOwn (model X.prog X.w) X.A X.env X.xe) (hc:X.calm=true) (hi:I3 X tg iter wi) (hg:G3 X tg g) (hb:B3 X body tb)
  (hs:∀ x,foldedSetIterable iter X.env x=pure x:=by intro _;rfl):S3 X (.For tg iter body [] pos) (CM wi g tb):=
 qbg (qdQ hp hc hi hg hb hs) λD σ H ⟨τ,G,d,rl,h,af⟩=>by
  refine ⟨τ,G,_,rl,h,λitems stay G1 h1 J H1 hr1 k1 ok=>?_⟩;refine ⟨λi m σ' H'=>m=items.length-i/\i<=items.length/\∃ τ' G',Rel X.K τ' G' σ' H'/\Kp G1 H1 G' H'/\V1 stay g tb d (items.drop i) τ' G',⟨_,rfl,Nat.zero_le _,τ,G1,rl.next hr1 k1,Kp.refl,by simpa using h1⟩,?_⟩;rintro i m σ' H' ⟨rfl,hi,τ',G',rl',k',h'⟩;by_cases hlt:i<items.length
  ·rw [List.drop_eq_getElem_cons hlt] at h';obtain ⟨hst,h'⟩:=h';obtain ⟨go,yld,_⟩:=ok G' H' rl'.hp k' hst;have hx:items[i]?=some items[i]:=getElem?_eq_getElem hlt;refine .inr ⟨go i _ hx,λσ2 H2=>∃ τ2 G2,Rel X.K τ2 G2 σ2 H2/\Kp G1 H1 G2 H2/\V1 stay g tb d (items.drop (i+1)) τ2 G2,λσ2 H2 h2=>⟨_,by omega,rfl,hlt,h2⟩,λv H2 y=>?_⟩;obtain ⟨rv,hr2,k2⟩:=yld i _ v H2 hx y;have k3:Kp G1 H1 G' H2:=k'.trans k2;refine ⟨_,τ',G',_,rv,rl'.next hr2 k2,h',λτ3 G3 h3 σ3 H3 rl3 k4=>?_⟩;have k5:Kp G H G3 H3:=(k1.trans k3).trans k4;refine ⟨τ3,G3,_,rl3,h3,⟨λτ4 G4 h4 σ4 H4 rl4 k6=>⟨τ4,G4,rl4,(k3.trans k4).trans k6,h4⟩,af.rt.back k5,af.nx.back k5,λτ4 G4 h4 σ4 H4 rl4 k6=>⟨τ4,G4,rl4,(k3.trans k4).trans k6,h4⟩⟩⟩
  ·have e:i=items.length:=by omega
   subst e;rw [List.drop_length] at h';obtain ⟨_,_,stop⟩:=ok G' H' rl'.hp k' h'.1;exact .inl ⟨stop,af.nx τ' G' h'.2 σ' H' rl' (k1.trans k')⟩
def EJ {stay:Gp->Prop} {g:TG3} {tb:TS3} {d:Ends3} (items:List T) (Pv:Nat->St3->Gp->Prop) {τ:St3} {G:Gp} (h0:Pv 0 τ G) (hst:∀ i τ G,i<=items.length->Pv i τ G->stay G)
  (hs:∀ i x τ G (nx:St3->Gp->Prop),items[i]?=some x->Pv i τ G->(∀ τ G,Pv (i+1) τ G->nx τ G)->g x τ G λτ2 G2=>tb { d with nx:=nx,ct:=nx,bk:=d.nx } τ2 G2)
  (hd:∀ τ G,Pv items.length τ G->d.nx τ G):V1 stay g tb d items τ G:=by
 have key:∀ (r:List T) (i:Nat) τ G,items.drop i=r->i<=items.length->Pv i τ G->V1 stay g tb d r τ G:=by
  intro r;induction r with
  |nil=>
   intro i τ G e hi p;have:i=items.length:=by have:=congrArg List.length e;simp at this;omega
   subst this;exact ⟨hst _ τ G hi p,hd τ G p⟩
  |cons x r ih=>
   intro i τ G e hi p;have hl:i<items.length:=by
    apply Classical.byContradiction;intro z;rw [List.drop_eq_nil_of_le (by omega)] at e;cases e
   have e':=List.drop_eq_getElem_cons hl;rw [e] at e';injection e' with e1 e2;refine ⟨hst i τ G hi p,hs i x τ G _ (by rw [getElem?_eq_getElem hl,e1]) p λτ2 G2 p2=>ih (i+1) τ2 G2 e2.symm hl p2⟩
 exact key items 0 τ G (by simp) (Nat.zero_le _) h0
abbrev Sp3:=List T->Gp->Q3->Prop
def lSp (K:Frg) (sp:Sp3):Sp:=λvs H Q _=>∃ ts G q,HR K G H/\Rps K H ts vs/\sp ts G q/\Aft K G H q Q
def Fn3 (P:Program) (w:World) (K:Frg) (mg:Str->Option Value) (base:Heap) (k:Nat) (x:Str) (sp:Sp3):Prop:=
 ∃ f fd ps,FnOk P w K mg base CX0 k f fd ps (lSp K sp)/\zW K fd ps []/\PySem.W.keepIn K (.ref f)=true/\mg x=some (.ref f)
def Fn3.mono {P:Program} {w:World} {K:Frg} {mg:Str->Option Value} {base:Heap} {j k:Nat} {x:Str} {sp:Sp3} (F:Fn3 P w K mg base j x sp) (h:j<=k):Fn3 P w K mg base k x sp:=
 let ⟨f,fd,ps,a,b,c,d⟩:=F;⟨f,fd,ps,a.mono h,b,c,d⟩
def Fn3.imp {P:Program} {w:World} {K:Frg} {mg:Str->Option Value} {base:Heap} {k:Nat} {x:Str} {sp sp':Sp3} (F:Fn3 P w K mg base k x sp) (h:∀ ts G q,sp' ts G q->sp ts G q):Fn3 P w K mg base k x sp':=
 let ⟨f,fd,ps,a,b,c,d⟩:=F;⟨f,fd,ps,a.imp λvs H Q E ⟨ts,G,q,h1,h2,h3,h4⟩=>⟨ts,G,q,h1,h2,h _ _ _ h3,h4⟩,b,c,d⟩
def qbR {k:Nat} {x:Str} {p:Pos} {sp:Sp3} (F:Fn3 X.prog X.w X.K X.mg X.base k x sp) (hr:Room k X.A) (hg:Gl X x) (ha:A3 X (e::es) t) (hdb:(x==("__debug__" : Str))=false:=by decide)
  (he:starEach (e::es) X.env=(false,eval e X.env)::starEach es X.env:=by rfl) (hpl:(backTo pos (starEach es X.env)).any (·.1)=false:=by rfl):E3 X (.Call (.Name x p) (e::es) [] pos) (cb3 sp t):=by
 obtain ⟨f,fd,ps,F,b,kp,m⟩:=F;refine YZ (qbn F hr hg m kp b .nil qe7 ha hdb he hpl) λσ H Q ⟨τ,G,q,rl,h,af⟩=>ZE rl h λxs G1 h1 vs H1 rs hr1 k1 rl1=>?_;rw [List.append_nil];exact ⟨xs,G1,q,hr1,rs,h1,af.back k1⟩
def qx (N:List Str) (ts:List T):St3:=ts.map some++List.replicate (N.length-ts.length) none
def U6 {K:Frg} {N:List Str} {G:Gp} {H:Hp} {ts:List T} {vs:List V} (hr:HR K G H) (rs:Rps K H ts vs):Rel K (qx N ts) G (L2.start N vs) H:=by
 refine ⟨hr,by simp [qx,L2.start,rs.length],λi t e=>?_⟩;unfold qx at e;by_cases hi:i<ts.length
 ·rw [List.getElem?_append_left (by simpa using hi),getElem?_map] at e;cases q:ts[i]? with
  |none=>rw [q] at e;cases e
  |some z=>
   rw [q] at e;have e':z=t:=by simpa using e
   subst e';obtain ⟨v,hv,r⟩:=rs.get q;refine ⟨v,?_,r⟩;unfold L2.start;rw [List.getElem?_append_left (by rw [length_map,← rs.length];exact hi),getElem?_map,hv];rfl
 ·rw [List.getElem?_append_right (by simpa using hi),List.getElem?_replicate] at e;split at e<;>cases e
def qew {P:Program} {w:World} {K:Frg} {mg:Str->Option Value} {base:Heap} {x qual:Str} {st:Stmt} {f:Addr} {fd:FuncData} {N ps:List Str} {k:Nat} {sp:Sp3} {t3:TS3} (F:Fun K x qual st f fd) (S:FnScope N ps (qj st)) (bd:zW K fd ps []) (hm:mg x=some (.ref f))
  (body:∀ (cdv:Value) (A:Around) (outer:List Env) (s:Shared) (H:Hp) (E:XK),Room k (A.deeper (envOfC qual (qj st) s.heap.objs.size f cdv)) ->
   B3 (T7 CX0 P w K mg base N qual (qj st) f cdv A outer s H E).nox (zK st) t3)
  (read:∀ ts G q,sp ts G q->ts.length=ps.length/\t3 { nx:=λ_ G'=>q .non G',rt:=q } (qx N ts) G):Fn3 P w K mg base (k+1) x sp:=by
 refine ⟨f,fd,ps,F.ok S (λvs H Q E ⟨ts,G,q,h1,h2,h3,h4⟩=>by rw [← h2.length];exact (read ts G q h3).1) λcdv A outer s H vs Q E hr ⟨ts,G,q,h1,h2,h3,h4⟩=>?_,bd,F.kp,hm⟩;refine ⟨_,body cdv A outer s H E hr,qx N ts,G,_,U6 h1 h2,(read ts G q h3).2,⟨λτ' G' h' σ' H' rl' k'=>h4 _ G' h' _ H' .non rl'.hp k',h4,λ_ _ z=>z.elim,λ_ _ z=>z.elim⟩⟩
def qbC (xs:List T):Option Bool:=match xs with
 |[]=>some true
 |.bl k::r=>(match qbC r with|some j=>some (k&&j)|none=>none)
 |_=>none
def qgx (xs:List T):Option Bool:=match xs with
 |[]=>some false
 |.bl k::r=>(match qgx r with|some j=>some (k||j)|none=>none)
 |_=>none
def LU {P:Program} {w:World} {A:Around} {its:List Value} {ks:List Bool} (h:its=ks.map Value.bool):TruthOf P w A (λi v=>its.toArray[i]?=some v) (λi=>ks.getD i true):=by
 intro i v s Q E hp hq;subst h;have hp':ks[i]?.map Value.bool=some v:=by simpa using hp
 cases e:ks[i]? with
 |none=>rw [e] at hp';cases hp'
 |some k=>
  rw [e] at hp';cases hp';have:ks.getD i true=k:=by rw [getD_eq_getElem?_getD,e];rfl
  have hq:Q (ks.getD i true) s:=hq;rw [this] at hq;exact wpAny_truthy_bool hq
def VV:∀ {ks:List Bool} {us:List Value},zn (ks.map V.bl) us->us=ks.map Value.bool
 |[],_,r=>by cases r;rfl
 |k::ks,_,r=>by
  cases r with
  |cons a b=>rw [show _=Value.bool k from a,VV b];rfl
def SH (ks:List Bool):((List.range ks.length).all λi=>ks.getD i true)=ks.all id:=by
 induction ks with
 |nil=>rfl
 |cons k ks ih=>
  rw [length_cons,List.range_succ_eq_map,List.all_cons,List.all_map,List.all_cons];congr 1
def jy (hc:X.calm=true):QB X (.builtin "all") (λxs H Q=>∃ (p:Addr) (ks:List Bool),xs=[.ref p]/\SqL X.K H p (ks.map V.bl)/\Q (.bl (ks.all id)) H):=by
 intro pins s σ H xs us Q I r h;obtain ⟨p,ks,rfl,hq,q⟩:=h;obtain ⟨u,rfl,rp⟩:=YE r;cases (show u=Value.ref p from rp);obtain ⟨its,rv,pl,hz⟩:=I.list hq;have hb:=VV rv;have hlen:its.length=ks.length:=by rw [hb];simp
 have hp:p<s.heap.objs.size:=by obtain ⟨o,n,e,_⟩:=pl;exact Heap.lt_size e
 refine call_all_walk (wpAny_pyIter_list pl.isList ⟨s.heap.objs.size,_,_,_,_,_,λi=>ks.getD i true,rfl,Walks.list (A:=X.A.in1) (show X.A.in1.handled=none from I.ok.hd hc) s.heap.objs.size p (Nat.ne_of_lt hp) its.toArray,⟨⟨_,Heap.get?_push_size _ rfl,rfl,rfl⟩,?_⟩,LU hb,λh' tk hk=>?_⟩)
 ·obtain ⟨o,n,e,c,_,d⟩:=pl;exact ⟨o,Heap.get?_push_of_some _ e,c,n,d⟩
 ·refine ⟨.bl _,H,?_,rfl,by rw [size_toArray,hlen,SH];exact q⟩;exact I.kept (h':=h') (t':=tk) λb o e=>hk b o (by simp;exact Nat.ne_of_lt (Heap.lt_size e)) (Heap.get?_push_of_some _ e)
end
def VE (env:Env):List (Str×NameKind)->List (Str×Addr)->List (Str×Addr)
 |[],cs=>cs
 | (n,k)::r,cs=>if k=.free then VE env r ((n,(env.cells.lookup n).getD 0)::cs) else VE env r cs
def UJ {scope:Scope} {env:Env} (h:∀ y∈scope.names,y.2=.free->∃ c,env.cells.lookup y.1=some c):closureFor scope env=pure (VE env scope.names []):=by
 have key:∀ (l:List (Str×NameKind)) (cs:List (Str×Addr)),(∀ y∈l,y.2=.free->∃ c,env.cells.lookup y.1=some c) ->
   (forIn l cs λ(x:Str×NameKind) (r:List (Str×Addr))=>if (x.2==NameKind.free)=true then (do let a←cellOf env x.1;pure (ForInStep.yield ((x.1,a)::r))) else pure (ForInStep.yield r))=(pure (VE env l cs):Sem _):=by
  intro l;induction l with
  |nil=>intro cs _;rfl
  |cons y r ih=>
   intro cs hl;obtain ⟨n,k⟩:=y;rw [List.forIn_cons];by_cases hk:k=.free
   ·subst hk;obtain ⟨c,hc⟩:=hl (n,.free) List.mem_cons_self rfl;have e:cellOf env n=pure c:=by unfold cellOf;rw [show List.lookup n env.cells=some c from hc]
    simp only [beq_self_eq_true,if_true];rw [e,pure_bind,pure_bind];show forIn r ((n,c)::cs) _=_;rw [ih _ λz hz=>hl z (List.mem_cons_of_mem _ hz)];show _=(pure (if NameKind.free=NameKind.free then VE env r ((n,(env.cells.lookup n).getD 0)::cs) else VE env r cs):Sem _);rw [if_pos rfl,show List.lookup n env.cells=some c from hc];rfl
   ·have hb:(k==NameKind.free)=false:=by cases k<;>first|rfl|exact absurd rfl hk
    simp only [hb,Bool.false_eq_true,if_false];rw [pure_bind];show forIn r cs _=_;rw [ih _ λz hz=>hl z (List.mem_cons_of_mem _ hz)];show _=(pure (if k=NameKind.free then VE env r ((n,(env.cells.lookup n).getD 0)::cs) else VE env r cs):Sem _);rw [if_neg hk]
 have:=key scope.names [] h;unfold closureFor;refine Eq.trans ?_ this;exact bind_pure (m:=Sem) _
def Q6 {env:Env}:∀ (l:List (Str×NameKind)) (cs:List (Str×Addr)) (x:Str) (c:Addr),(∀ y∈l,y.2=.free->∃ c,env.cells.lookup y.1=some c) ->
  (∀ x c,cs.lookup x=some c->env.cells.lookup x=some c)->(VE env l cs).lookup x=some c->env.cells.lookup x=some c
 |[],_,_,_,_,h,e=>h _ _ e
 | (n,k)::r,cs,x,c,hl,h,e=>by
  unfold VE at e;split at e
  ·rename_i hk;refine Q6 r _ x c (λy hy=>hl y (List.mem_cons_of_mem _ hy)) (λx c e=>?_) e;rw [List.lookup_cons] at e;split at e
   ·rename_i hx;have hx':x=n:=by simpa using hx
    subst hx';obtain ⟨d,hd⟩:=hl (x,k) List.mem_cons_self hk;have hd:List.lookup x env.cells=some d:=hd;rw [hd] at e ⊢;exact e
   ·exact h _ _ e
  ·exact Q6 r cs x c (λy hy=>hl y (List.mem_cons_of_mem _ hy)) h e
def J1 {env:Env}:∀ (l:List (Str×NameKind)) (cs:List (Str×Addr)) (x:Str),((x,NameKind.free)∈l\/∃ c,cs.lookup x=some c)->∃ c,(VE env l cs).lookup x=some c
 |[],_,_,h=>by
  rcases h with h|h
  ·simp at h
  ·exact h
 | (n,k)::r,cs,x,h=>by
  unfold VE;have put:∀ d:Addr,(x=n\/∃ c,cs.lookup x=some c)->∃ c,((n,d)::cs).lookup x=some c:=λd z=>by
   rw [List.lookup_cons];cases hx:x==n with
   |true=>exact ⟨d,rfl⟩
   |false=>
    rcases z with z|z
    ·rw [z] at hx;simp at hx
    ·exact z
  split
  ·rename_i hk;refine J1 r _ x ?_;rcases h with h|h
   ·rcases mem_cons.mp h with e|e
    ·cases e;exact .inr (put _ (.inl rfl))
    ·exact .inl e
   ·exact .inr (put _ (.inr h))
  ·rename_i hk;refine J1 r _ x ?_;rcases h with h|h
   ·rcases mem_cons.mp h with e|e
    ·cases e;exact absurd rfl hk
    ·exact .inl e
   ·exact .inr h
def UN {env:Env}:∀ (l:List (Str×NameKind)) (cs:List (Str×Addr)) (x:Str) (c:Addr),(VE env l cs).lookup x=some c->(x,NameKind.free)∈l\/cs.lookup x=some c
 |[],_,_,_,e=>.inr e
 | (n,k)::r,cs,x,c,e=>by
  unfold VE at e;split at e
  ·rename_i hk;rcases UN r _ x c e with z|z
   ·exact .inl (List.mem_cons_of_mem _ z)
   ·rw [List.lookup_cons] at z;split at z
    ·rename_i hx;have hx':x=n:=by simpa using hx
     subst hx';subst hk;exact .inl List.mem_cons_self
    ·exact .inr z
  ·rcases UN r cs x c e with z|z
   ·exact .inl (List.mem_cons_of_mem _ z)
   ·exact .inr z
def Z6 {α:Type}:∀ (xs ys:List (Str×α)) (x:Str),(xs++ys).lookup x=(match xs.lookup x with|some c=>some c|none=>ys.lookup x)
 |[],ys,x=>rfl
 | (n,c)::xs,ys,x=>by
  rw [cons_append,List.lookup_cons,List.lookup_cons];cases x==n with
  |true=>rfl
  |false=>exact Z6 xs ys x
def zG:∀ (l:List (Str×NameKind)) {n:Nat} {acc:List (Str×Addr)},cellsFrom n l acc=cellsFrom n l []++acc
 |[],_,_=>rfl
 | (x,k)::r,n,acc=>by
  unfold cellsFrom;split
  ·rw [zG r (acc:=(x,n)::acc),zG r (acc:=[(x,n)]),List.append_assoc];rfl
  ·exact zG r
def jU:∀ (l:List (Str×NameKind)) (n:Nat) (acc:List (Str×Addr)) (x:Str) (c:Addr),(x,c)∈cellsFrom n l acc->(x,NameKind.cell)∈l\/(x,c)∈acc
 |[],_,_,_,_,h=>.inr h
 | (y,k)::r,n,acc,x,c,h=>by
  unfold cellsFrom at h;split at h
  ·rename_i hk;have hk:k=.cell:=by simpa using hk
   rcases jU r _ _ x c h with z|z
   ·exact .inl (List.mem_cons_of_mem _ z)
   ·rcases mem_cons.mp z with e|e
    ·cases e;subst hk;exact .inl List.mem_cons_self
    ·exact .inr e
  ·rcases jU r _ _ x c h with z|z
   ·exact .inl (List.mem_cons_of_mem _ z)
   ·exact .inr z
def jb:∀ (l:List (Str×NameKind)) (n:Nat) (acc:List (Str×Addr)) (x:Str),((x,NameKind.cell)∈l\/∃ c,acc.lookup x=some c)->∃ c,(cellsFrom n l acc).lookup x=some c
 |[],_,_,_,h=>by
  rcases h with h|h
  ·simp at h
  ·exact h
 | (y,k)::r,n,acc,x,h=>by
  unfold cellsFrom;have put:(x=y\/∃ c,acc.lookup x=some c)->∃ c,((y,n)::acc).lookup x=some c:=λz=>by
   rw [List.lookup_cons];cases hx:x==y with
   |true=>exact ⟨n,rfl⟩
   |false=>
    rcases z with z|z
    ·rw [z] at hx;simp at hx
    ·exact z
  split
  ·refine jb r _ _ x ?_;rcases h with h|h
   ·rcases mem_cons.mp h with e|e
    ·cases e;exact .inr (put (.inl rfl))
    ·exact .inl e
   ·exact .inr (put (.inr h))
  ·rename_i hk;refine jb r _ _ x ?_;rcases h with h|h
   ·rcases mem_cons.mp h with e|e
    ·cases e;exact absurd rfl hk
    ·exact .inl e
   ·exact .inr h
def JW {M:Model} {A:Around} {E:Value->Shared->Prop} {s:Shared} {scope:Scope} {globals:Addr} {cl:List (Str×Addr)} {qual:Str} {env:Env} {Q:Env->Shared->Prop}
  (hQ:∀ h₁:Heap,h₁.Ns s.heap.objs.size (λ_=>none)->(∀ b o,s.heap.get? b=some o->h₁.get? b=some o)->CellsOk h₁ (s.heap.objs.size+1) (cellsFrom (s.heap.objs.size+1) scope.names [])->Q (newEnv scope s.heap.objs.size globals (cellsFrom (s.heap.objs.size+1) scope.names cl) qual none .none (some env) builtinsNs) { s with heap:=h₁ }) :
  wpAny M A (newFunctionEnv scope globals cl [] qual none .none (some env)) Q E s:=by
 simp only [newFunctionEnv,Option.isSome_some,if_true];refine wpAny_bind (wpAny_alloc ?_);refine wpAny_bind (wpAny_layCells _ (λname kind cells=>by cases hkc:kind==NameKind.cell<;>simp [hkc]) _ _ _ _ ?_);have ok:=cellsFrom_ok scope.names (s.heap.push { cls:=.type "dict",data:=.dict #[] }) (s.heap.objs.size+1) [] ⟨λ_ _ hm=>(nomatch hm),List.Pairwise.nil⟩ (by rw [Heap.size_push];exact Nat.le_refl _);rw [Heap.size_push] at ok;rw [show ({ s with heap:=s.heap.push { cls:=.type "dict",data:=.dict #[] } }:Shared).heap.objs.size=s.heap.objs.size+1 from Heap.size_push ..];rw [List.forIn_nil];refine wpAny_bind (wpAny_pure (wpAny_pure ?_));exact hQ _ ((Heap.Ns.new s.heap (.type "dict")).keeps (pushCells_keeps _ _)) (λb o e=>pushCells_keeps _ _ b o (Heap.get?_push_of_some _ e)) ok
def q0 (X:Cx) (N':List Str) (scope:Scope) (s:Shared) (H:Hp) (fp:List Addr):Cx where
 prog:=X.prog
 w:=X.w
 K:=X.K
 mg:=X.mg
 base:=X.base
 A:=X.A
 N:=N'
 s₀:=s
 H₀:=H
 env:=compEnvC scope (cellsFrom (s.heap.objs.size+1) scope.names (VE X.env scope.names [])) s.heap.objs.size X.env
 outer:=X.stack
 stack:=X.stack
 ex:=fp
 fn:=λx=>scope.names.lookup x==some .cell
 calm:=true
 pn:=[]
 xe:=λ_ _=>False
def qeo (outer inner:Scope):Bool:=(inner.kind==.function)&&inner.names.all λy=>
 (y.2 != .cell||inner.names.lookup y.1==some .cell)&&(y.2 != .local||inner.names.lookup y.1==some .local)&&(y.2 != .free||(inner.names.lookup y.1==some .free&&(outer.names.lookup y.1==some .cell||outer.names.lookup y.1==some .free)))
def cap {α:Type} (m:List (Option Nat)) (σ:List (Option α)):List (Option α):=m.map λo=>match o with|some j=>(σ[j]?).join|none=>none
def U0 (N N':List Str) (scope:Scope) (m:List (Option Nat)):Bool:=(m.length==N'.length)&&(m.zip N').all λp=>match p.1 with
 |none=>true
 |some j=>N[j]?==some p.2&&scope.names.lookup p.2==some .free
def RG {α:Type} {m:List (Option Nat)} {σ:List (Option α)} {i:Nat} {v:α} (h:(cap m σ)[i]?=some (some v)):∃ j,m[i]?=some (some j)/\σ[j]?=some (some v):=by
 unfold cap at h;rw [getElem?_map] at h;cases e:m[i]? with
 |none=>rw [e] at h;cases h
 |some o=>
  rw [e] at h;cases o with
  |none=>cases h
  |some j=>
   refine ⟨j,rfl,?_⟩;have h':(σ[j]?).join=some v:=by simpa using h
   cases q:σ[j]? with
   |none=>rw [q] at h';cases h'
   |some z=>rw [q] at h';exact congrArg some h'
def C5 {N N':List Str} {scope:Scope} {m:List (Option Nat)} (h:U0 N N' scope m=true) {i j:Nat} {x:Str} (e:m[i]?=some (some j)) (hx:N'[i]?=some x):N[j]?=some x/\scope.names.lookup x=some .free:=by
 unfold U0 at h;rw [Bool.and_eq_true] at h;have hm:(some j,x)∈m.zip N':=mem_of_getElem? (i:=i) (List.getElem?_zip_eq_some.mpr ⟨e,hx⟩);have:=List.all_eq_true.mp h.2 _ hm;simp only [Bool.and_eq_true,beq_iff_eq] at this;exact this
def qbm {N N':List Str} {scope:Scope} {m:List (Option Nat)} {α:Type} (σ:List (Option α)) (h:U0 N N' scope m=true):(cap m σ).length=N'.length:=by
 unfold U0 at h;rw [Bool.and_eq_true] at h;unfold cap;rw [length_map];simpa using h.1
structure ScFacts (outer inner:Scope):Prop where
 kind:inner.kind=.function
 own:∀ y∈inner.names,y.2=.cell->inner.names.lookup y.1=some .cell
 loc:∀ y∈inner.names,y.2=.local->inner.names.lookup y.1=some .local
 free:∀ y∈inner.names,y.2=.free->inner.names.lookup y.1=some .free/\(outer.names.lookup y.1=some .cell\/outer.names.lookup y.1=some .free)
def X6 {outer inner:Scope} (h:qeo outer inner=true):ScFacts outer inner:=by
 unfold qeo at h;rw [Bool.and_eq_true] at h;have ha:=List.all_eq_true.mp h.2;refine ⟨by simpa using h.1,λy hy e=>?_,λy hy e=>?_,λy hy e=>?_⟩
 ·have:=ha y hy;rw [e] at this;simpa using this
 ·have:=ha y hy;rw [e] at this;simpa using this
 ·have:=ha y hy;rw [e] at this;simpa using this
def jx {scope:Scope} {env:Env} {x:Str} {k:NameKind} (h:(relabel scope env).names.lookup x=some k):scope.names.lookup x=some k\/(k=.cell/\scope.names.lookup x=some .free):=by
 have key:∀ (l:List (Str×NameKind)),(l.map λ(n,k)=>if (k==NameKind.free&&env.scope.kind==.function&&env.kindOf n==some .cell) then (n,NameKind.cell) else (n,k)).lookup x=some k->l.lookup x=some k\/(k=.cell/\l.lookup x=some .free):=by
  intro l;induction l with
  |nil=>intro h;simp at h
  |cons y r ih=>
   intro h;obtain ⟨n,j⟩:=y;rw [map_cons] at h;dsimp only at h;by_cases hc:(j==NameKind.free&&env.scope.kind==.function&&env.kindOf n==some .cell)=true
   ·rw [if_pos hc,List.lookup_cons] at h;rw [List.lookup_cons];cases hx:x==n with
    |true=>
     rw [hx] at h;have hk:NameKind.cell=k:=by simpa using h
     have hj:j=.free:=by simp only [Bool.and_eq_true,beq_iff_eq] at hc;exact hc.1.1
     exact .inr ⟨hk.symm,by rw [hj]⟩
    |false=>rw [hx] at h;exact ih h
   ·rw [if_neg hc,List.lookup_cons] at h;rw [List.lookup_cons];cases hx:x==n with
    |true=>rw [hx] at h;exact .inl h
    |false=>rw [hx] at h;exact ih h
 exact key scope.names h
def PF (X:Cx) (ifs:List Expr) (t:TT):Prop:=
 ∀ (pins:List (Addr×Obj)) (s:Shared) (σ:L2.St) (H:Hp) (Q:Bool->Hp->Prop),Inv X pins σ H s->t σ H Q ->
  wpAny (model X.prog X.w) X.A (forIn ifs true λc r=>if r=true then do let ok←isTrue c X.env (eval c X.env);pure (ForInStep.yield ok) else pure (ForInStep.yield r)) (TP X pins σ Q) X.xe s
def qc3 {X:Cx}:PF X [] (λ_ H Q=>Q true H):=λ_ _ _ H _ I h=>wpAny_tests_nil ⟨H,I,h⟩
section
variable {X:Cx} {pins:List (Addr×Obj)} {σ:L2.St} {H:Hp} {s:Shared}
def KB {N':List Str} {scope:Scope} {fp:List Addr} {m:List (Option Nat)} {h1:Heap} {mm:Str->Option Value} (hc:X.calm=true) (I:Inv X pins σ H s) (sc:ScFacts X.env.scope scope) (hcap:U0 X.N N' scope m=true)
  (hfp:∀ b∈fp,T4 X pins H b) (hob:∀ b∈fp,∃ o,s.heap.get? b=some o) (hns:h1.Ns s.heap.objs.size mm) (hk:∀ b o,s.heap.get? b=some o->h1.get? b=some o) (hown:CellsOk h1 (s.heap.objs.size+1) (cellsFrom (s.heap.objs.size+1) scope.names [])) :
  Inv (q0 X N' scope s H fp) [] (cap m σ) H { s with heap:=h1 }:=by
 have hcl:∀ y∈scope.names,y.2=.free->∃ c,X.env.cells.lookup y.1=some c:=λy hy e=>by
  rcases (sc.free y hy e).2 with z|z
  ·exact I.ok.has y.1 (.inl z)
  ·exact I.ok.has y.1 (.inr z)
 have cl:∀ x c,(VE X.env scope.names []).lookup x=some c->X.env.cells.lookup x=some c:=λx c e=>Q6 scope.names [] x c hcl (λ_ _ z=>by simp at z) e;have clt:∀ x c,(VE X.env scope.names []).lookup x=some c->c<s.heap.objs.size:=λx c e=>by
  obtain ⟨v,q⟩:=I.cell x c (cl x c e);exact q.lt
 -- a cell of the block: its own,or one from around
 have cs:∀ x c,(cellsFrom (s.heap.objs.size+1) scope.names (VE X.env scope.names [])).lookup x=some c->((x,c)∈cellsFrom (s.heap.objs.size+1) scope.names []/\s.heap.objs.size+1<=c/\h1.IsCell c none)\/(VE X.env scope.names []).lookup x=some c:=λx c e=>by
  rw [zG,Z6] at e;cases q:(cellsFrom (s.heap.objs.size+1) scope.names []).lookup x with
  |none=>rw [q] at e;exact .inr e
  |some d=>
   rw [q] at e;cases e;have mem:=PySem.mem_of_lookup q;exact .inl ⟨mem,(hown.empty x _ mem).2,(hown.empty x _ mem).1⟩
 have fpne:∀ b∈fp,b≠s.heap.objs.size:=λb hb=>let ⟨o,e⟩:=hob b hb;Nat.ne_of_lt (Heap.lt_size e)
 refine ⟨⟨I.ok.mod,sc.kind,I.ok.glob,I.ok.blt,Nat.le_refl _,λx y c e1 e2=>?_,λx hx=>?_,λx c hf e=>?_,λ_=>I.ok.hd hc,I.ok.frames,.inl rfl,λb hb=>⟨fpne b hb,λx c e=>?_⟩,I.bs,Nat.le_trans I.ok.bsz I.sz,λb o e hb=>?_,λb hb z=>?_,I.stack,I.stkFree⟩,
  rfl,I.bare,Un.kept hk,⟨mm,hns,λi x v e1 e2 e3=>?_⟩,λx c e=>?_,I.fresh,λx c e=>?_,λp hp=>absurd (show p∈([]:List (Addr×Obj)) from hp) (by simp),I.hok.kept hk,qbm σ hcap⟩
 ·rcases cs x c e1 with ⟨m1,l1,_⟩|z1<;>rcases cs y c e2 with ⟨m2,l2,_⟩|z2
  ·exact PySem.name_of_addr hown.apart m1 m2
  ·exact absurd (clt y c z2) (Nat.not_lt.mpr (Nat.le_trans (Nat.le_succ _) l1))
  ·exact absurd (clt x c z1) (Nat.not_lt.mpr (Nat.le_trans (Nat.le_succ _) l2))
  ·exact I.ok.inj x y c (cl x c z1) (cl y c z2)
 ·have hx:(relabel scope X.env).names.lookup x=some .cell\/(relabel scope X.env).names.lookup x=some .free:=hx;have hf:scope.names.lookup x=some .cell\/scope.names.lookup x=some .free:=by
   rcases hx with z|z
   ·rcases jx z with q|⟨_,q⟩
    ·exact .inl q
    ·exact .inr q
   ·rcases jx z with q|⟨q,_⟩
    ·exact .inr q
    ·cases q
  show ∃ c,(cellsFrom (s.heap.objs.size+1) scope.names (VE X.env scope.names [])).lookup x=some c;rcases hf with hf|hf
  ·exact jb scope.names _ _ x (.inl (PySem.mem_of_lookup hf))
  ·exact jb scope.names _ _ x (.inr (J1 scope.names [] x (.inl (PySem.mem_of_lookup hf))))
 ·have hf:scope.names.lookup x=some .cell:=by simpa [q0] using hf
  rcases cs x c e with ⟨_,l1,_⟩|z1
  ·exact Nat.le_trans (Nat.le_succ _) l1
  ·rcases UN scope.names [] x c z1 with q|q
   ·rw [(sc.free _ q rfl).1] at hf;cases hf
   ·simp at q
 ·rcases cs x c e with ⟨_,l1,_⟩|z1
  ·obtain ⟨o,eo⟩:=hob b hb;exact Nat.ne_of_gt (Nat.lt_of_lt_of_le (Heap.lt_size eo) (Nat.le_trans (Nat.le_succ _) l1))
  ·exact (hfp b hb).2.2.2.2.1 x c (cl x c z1)
 ·rcases (hfp b hb).2.2.2.1 with z|z
  ·exact I.ok.noex b o e z
  ·exact absurd (Nat.lt_of_lt_of_le (Heap.lt_size e) (Nat.le_trans I.ok.bsz z)) (Nat.lt_irrefl _)
 ·rcases mem_cons.mp (I.stkSub b z) with q|q
  ·exact (hfp b hb).2.1 q
  ·exact (hfp b hb).2.2.1 q
 ·obtain ⟨j,ej,es⟩:=RG e2;obtain ⟨hN,hfr⟩:=C5 hcap ej e1;have mem:=PySem.mem_of_lookup hfr;have ho:=(sc.free _ mem rfl).2;obtain ⟨m0,hn0,hl0⟩:=I.loc;obtain ⟨u,ru,lk⟩:=hl0 j x v hN es (ho.elim (λz=>.inr (.inl z)) λz=>.inr (.inr z));refine ⟨u,ru,.inr ⟨?_,?_⟩⟩
  ·rcases e3 with z|z|z
   ·rcases jx z with q|⟨q,_⟩
    ·rw [hfr] at q;cases q
    ·cases q
   ·exact .inl z
   ·exact .inr z
  ·rcases lk with ⟨z,_⟩|⟨_,c,hc',hcell⟩
   ·have z:X.env.scope.names.lookup x=some .local:=z;rcases ho with q|q<;>(rw [z] at q;cases q)
   ·obtain ⟨c',hc2⟩:=J1 (env:=X.env) scope.names [] x (.inl mem);have e:=cl x c' hc2;rw [hc'] at e;cases e;obtain ⟨o,eo,d⟩:=hcell;refine ⟨c,?_,o,hk c o eo,d⟩;show (cellsFrom (s.heap.objs.size+1) scope.names (VE X.env scope.names [])).lookup x=some c;rw [zG,Z6];cases q:(cellsFrom (s.heap.objs.size+1) scope.names []).lookup x with
    |none=>exact hc2
    |some d=>
     rcases jU scope.names _ [] x d (PySem.mem_of_lookup q) with z|z
     ·rw [sc.own _ z rfl] at hfr;cases hfr
     ·simp at z
 ·rcases cs x c e with ⟨_,_,z⟩|z1
  ·exact ⟨none,z⟩
  ·obtain ⟨v,o,eo,d⟩:=I.cell x c (cl x c z1);exact ⟨v,o,hk c o eo,d⟩
 ·rcases cs x c e with ⟨_,l1,_⟩|z1
  ·exact I.hok.fresh (Nat.le_trans (Nat.le_succ _) l1)
  ·exact I.freeC x c (cl x c z1)
def CA {N':List Str} {scope:Scope} {fp:List Addr} {pins':List (Addr×Obj)} {σ':L2.St} {H':Hp} {s':Shared} {h2:Heap} (I:Inv X pins σ H s) (hfp:∀ b∈fp,T4 X pins H b) (J:Inv (q0 X N' scope s H fp) pins' σ' H' s')
  (sb:Heap.SameBut s.heap.objs.size s'.heap h2):Inv X pins σ H' { s' with heap:=h2 }:=by
 have ne:∀ b o,s.heap.get? b=some o->b≠s.heap.objs.size:=λb o e=>Nat.ne_of_lt (Heap.lt_size e);have g:∀ b,b≠s.heap.objs.size->h2.get? b=s'.heap.get? b:=λb hb=>sb.2 b hb;have hn:H' s.heap.objs.size=none:=J.free;have u:Un (frs X.stack) fp H H' s.heap s'.heap:=J.base;refine I.call' (s':={ s' with heap:=h2 }) J.os ⟨λb o e n hb hx=>?_,λb o e n hb hx=>?_,u.free,λb o e hx=>?_,u.tups,u.frzs,u.tbls⟩ (λa o e=>?_) J.bare λb hb=>⟨(hfp b hb).2.2.2.1,(hfp b hb).2.1,(hfp b hb).2.2.2.2.1,(hfp b hb).2.2.2.2.2⟩
 ·show h2.get? b=_;rw [g b (ne b o e)];exact u.keep b o e n hb hx
 ·show ∃ sl,h2.get? b=_;rw [g b (ne b o e)];exact u.slot b o e n hb hx
 ·show ∃ o',h2.get? b=_;rw [g b (ne b o e)];exact u.there b o e hx
 ·refine (J.hok a o e).stay (λb v hb q=>?_) (λ_ q=>q) λ_ _ q=>q;have hb':b≠s.heap.objs.size:=by
   intro z;subst z;rcases hb with z|z
   ·rw [← z] at e;rw [hn] at e;cases e
   ·rw [hn] at z;cases z
  rw [g b hb'];exact q
end
def tLC (wi:TI) (g:TG) (tif:TT) (te:TE) (m:List (Option Nat)):TE:=λσ H Q=>wi σ H λJ H1=>∀ D,H1 D=none ->
 ∃ W:Nat->Nat->L2.St->Hp->Prop,(∃ n,W 0 n (cap m σ) (upd H1 D (.lst [])))/\∀ i n σ H,W i n σ H ->
  (J.stop i H/\Q (.ref D) H)\/(J.go i H/\∀ x H',J.yld i H x H'->g x σ H' λσ2 H2=>tif σ2 H2 λk H3=>
   if k=true then te σ2 H3 λy H4=>∃ zs,H4 D=some (.lst zs)/\zs.length<sizeLine/\∃ n',n'<n/\W (i+1) n' σ2 (upd H4 D (.lst (zs++[y])))
   else ∃ n',n'<n/\W (i+1) n' σ2 H3)
section
variable {X:Cx}
def qga {elt tg iter:Expr} {ifs:List Expr} {scope:Scope} {pos:Pos} {N':List Str} {m:List (Option Nat)} {wi:TI} {g:TG} {tif:TT} {te:TE} (hc:X.calm=true) (hi:PI X tg iter wi)
  (hg:∀ s H fp,PG (q0 X N' scope s H fp) tg g) (hf:∀ s H fp,PF (q0 X N' scope s H fp) ifs tif) (he:∀ s H fp,PE (q0 X N' scope s H fp) elt te)
  (hsc:qeo X.env.scope scope=true) (hcap:U0 X.N N' scope m=true) (hs:∀ x,foldedSetIterable iter X.env x=pure x:=by intro _;rfl) :
  PE X (.ListComp elt [⟨tg,iter,ifs,0⟩] scope pos) (tLC wi g tif te m):=by
 intro pins s σ H Q I h;have sc:=X6 hsc;have hcl:∀ y∈scope.names,y.2=.free->∃ c,X.env.cells.lookup y.1=some c:=λy hy e=>by
  rcases (sc.free y hy e).2 with z|z
  ·exact I.ok.has y.1 (.inl z)
  ·exact I.ok.has y.1 (.inr z)
 rw [eval_ListComp];refine wpAny_comprehension_free (use:=none) (g:=⟨tg,iter,ifs,0⟩) (gs:=[]) rfl hs (UJ hcl) sc.kind sc.loc ?_;show wpAny _ _ (eval iter X.env) _ _ s;refine thn (hi pins s σ H _ I h) λv s1 h1=>thn h1 λitv s2 h2=>?_;obtain ⟨it,fp,tn,J,H2,rfl,I2,T,st2,f2,hW⟩:=h2;refine wpAny_newObj_type ?_;have hD:H2 s2.heap.objs.size=none:=I2.fresh;obtain ⟨W,⟨n0,w0⟩,turn⟩:=hW _ hD;generalize hDe:s2.heap.objs.size=D at *;have I3:Inv X pins σ (upd H2 D (.lst [])) { s2 with heap:=s2.heap.push { cls:=.type "list",dict:=none,data:=.seq ([]:List Value).toArray } }:=by
  subst hDe;exact I2.laid (t':=s2.toks) (λb u e=>Heap.get?_push_of_some _ e) (Nat.le_refl _) ⟨Nat.zero_le _,[],0,.nil,Heap.get?_push_size _ rfl⟩
 have ob2:=T.obj 0 _ st2;have ob3:∀ b∈fp,∃ o,(s2.heap.push { cls:=.type "list",dict:=none,data:=.seq ([]:List Value).toArray }).get? b=some o:=λb hb=>let ⟨o,e,_⟩:=ob2 b hb;⟨o,Heap.get?_push_of_some _ e⟩
 have f3:∀ b∈fp,T4 X pins (upd H2 D (.lst [])) b:=λb hb=>by
  obtain ⟨o,e,_⟩:=ob2 b hb;have:b≠D:=by rw [← hDe];exact Nat.ne_of_lt (Heap.lt_size e)
  exact ⟨by rw [qB this];exact (f2 b hb).1,(f2 b hb).2⟩
 have k23:∀ b o,s2.heap.get? b=some o->(s2.heap.push { cls:=.type "list",dict:=none,data:=.seq ([]:List Value).toArray }).get? b=some o:=λb o e=>Heap.get?_push_of_some _ e;generalize hH3:upd H2 D (.lst [])=H3 at *;generalize hs3:({ s2 with heap:=s2.heap.push { cls:=.type "list",dict:=none,data:=.seq ([]:List Value).toArray } }:Shared)=s3 at *;have ob3:∀ b∈fp,∃ o,s3.heap.get? b=some o:=by rw [← hs3];exact ob3
 have k23:∀ b o,s2.heap.get? b=some o->s3.heap.get? b=some o:=by rw [← hs3];exact k23
 refine JW λh₁ hns hk hown=>?_;have I4:Inv (q0 X N' scope s3 H3 fp) [] (cap m σ) H3 { s3 with heap:=h₁ }:=KB hc I3 sc hcap f3 ob3 hns hk hown;have tn4:tn 0 h₁:=T.keep _ _ _ st2 λb hb o e=>hk b o (k23 b o e);have fr4:∀ b∈fp,H3 b=none:=λb hb=>(f3 b hb).1;have stat:∀ {H':Hp},(∀ b∈fp,H' b=none)->∀ b∈fp,T4 (q0 X N' scope s3 H3 fp) [] H' b:=λhn b hb=>by
  refine ⟨hn b hb,I4.ok.exf b hb |>.1,I4.ok.exfs b hb,.inl hb,λx c e=>(I4.ok.exf b hb).2 x c e,λp hp=>absurd (show p∈([]:List (Addr×Obj)) from hp) (by simp)⟩
 show codeAny (model X.prog X.w) X.A (.compStart (.ListComp elt [⟨tg,iter,ifs,0⟩] scope pos) 0 (.ref it) (.ref D) (q0 X N' scope s3 H3 fp).env) (compPost (model X.prog X.w) X.A X.xe none (EP X pins σ Q) (.ref D) s3.heap.objs.size) { s3 with heap:=h₁ };have loop:codeAny (model X.prog X.w) X.A (.compLoop (.ListComp elt [⟨tg,iter,ifs,0⟩] scope pos) 0 (.ref it) (.ref D) (q0 X N' scope s3 H3 fp).env) (compPost (model X.prog X.w) X.A X.xe none (EP X pins σ Q) (.ref D) s3.heap.objs.size) { s3 with heap:=h₁ }:=by
  refine codeAny_loop rfl (λn s'=>∃ i σ' H',Inv (q0 X N' scope s3 H3 fp) [] σ' H' s'/\tn i s'.heap/\(∀ b∈fp,H' b=none)/\W i n σ' H') (λn s' hI=>?_) n0 ⟨0,cap m σ,H3,I4,tn4,fr4,w0⟩;show wpAny _ X.A ((compTurn (.ListComp elt [⟨tg,iter,ifs,0⟩] scope pos) 0 (.ref it) (.ref D) (q0 X N' scope s3 H3 fp).env).onRaise (λx=>do noteFrame x (q0 X N' scope s3 H3 fp).env;theTreesLotGoes x)) _ _ s';refine wpAny_noted ?_;rw [compTurn_list];refine wpAny_bind (wpAny_standAt (wpAny_bind ?_));obtain ⟨i,σ5,H5,I5,st5,fr5,w5⟩:=hI;rcases turn i n σ5 H5 w5 with ⟨stop,q⟩|⟨go,step⟩
  ·refine thn (T.done (q0 X N' scope s3 H3 fp) rfl rfl rfl rfl i [] s' σ5 H5 _ I5 (stat fr5) st5 stop) λr s6 ⟨hr,I6⟩=>?_;subst hr;refine wpAny_pure ?_;obtain ⟨mm,hn6,_⟩:=I6.loc;exact ⟨mm,hn6,λh' sb=>⟨.ref D,H5,CA I3 f3 I6 sb,rfl,q⟩⟩
  ·refine thn (T.item (q0 X N' scope s3 H3 fp) rfl rfl rfl rfl i [] s' σ5 H5 _ I5 (stat fr5) st5 go) λr s6 ⟨u,hr,h6⟩=>?_;subst hr;refine wpAny_bind (thn h6 λ_ s7 ⟨x,H7,I7,r7,y7,st7,fr7⟩=>?_);have I7':=I7.pinned (stat fr7) (T.obj _ _ st7);have again:∀ {σ8:L2.St} {H8:Hp} {s8:Shared},Inv (q0 X N' scope s3 H3 fp) ([]++EG fp s7.heap) σ8 H8 s8->(∃ n',n'<n/\W (i+1) n' σ8 H8) ->
     ∃ m',m'<n/\∃ i σ' H',Inv (q0 X N' scope s3 H3 fp) [] σ' H' s8/\tn i s8.heap/\(∀ b∈fp,H' b=none)/\W i m' σ' H':=λ{σ8 H8 s8} I8 ⟨n',hn,w8⟩=>by
    refine ⟨n',hn,i+1,σ8,H8,I8.unpinned,T.keep _ _ _ st7 λb hb o e=>(I8.pin (b,o) (mem_append_right _ (mem_append_right _ (QW hb e)))).1,λb hb=>?_,w8⟩;obtain ⟨o,e,d⟩:=T.obj _ _ st7 b hb;exact (I8.pin (b,o) (mem_append_right _ (mem_append_right _ (QW hb e)))).2.1
   refine wpAny_bind (wpAny_mono (hg s3 H3 fp _ s7 σ5 H7 x u _ I7' r7 (step x H7 y7)) (λ_ s8 ⟨σ8,H8,I8,q8⟩=>?_) λ_ _ z=>z.elim);refine wpAny_bind (wpAny_mono (hf s3 H3 fp _ s8 σ8 H8 _ I8 q8) (λk s9 ⟨H9,I9,q9⟩=>?_) λ_ _ z=>z.elim);cases k with
   |false=>
    rw [if_neg Bool.false_ne_true] at q9;exact wpAny_pure ⟨rfl,again I9 q9⟩
   |true=>
    rw [if_pos rfl] at q9;refine wpAny_bind (wpAny_bind (wpAny_mono (he s3 H3 fp _ s9 σ8 H9 _ I9 q9) (λw s10 ⟨y,H10,I10,r10,q10⟩=>?_) λ_ _ z=>z.elim));obtain ⟨zs,hz,hl,q10⟩:=q10;refine wpAny_bind (wpAny_mono (ES (X:=q0 X N' scope s3 H3 fp) _ s10 σ8 H10 (.ref D) [y] (.ref D) [w] (λ_ H11=>H11=upd H10 D (.lst (zs++[y]))) I10 rfl (.cons r10 .nil) ⟨D,zs,y,rfl,rfl,hz,hl,rfl⟩) (λ_ s11 ⟨_,H11,I11,_,e11⟩=>?_) λ_ _ z=>z.elim);subst e11;exact wpAny_pure (wpAny_pure ⟨rfl,again I11 q10⟩)
 exact codeAny_compStart_list loop (T.self X.A 0 _ _ _ tn4 loop)
end
section
variable {K:Frg} {G G':Gp} {H H':Hp}
def qbb {D:Addr} {o:HO} {ws:List V} (hD:H D=some (.lst ws)) {a:Addr} {vs:List V} (h:SqT K H a vs):SqT K (upd H D o) a vs:=by
 rcases h with h|h
 ·refine .inl ?_;rcases h with h|⟨ob,h⟩
  ·have:a≠D:=by intro e;subst e;rw [hD] at h;cases h
   exact .inl (by rw [qB this];exact h)
  ·have:a≠D:=by intro e;subst e;rw [hD] at h;cases h
   exact .inr ⟨ob,by rw [qB this];exact h⟩
 ·exact .inr h
mutual
def Rp.wrD {D:Addr} {o:HO} {ws:List V} (hD:H D=some (.lst ws)):∀ {x:T} {v:V},Rp K H x v->Rp K (upd H D o) x v
 |_,_,.non=>.non
 |_,_,.bl b=>.bl b
 |_,_,.int i=>.int i
 |_,_,.str x=>.str x
 |_,_,.ref a=>.ref a
 |_,_,.tup h hs=>.tup (qbb hD h) (Rps.wrD hD hs)
def Rps.wrD {D:Addr} {o:HO} {ws:List V} (hD:H D=some (.lst ws)):∀ {x:List T} {v:List V},Rps K H x v->Rps K (upd H D o) x v
 |_,_,.nil=>.nil
 |_,_,.cons a b=>.cons (Rp.wrD hD a) (Rps.wrD hD b)
end
def HR.wrD {D:Addr} {o:HO} {ws:List V} (hr:HR K G H) (hD:H D=some (.lst ws)) (g:G D=none):HR K G (upd H D o):=λa ob e=>by
 have ha:a≠D:=by intro z;subst z;rw [g] at e;cases e
 have q:=hr a ob e;cases ob with
 |lst xs=>obtain ⟨vs,h1,h2⟩:=q;exact ⟨vs,by rw [qB ha];exact h1,h2.wrD hD⟩
 |frz xs=>obtain ⟨vs,⟨o1,h1⟩,h2⟩:=q;exact ⟨vs,⟨o1,by rw [qB ha];exact h1⟩,h2.wrD hD⟩
def Rel.wrD {D:Addr} {o:HO} {ws:List V} {τ:St3} {σ:L2.St} (r:Rel K τ G σ H) (hD:H D=some (.lst ws)) (g:G D=none):Rel K τ G σ (upd H D o):=
 ⟨r.hp.wrD hD g,r.len,λi t e=>let ⟨v,h1,h2⟩:=r.st i t e;⟨v,h1,h2.wrD hD⟩⟩
def Kp.wrD {D:Addr} {o:HO} (k:Kp G H G' H') (hD:H D=none):Kp G H G' (upd H' D o):=λa ob h g=>by
 obtain ⟨h1,h2⟩:=k a ob h g;exact ⟨by rw [qB (qw h hD)];exact h1,h2⟩
def LF {α:Type} {m:List (Option Nat)} {σ:List (Option α)} {i j:Nat} (h:m[i]?=some (some j)):(cap m σ)[i]?=some ((σ[j]?).join):=by
 unfold cap;rw [getElem?_map,h];rfl
def Rel.cap {τ:St3} {σ:L2.St} (r:Rel K τ G σ H) (m:List (Option Nat)):Rel K (cap m τ) G (L3.cap m σ) H:=by
 refine ⟨r.hp,by simp [L3.cap],λi t e=>?_⟩;obtain ⟨j,e1,e2⟩:=RG e;obtain ⟨v,h1,h2⟩:=r.st j t e2;exact ⟨v,by rw [LF e1,h1];rfl,h2⟩
end
def qao (stay:Gp->Prop) (g:TG3) (tif:TT3) (te:TE3) (q:Q3):List T->List T->St3->Gp->Prop
 |[],ys,_,G=>stay G/\∀ p,G p=none->q (.ref p) (gu G p (.lst ys))
 |x::r,ys,τ,G=>stay G/\g x τ G λτ2 G2=>tif τ2 G2 λk G3=>if k=true then te τ2 G3 λy G4=>ys.length<sizeLine/\qao stay g tif te q r (ys++[y]) τ2 G4 else qao stay g tif te q r ys τ2 G3
def lc3 (wi:TI3) (g:TG3) (tif:TT3) (te:TE3) (m:List (Option Nat)):TE3:=λτ G q=>wi τ G λitems stay G1=>qao stay g tif te q items [] (cap m τ) G1
abbrev F3 (X:Cx) (ifs:List Expr) (t:TT3):Prop:=PF X ifs (lT X.K t)
def tt3:TT3:=λ_ G q=>q true G
def qfD {X:Cx}:F3 X [] tt3:=λpins s σ H Q I ⟨τ,G,q,rl,h,af⟩=>qc3 pins s σ H Q I (af true G h H rl.hp Kp.refl)
section
variable {X:Cx}
def qhl {elt tg iter:Expr} {ifs:List Expr} {scope:Scope} {pos:Pos} (N':List Str) (m:List (Option Nat)) {wi:TI3} {g:TG3} {tif:TT3} {te:TE3} (hc:X.calm=true) (hi:I3 X tg iter wi)
  (hg:∀ s H fp,G3 (q0 X N' scope s H fp) tg g) (hf:∀ s H fp,F3 (q0 X N' scope s H fp) ifs tif) (he:∀ s H fp,E3 (q0 X N' scope s H fp) elt te)
  (hsc:qeo X.env.scope scope=true) (hcap:U0 X.N N' scope m=true) (hs:∀ x,foldedSetIterable iter X.env x=pure x:=by intro _;rfl) :
  E3 X (.ListComp elt [⟨tg,iter,ifs,0⟩] scope pos) (lc3 wi g tif te m):=
 YZ (qga (g:=lG X.K g) (tif:=lT X.K tif) (te:=lE X.K te) hc hi hg hf he hsc hcap hs) λσ H Q ⟨τ,G,q,rl,h,af⟩=>by
  refine ⟨τ,G,_,rl,h,λitems stay G1 h1 J H1 hr1 k1 ok D hD=>?_⟩;have gD:G1 D=none:=hr1.free hD;refine ⟨λi n σ' H'=>n=items.length-i/\i<=items.length/\∃ τ' G' ys vs,Rel X.K τ' G' σ' H'/\Kp G1 H1 G' H'/\H' D=some (.lst vs)/\Rps X.K H' ys vs/\G' D=none/\qao stay g tif te q (items.drop i) ys τ' G',
   ⟨_,rfl,Nat.zero_le _,cap m τ,G1,[],[],((rl.next hr1 k1).cap m).next (hr1.laid hD) (Kp.laid hD),Kp.laid hD,za,.nil,gD,by simpa using h1⟩,?_⟩
  rintro i n σ' H' ⟨rfl,hi,τ',G',ys,vs,rl',k',hDl,rys,gD',h'⟩;by_cases hlt:i<items.length
  ·rw [List.drop_eq_getElem_cons hlt] at h';obtain ⟨hst,h'⟩:=h';obtain ⟨go,yld,_⟩:=ok G' H' rl'.hp k' hst;have hx:items[i]?=some items[i]:=getElem?_eq_getElem hlt;refine .inr ⟨go i _ hx,λv H2 y=>?_⟩;obtain ⟨rv,hr2,k2⟩:=yld i _ v H2 hx y;have nxt:∀ {τ4:St3} {G4:Gp} {σ4:L2.St} {H4:Hp} {ys4:List T} {vs4:List V},Rel X.K τ4 G4 σ4 H4->Kp G1 H1 G4 H4->H4 D=some (.lst vs4)->Rps X.K H4 ys4 vs4->G4 D=none->qao stay g tif te q (items.drop (i+1)) ys4 τ4 G4 ->
     ∃ n',n'<items.length-i/\(n'=items.length-(i+1)/\i+1<=items.length/\∃ τ' G' ys vs,Rel X.K τ' G' σ4 H4/\Kp G1 H1 G' H4/\H4 D=some (.lst vs)/\Rps X.K H4 ys vs/\G' D=none/\qao stay g tif te q (items.drop (i+1)) ys τ' G'):=
    λ{τ4 G4 σ4 H4 ys4 vs4} a b c d e f=>⟨_,by omega,rfl,hlt,τ4,G4,ys4,vs4,a,b,c,d,e,f⟩
   refine ⟨_,τ',G',_,rv,rl'.next hr2 k2,h',λτ3 G3 h3 σ3 H3 rl3 k3=>⟨τ3,G3,_,rl3,h3,λk G4 h4 H4 hr4 k4=>?_⟩⟩;have kk:=(k2.trans k3).trans k4;obtain ⟨hD4,gD4⟩:=kk D _ hDl gD';have rys4:=rys.keep rl'.hp kk;cases k with
   |false=>
    rw [if_neg Bool.false_ne_true] at h4;refine qhA ?_;exact nxt (rl3.next hr4 k4) (k'.trans kk) hD4 rys4 gD4 h4
   |true=>
    rw [if_pos rfl] at h4;refine qhb ?_;refine ⟨τ3,G4,_,rl3.next hr4 k4,h4,λz G5 h5 w H5 rw5 hr5 k5=>?_⟩;obtain ⟨hD5,gD5⟩:=k5 D _ hD4 gD4;have rys5:=rys4.keep hr4 k5;exact ⟨vs,hD5,by rw [← rys.length];exact h5.1,nxt (((rl3.next hr4 k4).next hr5 k5).wrD hD5 gD5) (((k'.trans kk).trans k5).wrD hD) za ((rys5.append (.cons rw5 .nil)).wrD hD5) gD5 h5.2⟩
  ·have e:i=items.length:=by omega
   subst e;rw [List.drop_length] at h';obtain ⟨_,_,stop⟩:=ok G' H' rl'.hp k' h'.1;refine .inl ⟨stop,af _ _ (h'.2 D gD') _ H' (.ref D) (λa o e=>?_) λa o e ga=>?_⟩
   ·by_cases ha:a=D
    ·subst ha;rw [qL] at e;cases e;exact ⟨vs,hDl,rys⟩
    ·rw [j7 ha] at e;exact rl'.hp a o e
   ·obtain ⟨e1,g1⟩:=k1 a o e ga;obtain ⟨e2,g2⟩:=k' a o e1 g1;exact ⟨e2,by rw [j7 (qw e1 hD)];exact g2⟩
end
structure Src (P:Program) (w:World) (it c:Addr) (St:Nat->Heap->Prop) (Has:Array Value->Heap->Prop):Prop where
 obj:∀ {k h},St k h->∃ o,h.get? it=some o/\∀ v,o.data≠.cell v
 keep:∀ {k h h'},St k h->(∀ o,h.get? it=some o->h'.get? it=some o)->St k h'
 hkeep:∀ {xs h h'},Has xs h->(∀ o,h.get? c=some o->h'.get? c=some o)->Has xs h'
 item:∀ {A:Around} {s:Shared} {k:Nat} {xs:Array Value} {x:Value} {Q:Value->Shared->Prop} {E:Value->Shared->Prop},St k s.heap->Has xs s.heap->xs[k]?=some x ->
  (∀ h',St (k+1) h'->Heap.SameBut it s.heap h'->Q x { s with heap:=h' })->wpAny (model P w) A (Builtin.SmallTypes.nextOf (.ref it)) Q E s
 done:∀ {A:Around} {s:Shared} {k:Nat} {xs:Array Value} {Q:Value->Shared->Prop} {E:Value->Shared->Prop},A.handled=none->St k s.heap->Has xs s.heap->xs[k]?=none ->
  (∀ h' e,Heap.ExtBut it s.heap h'->(∃ o,h'.get? e=some o/\o.cls=.type "StopIteration")->E (.ref e) { s with heap:=h' })->wpAny (model P w) A (Builtin.SmallTypes.nextOf (.ref it)) Q E s
def LO {P:Program} {w:World} (it l:Addr):Src P w it l (λk h=>h.IsListIter it l k) (λxs h=>h.IsList l xs) where
 obj:=λst=>let ⟨o,e,_,d⟩:=st;⟨o,e,λv z=>by rw [d] at z;cases z⟩
 keep:=λst k=>st.at λo e=>k o e
 hkeep:=λst k=>st.at λo e=>k o e
 item:=λst hl hx hQ=>wpAny_nextOf_list_item st hl hx hQ
 done:=λhh st hl hx hE=>wpAny_nextOf_list_end hh st hl hx hE
def XO {P:Program} {w:World} {A:Around} {s:Shared} {it t:Addr} {i:Nat} {its:Array Value} {x:Value} {Q:Value->Shared->Prop} {E:Value->Shared->Prop} (hit:s.heap.IsTupleIter it t i) (ht:s.heap.IsTuple t its) (hx:its[i]?=some x)
  (hQ:∀ h',h'.IsTupleIter it t (i+1)->Heap.SameBut it s.heap h'->Q x { s with heap:=h' }):wpAny (model P w) A (Builtin.SmallTypes.nextOf (.ref it)) Q E s:=by
 obtain ⟨o1,e1,c1,d1⟩:=id hit;obtain ⟨o2,e2,_,n2,d2⟩:=ht;unfold Builtin.SmallTypes.nextOf;refine wpAny_bind (wpAny_callSpecial?_slot (name:=Str.ofString "__next__") hit.typeIs F.slot_tuple_iterator_next (wpAny_call_entry F.slot_tuple_iterator_next hit.typeIs F.entry_tuple_iterator_next ?_ (F.args_tuple_iterator_next_1 _)));refine wpAny_bind (m:=field (.ref it) 0) (wpAny_field e1 d1 (x:=.ref t) rfl ?_);rw [if_neg (show ¬ ((Value.ref t==Value.none)=true) by exact Bool.false_ne_true)];refine wpAny_bind (m:=field (.ref it) 1) (wpAny_field e1 d1 (x:=.int i 0) rfl ?_);refine wpAny_bind (m:=seqItems? (.ref t)) (wpAny_seqItems e2 d2 ?_);simp only [Int.toNat_natCast,hx];refine wpAny_bind (wpAny_setField e1 d1 (by simp) (wpAny_pure ⟨x,rfl,wpAny_pure (hQ _ ⟨_,Heap.get?_update_self _ e1 (Obj.isFreed_of_fields (Obj.data_mapFields d1 _)),(Obj.cls_mapFields ..).trans c1,?_⟩ (Heap.SameBut.update ..))⟩));rw [Obj.data_mapFields d1];simp [rawInt]
def Y9 {P:Program} {w:World} {A:Around} {s:Shared} {it t:Addr} {i:Nat} {its:Array Value} {Q:Value->Shared->Prop} {E:Value->Shared->Prop} (hh:A.handled=none) (hit:s.heap.IsTupleIter it t i) (ht:s.heap.IsTuple t its) (hx:its[i]?=none)
  (hE:∀ h' e,Heap.ExtBut it s.heap h'->(∃ o,h'.get? e=some o/\o.cls=.type "StopIteration")->E (.ref e) { s with heap:=h' }):wpAny (model P w) A (Builtin.SmallTypes.nextOf (.ref it)) Q E s:=by
 obtain ⟨o1,e1,c1,d1⟩:=id hit;obtain ⟨o2,e2,_,n2,d2⟩:=ht;unfold Builtin.SmallTypes.nextOf;refine wpAny_bind (wpAny_callSpecial?_slot (name:=Str.ofString "__next__") hit.typeIs F.slot_tuple_iterator_next (wpAny_call_entry F.slot_tuple_iterator_next hit.typeIs F.entry_tuple_iterator_next ?_ (F.args_tuple_iterator_next_1 _)));refine wpAny_bind (m:=field (.ref it) 0) (wpAny_field e1 d1 (x:=.ref t) rfl ?_);rw [if_neg (show ¬ ((Value.ref t==Value.none)=true) by exact Bool.false_ne_true)];refine wpAny_bind (m:=field (.ref it) 1) (wpAny_field e1 d1 (x:=.int i 0) rfl ?_);refine wpAny_bind (m:=seqItems? (.ref t)) (wpAny_seqItems e2 d2 ?_);simp only [Int.toNat_natCast,hx];refine wpAny_bind (wpAny_rule (wpAny_bind (wpAny_setField e1 d1 (by simp) ?_)));refine wpAny_bind (m:=newExc (.type "StopIteration") []) ?_;simp only [newExc,newTuple];refine wpAny_bind (wpAny_newObj_type ?_ (by size_fits));refine wpAny_bind (m:=firstArgMember _ _) (wpAny_of_eq (a:=Value.none) (by first|rfl|(simp only [firstArgMember]<;>rfl)) (wpAny_newObj_type ?_ (by size_fits)));simp only [raiseNew];refine wpAny_bind (wpAny_handled ?_)
 first|rw [show A.in1.handled=Option.none from hh]|rw [show A.handled=Option.none from hh]
 exact wpAny_bind (wpAny_pure (wpAny_throw (hE _ _ (((Heap.SameBut.update ..).extBut.push _).push _) ⟨_,Heap.get?_push_size _ rfl,rfl⟩)))
def qaR {P:Program} {w:World} (it t:Addr):Src P w it t (λk h=>h.IsTupleIter it t k) (λxs h=>h.IsTuple t xs) where
 obj:=λst=>let ⟨o,e,_,d⟩:=st;⟨o,e,λv z=>by rw [d] at z;cases z⟩
 keep:=λst k=>st.at λo e=>k o e
 hkeep:=λst k=>st.at λo e=>k o e
 item:=λst hl hx hQ=>XO st hl hx hQ
 done:=λhh st hl hx hE=>Y9 hh st hl hx hE
section
variable {P:Program} {w:World} {A:Around} {s:Shared} {z ti to i1 i2 c1 c2:Addr} {S1 S2:Nat->Heap->Prop} {H1 H2:Array Value->Heap->Prop} {k1 k2:Nat} {xs ys:Array Value} {x y a b:Value} {E:Value->Shared->Prop}
end
abbrev qgC (b:Bool):String:=if b then "list_iterator" else "tuple_iterator"
abbrev DO (b:Bool) (c:Addr):Obj:={ cls:=.type (qgC b),data:=.fields #[.ref c,.int 0 0] }
def qer (b:Bool) (it c:Addr) (k:Nat) (h:Heap):Prop:=match b with|true=>h.IsListIter it c k|false=>h.IsTupleIter it c k
def qad (b:Bool) (c:Addr) (xs:Array Value) (h:Heap):Prop:=match b with|true=>h.IsList c xs|false=>h.IsTuple c xs
def QE {P:Program} {w:World} (b:Bool) (it c:Addr):Src P w it c (qer b it c) (qad b c):=by
 cases b
 ·exact qaR it c
 ·exact LO it c
def qaH {P:Program} {w:World} {A:Around} {s:Shared} {b:Bool} {c:Addr} {xs:Array Value} {Q:Value->Shared->Prop} {E:Value->Shared->Prop} (h:qad b c xs s.heap) (q:Q (.ref s.heap.objs.size) { s with heap:=s.heap.push (DO b c) }) :
  wpAny (model P w) A (pyIter (.ref c)) Q E s:=by
 cases b
 ·exact wpAny_pyIter_tuple (show s.heap.IsTuple c xs from h) q
 ·exact wpAny_pyIter_list (show s.heap.IsList c xs from h) q
section
variable {P:Program} {w:World} {A:Around} {s:Shared} {E:Value->Shared->Prop}
end
def SqB (K:Frg) (b:Bool) (H:Hp) (a:Addr) (xs:List V):Prop:=match b with|true=>SqL K H a xs|false=>SqT K H a xs
def SqB.get {X:Cx} {pins:List (Addr×Obj)} {σ:L2.St} {H:Hp} {s:Shared} {b:Bool} {a:Addr} {xs:List V} (I:Inv X pins σ H s) (h:SqB X.K b H a xs):∃ its:List Value,zn xs its/\qad b a its.toArray s.heap/\xs.length<=sizeLine:=by
 cases b
 ·obtain ⟨its,r,p,hz⟩:=I.tuple (show SqT X.K H a xs from h);exact ⟨its,r,(show s.heap.IsTuple a its.toArray from p),hz⟩
 ·obtain ⟨its,r,p,hz⟩:=I.list (show SqL X.K H a xs from h);exact ⟨its,r,p.isList,hz⟩
def SqB.inj {X:Cx} {pins:List (Addr×Obj)} {σ:L2.St} {H:Hp} {s:Shared} {b:Bool} {a:Addr} {xs ys:List V} (I:Inv X pins σ H s) (h:SqB X.K b H a xs) (h':SqB X.K b H a ys):xs=ys:=by
 cases b
 ·exact I.tuple_inj h h'
 ·exact I.list_inj h h'
def qgq {b:Bool} {c:Addr} {xs:Array Value} {h:Heap} (q:qad b c xs h):c<h.objs.size:=by
 cases b
 ·obtain ⟨o,e,_⟩:=(show h.IsTuple c xs from q);exact Heap.lt_size e
 ·obtain ⟨o,e,_⟩:=(show h.IsList c xs from q);exact Heap.lt_size e
section
variable {X:Cx} {a b e l:Expr} {es:List Expr} {pos:Pos}
end
def Z0 (G:Gp):T->Option (List T)
 |.tup xs=>some xs
 |.ref p=>getL G p
 |_=>none
def qdv {K:Frg} {G0:Gp} {H0:Hp} {x:T} {v:V} {us:List T} (hr0:HR K G0 H0) (rx:Rp K H0 x v) (h:Z0 G0 x=some us) :
  ∃ b c,v=.ref c/\∀ G H,HR K G H->Kp G0 H0 G H->Z0 G x=some us->∃ vs,SqB K b H c vs/\Rps K H us vs:=by
 cases rx with
 |tup hs rs=>
  cases h;exact ⟨false,_,rfl,λG H hr k _=>⟨_,(UC hr0 k hs:SqT K H _ _),rs.keep hr0 k⟩⟩
 |ref a=>exact ⟨true,a,rfl,λG H hr k hq=>let ⟨vs,h1,h2⟩:=zA hr (show getL G a=some us from hq);⟨vs,h1,h2⟩⟩
 |_=>cases h
def qfW (us vs:List T):List T:=(us.zip vs).map λp=>.tup [p.1,p.2]
section
variable {X:Cx} {a b e l:Expr} {es:List Expr} {pos:Pos} {t:TA3}
def qa0:List T->Gp->Q3->Prop:=λxs G q=>match xs with
 |[.ref p]=>(match getL G p with|some ys=>(match qbC ys with|some k=>q (.bl k) G|none=>False)|none=>False)
 |_=>False
def SS {K:Frg} {H:Hp}:∀ {ys:List T} {vs:List V} {k:Bool},Rps K H ys vs->qbC ys=some k->∃ ks:List Bool,vs=ks.map V.bl/\ks.all id=k
 |_,_,_,.nil,h=>by cases h;exact ⟨[],rfl,rfl⟩
 |y::ys,_,k,.cons a b,h=>by
  unfold qbC at h;split at h
  ·rename_i e;cases e
  ·rename_i j r e;cases e;split at h
   ·rename_i i ei;obtain ⟨ks,rfl,hk⟩:=SS b ei;cases a;cases h;exact ⟨j::ks,rfl,by rw [List.all_cons,hk];rfl⟩
   ·cases h
  ·cases h
def D5 {K:Frg}:W8 K qa0 (λxs H Q=>∃ (p:Addr) (ks:List Bool),xs=[.ref p]/\SqL K H p (ks.map V.bl)/\Q (.bl (ks.all id)) H):=λxs vs G H q Q hr rs h af=>by
 unfold qa0 at h;split at h
 ·rename_i p;obtain ⟨v,rfl,r⟩:=EY rs;cases r;split at h
  ·rename_i ys e0;split at h
   ·rename_i k e1;obtain ⟨us,hs,r2⟩:=zA hr e0;obtain ⟨ks,rfl,hk⟩:=SS r2 e1;exact ⟨p,ks,rfl,hs,by rw [hk];exact af _ G h _ H (.bl _) hr Kp.refl⟩
   ·exact h.elim
  ·exact h.elim
 ·exact h.elim
end
def qfQ:Value->Bool
 |.type t=>t == "list"
 |_=>false
def JG:List (Addr×Obj)->Bool
 |[]=>true
 |p::r=>if qfQ p.2.cls then false else JG r
def VW:∀ {K:List (Addr×Obj)} {a:Addr} {o:Obj},JG K=true->K.lookup a=some o->o.cls≠.type "list"
 |[],_,_,_,e=>by simp at e
 | (b,x)::r,a,o,h,e=>by
  unfold JG at h;split at h
  ·cases h
  ·rename_i hx;rw [List.lookup_cons] at e;split at e
   ·cases e;intro z;rw [z] at hx;exact hx rfl
   ·exact VW h e
def XQ {K:Frg} {H:Hp} {a:Addr} {ns:List Int} (hK:JG K=true) (hO:qeQ H) (hS:SqL K H a (ns.map V.int)):∃ o,H a=some (.frz o (.lst (ns.map V.int))):=by
 rcases hS with (h|h)|⟨o,its,n,h1,h2,_⟩
 ·rcases hO a with z|⟨o,xs,z⟩<;>(rw [h] at z;cases z)
 ·exact h
 ·exact absurd h2 (VW hK h1)
def only (a:Addr) (ns:List Int):Gp:=λb=>if b=a then some (.frz (ns.map T.int)) else none
def qaD {K:Frg} {H:Hp} {a:Addr} {ns:List Int} (h:∃ o,H a=some (.frz o (.lst (ns.map V.int)))):HR K (only a ns) H:=λb o e=>by
 unfold only at e;split at e
 ·rename_i hb;subst hb;cases e;exact ⟨_,h,Rps.ints ns⟩
 ·cases e
def VU:Sp3:=λts G q=>∃ (a:Addr) (ns:List Int),ts=[.ref a]/\G a=some (.frz (ns.map T.int))/\ns.length<=63/\∀ G',q (.bl true) G'
def qfE {l:PySem.W.OpenLaw} {k:Nat} {q:Program} {loose:List Str} {XP:(Str->Option Value)->Heap->Prop} {YP:World->Heap->Prop} {d:DefRec} {K:Params->PySem.W.Frag} {x:Str} (hn:l.most=some 63) (hdf:d.params.defaults=[]) (hr:Room k callerA)
  (hY:∀ (w:World) (h:Heap),YP w h->(K w.params).In h) (hK:∀ w:World,JG (K w.params)=true)
  (F:∀ (w:World) (mg:Str->Option Value) (fa:Addr) (h:Heap),(K w.params).In h->h.Ns mainGlobals mg->mg d.name=some (.ref fa) ->
   ∃ fd:FuncData,(∀ (s:Shared) (u:Value),BindsTo s fd ⟨[u],[]⟩ [(x,u)])/\∀ base:Heap,(K w.params).In base->base.Ns mainGlobals mg->FnOk l.prog w (K w.params) mg base CX0 k fa fd [x] (lSp (K w.params) VU)) :
  PySem.W.WalkO q loose XP YP l.row.toRowW d [] (λf vs=>PySem.call f vs):=
 L2.qaw (n:=63) (k:=k) (x:=x) (CX:=λ_=>CX0) (sp:=λw=>lSp (K w.params) VU) hn (by decide) hdf hr hY F
  (λw H a ns hl hO hS=>⟨[.ref a],only a ns,λt _=>t=.bl true,qaD (XQ (hK w) hO hS),.cons (.ref a) .nil,⟨a,ns,rfl,by simp [only],hl,λ_=>rfl⟩,λt G' e v H' r _ _=>by subst e;cases r;rfl⟩) λ_ _ _ _ _ z=>z
def qby {P:Program} {w:World} {K:Frg} {mg:Str->Option Value} {base:Heap} {x qual:Str} {st:Stmt} {f:Addr} {fd:FuncData} {N ps:List Str} {k:Nat} {sp:Sp3} {t3:TS3} (F:Fun K x qual st f fd) (S:FnScope N ps (qj st))
  (body:∀ (cdv:Value) (A:Around) (outer:List Env) (s:Shared) (H:Hp) (E:XK),Room k (A.deeper (envOfC qual (qj st) s.heap.objs.size f cdv)) ->
   B3 (T7 CX0 P w K mg base N qual (qj st) f cdv A outer s H E).nox (zK st) t3)
  (read:∀ ts G q,sp ts G q->ts.length=ps.length/\t3 { nx:=λ_ G'=>q .non G',rt:=q } (qx N ts) G):FnOk P w K mg base CX0 (k+1) f fd ps (lSp K sp):=by
 refine F.ok S (λvs H Q E ⟨ts,G,q,h1,h2,h3,h4⟩=>by rw [← h2.length];exact (read ts G q h3).1) λcdv A outer s H vs Q E hr ⟨ts,G,q,h1,h2,h3,h4⟩=>?_;refine ⟨_,body cdv A outer s H E hr,qx N ts,G,_,U6 h1 h2,(read ts G q h3).2,⟨λτ' G' h' σ' H' rl' k'=>h4 _ G' h' _ H' .non rl'.hp k',h4,λ_ _ z=>z.elim,λ_ _ z=>z.elim⟩⟩
abbrev eh1 (h:Heap) (o1:Obj):Heap:=h.push o1
abbrev eh2 (h:Heap) (o1:Obj):Heap:=(eh1 h o1).push { cls:=.type "enumerate",data:=.fields #[.none,.bool false,.ref h.objs.size,rawInt 0,.none,.none] }
def XX (c:Addr) (o1:Obj) (ob:Obj) :
  Meets (Builtin.«enumerate.__new__» ⟨[.type "enumerate",.ref c],[]⟩) (λ_ R s=>s.heap.get? c=some ob /\
   (∀ (P:Program) (w:World) (A:Around) (Q:Value->Shared->Prop) (E:Value->Shared->Prop),Q (.ref s.heap.objs.size) { s with heap:=eh1 s.heap o1 }->wpAny (model P w) A (pyIter (.ref c)) Q E s) /\
   R (.ok (.ret (.ref (eh1 s.heap o1).objs.size))) { s with heap:=eh2 s.heap o1 }):=
 .of_wp λprog w A R s h=>by
  obtain ⟨hp,g,d,tk,os⟩:=s;obtain ⟨hl,h1,h⟩:=h;have hsub:=sub_enumerate;have k1:=λA Q E=>h1 prog w A Q E
  wp_walk using wpAny_loadPart' hl
  refine wpAny_stack_any λst=>wpAny_pure ?_;split
  ·rename_i c _ _ _ _ _;cases (c==Value.type "enumerate")
   ·wp_walk using wpAny_loadPart' hl,k1 _ _ _
    exact ⟨_,rfl,h⟩
   ·wp_walk using wpAny_loadPart' hl,k1 _ _ _
    exact ⟨_,rfl,h⟩
  ·wp_walk using wpAny_loadPart' hl,k1 _ _ _
   exact ⟨_,rfl,h⟩
def KR {b:Bool} {c:Addr} {xs:Array Value} {h:Heap} (q:qad b c xs h):∃ o,h.get? c=some o:=by
 cases b
 ·obtain ⟨o,e,_⟩:=(show h.IsTuple c xs from q);exact ⟨o,e⟩
 ·obtain ⟨o,e,_⟩:=(show h.IsList c xs from q);exact ⟨o,e⟩
section
variable {P:Program} {w:World} {A:Around} {s:Shared} {E:Value->Shared->Prop}
def RV {b:Bool} {c:Addr} {xs:Array Value} {Q:Value->Shared->Prop} (h1:qad b c xs s.heap)
  (q:∀ h',IsEnum h' (s.heap.objs.size+1) s.heap.objs.size 0 .none->qer b s.heap.objs.size c 0 h'->(∀ c o,s.heap.get? c=some o->h'.get? c=some o)->Q (.ref (s.heap.objs.size+1)) { s with heap:=h' }) :
  wpAny (model P w) A (call (.type "enumerate") [.ref c]) Q E s:=by
 obtain ⟨ob,hob⟩:=KR h1;refine callType_new F.called_enumerate (by decide) (F.typeCall_enumerate_1 _) (F.newCall_enumerate_1 _) (λobj=>F.args_object_init_2 obj _) F.entry_enumerate_new
  (XX c (DO b c) ob) ⟨hob,λP w A Q E q=>qaH h1 q,?_⟩
 have e1:(eh1 s.heap (DO b c)).objs.size=s.heap.objs.size+1:=Heap.size_push ..;have g2:(eh2 s.heap (DO b c)).get? (eh1 s.heap (DO b c)).objs.size=some _:=Heap.get?_push_size _ rfl;have g1:(eh2 s.heap (DO b c)).get? s.heap.objs.size=some (DO b c):=Heap.get?_push_of_some _ (Heap.get?_push_size _ rfl);show _/\_;rw [e1] at g2 ⊢;refine ⟨⟨_,g2,rfl⟩,q _ g2 ?_ λc o e=>Heap.get?_push_of_some _ (Heap.get?_push_of_some _ e)⟩;cases b<;>exact ⟨_,g1,rfl,rfl⟩
end
def LY {P:Program} {w:World} {A:Around} (hh:A.handled=none) (b:Bool) (it c:Addr) (hne:c≠it) (xs:Array Value) :
  Draws P w A it [it,c] xs.size (λi v=>xs[i]?=some v) (λi h=>qer b it c i h/\qad b c xs h) where
 live:=λi h st=>let ⟨o,e,_⟩:=(QE (P:=P) (w:=w) b it c).obj st.1;⟨o,e⟩
 frame:=λi h h' st hk=>⟨(QE (P:=P) (w:=w) b it c).keep st.1 λo e=>hk it (by simp) o e,(QE (P:=P) (w:=w) b it c).hkeep st.2 λo e=>hk c (by simp) o e⟩
 item:=λi s Q E hi st hQ=>by
  refine (QE (P:=P) (w:=w) b it c).item st.1 st.2 (x:=xs[i]) (by simp [hi]) λh' st' sb=>?_;exact hQ _ h' s.toks (by simp [hi]) ⟨st',(QE (P:=P) (w:=w) b it c).hkeep st.2 λo e=>(sb.2 c hne).trans e⟩ sb
 done:=λs Q E st hE=>(QE (P:=P) (w:=w) b it c).done hh st.1 st.2 (by simp) hE
def UE {P:Program} {w:World} {A:Around} {s:Shared} {E:Value->Shared->Prop} {b:Bool} {e it c:Addr} {i:Nat} {xs:Array Value} {old:Value} {Q:Option Value->Shared->Prop} (hh:A.handled=none) (he:IsEnum s.heap e it i old) (p1:qer b it c i s.heap) (l1:qad b c xs s.heap) (hx:xs[i]?=none)
  (hQ:∀ h',Heap.ExtBut it s.heap h'->Q none { s with heap:=h' }):wpAny (model P w) A (pyNext (.ref e)) Q E s:=by
 have hT:s.TypeIs (.ref e) "enumerate" := ⟨_,he,rfl⟩
 unfold pyNext;refine wpAny_bind (wpAny_attempt (wpAny_callSpecial?_slot (name:=Str.ofString "__next__") hT F.slot_enumerate_next
  (wpAny_call_entry F.slot_enumerate_next hT F.entry_enumerate_next ?_ (F.args_enumerate_next_1 _))))
 show wpAny _ _ (field (.ref e) 2 >>= _) _ _ _;refine wpAny_bind (wpAny_field he rfl (x:=.ref it) rfl ?_);refine wpAny_bind ((QE (P:=P) (w:=w) b it c).done (show A.in1.handled=none from hh) p1 l1 hx λh' x he' hx'=>?_);obtain ⟨o,ho,hc⟩:=hx';refine wpAny_bind (wpAny_isInstance (T:="StopIteration") (b:=true) ⟨o,ho,hc⟩ isSubtype_stop ?_);exact wpAny_pure (hQ _ he')
def Ite (K:Frg) (b:Bool) (c:Addr):It:=
  ⟨λi H=>∃ xs x,SqB K b H c xs/\xs[i]?=some x,
   λi H v H'=>∃ p x,H p=none/\v=.ref p/\H'=upd H p (.tup [.int i,x])/\(∀ xs,SqB K b H c xs->xs[i]?=some x),
   λi H=>∃ xs,SqB K b H c xs/\xs.length<=i⟩
def qdn (b:Bool) (e it c:Addr) (k:Nat) (h:Heap):Prop:=(∃ old,IsEnum h e it k old)/\qer b it c k h
def RI {P:Program} {w:World} {K:Frg} {es:List Expr} {k1:Nat} {pt:Pos} {b:Bool} {e it c:Addr} (n1:e≠it) (n2:c≠e) (n3:c≠it):Turn P w K (.Tuple es k1 pt) (Ite K b c) [e,it] e (qdn b e it c) where
 mem:=by simp
 obj:=λi h ⟨⟨old,he⟩,p1⟩ d hd=>by
  simp only [mem_cons,not_mem_nil,or_false] at hd;rcases hd with rfl|rfl
  ·exact ⟨_,he,λv q=>by cases q⟩
  ·exact (QE (P:=P) (w:=w) b d c).obj p1
 keep:=λi h h' ⟨⟨old,he⟩,p1⟩ k=>⟨⟨old,k e (by simp) _ he⟩,(QE (P:=P) (w:=w) b it c).keep p1 λo e=>k it (by simp) o e⟩
 item:=by
  intro X hP hw hK hc i pins s σ H E I hf st hg;subst hP hw hK;obtain ⟨xs,x,sq,hx⟩:=hg;obtain ⟨its,rv,l1,z1⟩:=sq.get I;obtain ⟨u,hu,ru⟩:=rv.get hx;obtain ⟨⟨old,he⟩,p1⟩:=st;have hil:i<its.toArray.size:=by have:=(List.getElem?_eq_some_iff.mp hu).1;simpa using this
  refine wpAny_pyNext_enum_itemD (LY (show X.A.in1.handled=none from I.ok.hd hc) b it c n3 its.toArray) he ⟨p1,l1⟩ hil n1 (by simp only [mem_cons,not_mem_nil,or_false,not_or];exact ⟨n1,Ne.symm n2⟩) λy h' tk hy ho st' ht hsz hk=>?_;have hy':y=u:=by
   have:its.toArray[i]?=some u:=by simpa using hu
   rw [this] at hy;exact (Option.some.inj hy).symm
  subst hy';have hfr:H s.heap.objs.size=none:=I.fresh;have free:∀ b∈[e,it],H b=none:=λb hb=>(hf b hb).1;refine ⟨_,rfl,wpAny_letOwnedTupleGo_enum ho λh2 hz2 s2=>?_⟩;have elt:e<s.heap.objs.size:=Heap.lt_size he;have hp2:h2.get? s.heap.objs.size=some { cls:=.type "tuple",data:=.seq #[.int i tk,y] }:=(s2.2 _ (Nat.ne_of_gt elt)).trans ht;have up:∀ c o,c≠e->h'.get? c=some o->h2.get? c=some o:=λc o hc e=>(s2.2 c hc).trans e;have kk:∀ c o,c∉[e,it]->s.heap.get? c=some o->h2.get? c=some o:=λc o hc q=>by
   simp only [mem_cons,not_mem_nil,or_false,not_or] at hc;exact up c o hc.1 (hk c o hc.1 hc.2 q)
  have I3:Inv X pins σ (upd H s.heap.objs.size (.tup [.int i,x])) { s with heap:=h2,toks:=tk+1 }:=by
   refine I.step (g':=s.gens) (d':=s.drawn) (t':=tk+1) (ch:=[e,it]) (λb hb=>?_) (λb o _ _ hcb e _=>kk b o hcb e) (λb o _ _ hcb e _=>⟨o.slots,kk b o hcb e⟩) (λb o _ e n=>by rw [qB (Nat.ne_of_lt (Heap.lt_size e))];exact n) (λb o hcb e=>⟨o,kk b o hcb e⟩)
    (λb _ e=>by rw [qB (qw e hfr)];exact e) (λb _ _ e=>by rw [qB (qw e hfr)];exact e) (λb ps e=>⟨#[],by rw [qB (qw e hfr),e];simp⟩) (λm hm=>?_) (λb u e=>?_) I.bare
   ·obtain ⟨f0,f1,f2,f3,f4,f5⟩:=hf b hb;exact ⟨f3,f1,f4,f5⟩
   ·obtain ⟨o,es',ep,ho',r⟩:=hm;refine ⟨o,es',ep,kk _ o (λq=>?_) ho',r⟩;obtain ⟨f0,f1,_⟩:=hf X.env.locals q;exact f1 rfl
   ·by_cases hb:b=s.heap.objs.size
    ·subst hb;rw [za] at e;cases e;exact ⟨by show 2<=sizeLine;decide,[.int i tk,y],.cons ⟨tk,rfl⟩ (.cons ru .nil),⟨_,hp2,rfl,_,rfl⟩⟩
    ·rw [qB hb] at e;refine (I.hok b u e).stay (λc v hcb q=>kk c v (λm=>?_) q) (λ_ q=>by rw [qB (qw q hfr)];exact q) λ_ _ q=>by rw [qB (qw q hfr)];exact q
     have hn:=free c m;rcases hcb with q|q
     ·rw [q] at hn;rw [hn] at e;cases e
     ·rw [hn] at q;cases q
  refine ⟨.ref s.heap.objs.size,_,I3,rfl,⟨_,x,hfr,rfl,rfl,λzs q=>by rw [q.inj I sq];exact hx⟩,⟨⟨_,by push_cast;exact hz2⟩,(QE (P:=X.prog) (w:=X.w) b it c).keep st'.1 λo e=>up _ o (Ne.symm n1) e⟩,λb hb=>?_⟩;rw [qB (λq=>?_)]
  ·exact free b hb
  ·subst q;simp only [mem_cons,not_mem_nil,or_false] at hb;rcases hb with q|q
   ·exact absurd q (Nat.ne_of_gt elt)
   ·obtain ⟨o,e,_⟩:=(QE (P:=X.prog) (w:=X.w) b it c).obj p1;exact absurd q (Nat.ne_of_gt (Heap.lt_size e))
 done:=by
  intro X hP hw hK hc i pins s σ H E I hf st hg;subst hP hw hK;obtain ⟨xs,sq,hend⟩:=hg;obtain ⟨its,rv,l1,z1⟩:=sq.get I;obtain ⟨⟨old,he⟩,p1⟩:=st;have e1:=rv.length;have free:∀ b∈[e,it],H b=none:=λb hb=>(hf b hb).1;refine UE (I.ok.hd hc) he p1 l1 (by simp;omega) λh' hk0=>⟨rfl,?_⟩
  have hk:∀ c o,c∉[e,it]->s.heap.get? c=some o->h'.get? c=some o:=λc o hcb q=>hk0 c o (by simp only [mem_cons,not_mem_nil,or_false,not_or] at hcb;exact hcb.2) q;refine I.step (g':=s.gens) (d':=s.drawn) (t':=s.toks) (ch:=[e,it]) (λb hb=>?_) (λb o _ _ hcb e _=>hk b o hcb e) (λb o _ _ hcb e _=>⟨o.slots,hk b o hcb e⟩) (λ_ _ _ _ n=>n) (λb o hcb e=>⟨o,hk b o hcb e⟩) (λ_ _ e=>e) (λ_ _ _ e=>e) (λb ps e=>⟨#[],by rw [e];simp⟩) (λm hm=>?_) (λb u e=>?_) I.bare
  ·obtain ⟨f0,f1,f2,f3,f4,f5⟩:=hf b hb;exact ⟨f3,f1,f4,f5⟩
  ·obtain ⟨o,es',ep,ho',r⟩:=hm;refine ⟨o,es',ep,hk _ o (λq=>?_) ho',r⟩;obtain ⟨f0,f1,_⟩:=hf X.env.locals q;exact f1 rfl
  ·refine (I.hok b u e).stay (λc v hcb q=>hk c v (λm=>?_) q) (λ_ q=>q) λ_ _ q=>q;have hn:=free c m;rcases hcb with q|q
   ·rw [q] at hn;rw [hn] at e;cases e
   ·rw [hn] at q;cases q
 self:=λA i s Q E st h=>let ⟨⟨old,he⟩,_⟩:=st;wpAny_pyIter_enum he h
section
variable {X:Cx} {a b e l:Expr} {es:List Expr} {pos:Pos}
def qav {p pt:Pos} {k1:Nat} {ta:TA} (hg:Gl X "enumerate") (hm:X.mg "enumerate" = none) (ha:PA X [a] ta) (hs:starEach [a] X.env=[(false,eval a X.env)]:=by rfl) :
  PI X (.Tuple es k1 pt) (.Call (.Name "enumerate" p) [a] [] pos) (λσ H R=>ta σ H λvs H1=>∃ b1 c1 xs,vs=[.ref c1]/\SqB X.K b1 H1 c1 xs/\R (Ite X.K b1 c1) H1):=by
 intro pins s σ H R I h;refine Call_ (YR I hg hm PyProof.Rows.boot_enumerate (PyProof.Rows.callWith_type1 (thn (ha pos pins s σ H _ I h) λus s1 ⟨vs,H1,I1,r1,q1⟩=>?_) (by rw [hs];rfl) (by rfl)));obtain ⟨b1,c1,xs,rfl,sq1,q⟩:=q1;obtain ⟨u1,rfl,e1⟩:=YE r1;cases (show u1=Value.ref c1 from e1);obtain ⟨its1,rv1,l1,z1⟩:=sq1.get I1;refine RV l1 λh' he hit hk=>wpAny_pyIter_enum he ?_;have lt:=qgq l1;have ne3:∀ n c:Nat,c<n->n+1≠n/\c≠n+1/\c≠n:=λn c h=>by omega
 obtain ⟨m1,m2,m3⟩:=ne3 _ _ lt;refine ⟨s1.heap.objs.size+1,[s1.heap.objs.size+1,s1.heap.objs.size],_,_,H1,rfl,I1.kept (t':=s1.toks) hk,RI m1 m2 m3,⟨⟨_,he⟩,hit⟩,λc hc=>?_,q⟩;have hle:s1.heap.objs.size<=c:=by
  simp only [mem_cons,not_mem_nil,or_false] at hc;rcases hc with rfl|rfl<;>first|exact Nat.le_refl _|exact Nat.le_add_right _ _
 exact I1.fpOk hle (I1.hok.fresh hle)
end
def jd (k:Nat):List T->List T
 |[]=>[]
 |x::r=>.tup [.int (k:Int),x]::jd (k+1) r
def KD (us:List T):List T:=jd 0 us
def JO:∀ {us:List T} {k i:Nat} {x:T},(jd k us)[i]?=some x->∃ a,us[i]?=some a/\x=.tup [.int ((k+i:Nat):Int),a]
 |[],_,_,_,h=>by simp [jd] at h
 |u::us,k,0,x,h=>by simp [jd] at h;exact ⟨u,rfl,by simp [← h]⟩
 |u::us,k,i+1,x,h=>by
  simp [jd] at h;obtain ⟨a,ha,hx⟩:=JO h;exact ⟨a,by simpa using ha,by rw [hx];congr 4;omega⟩
def JN:∀ (us:List T) (k:Nat),(jd k us).length=us.length
 |[],_=>rfl
 |u::us,k=>by simp [jd,JN us]
def TX (us:List T):(KD us).length=us.length:=JN us 0
def ET {us:List T} {i:Nat} {x:T} (h:(KD us)[i]?=some x):∃ a,us[i]?=some a/\x=.tup [.int (i:Int),a]:=by
 obtain ⟨a,ha,hx⟩:=JO h;exact ⟨a,ha,by rw [hx];congr 4;omega⟩
def qcu {K:Frg} {b1:Bool} {c1:Addr} {x:T} {us:List T} {G0:Gp} {H0:Hp}
  (f1:∀ G H,HR K G H->Kp G0 H0 G H->Z0 G x=some us->∃ vs,SqB K b1 H c1 vs/\Rps K H us vs) :
  qdP K (Ite K b1 c1) (KD us) (λG=>Z0 G x=some us) G0 H0:=by
 intro G H hr k h1;obtain ⟨p,sp,rp⟩:=f1 G H hr k h1;refine ⟨λi z hz=>?_,λi z v H' hz hy=>?_,⟨p,sp,?_⟩⟩
 ·obtain ⟨a,ha,_⟩:=ET hz;obtain ⟨v,hv,_⟩:=rp.get ha;exact ⟨p,v,sp,hv⟩
 ·obtain ⟨a,ha,rfl⟩:=ET hz;obtain ⟨t,v1,ht,rfl,rfl,g1⟩:=hy;obtain ⟨v,hv,rv⟩:=rp.get ha;have e1:=(g1 p sp).symm.trans hv;obtain rfl:v1=v:=Option.some.inj e1;have kk:Kp G H G (upd H t (.tup [.int i,v1])):=Kp.laid ht;exact ⟨.tup (SqT.of za) (.cons (.int _) (.cons (rv.keep hr kk) .nil)),hr.laid ht,kk⟩
 ·rw [← rp.length,TX];exact Nat.le_refl _
def WN (ta:TA3):TI3:=λτ G r=>ta τ G λxs G1=>match xs with
 |[x]=>(match Z0 G1 x with|some us=>r (KD us) (λG=>Z0 G x=some us) G1|_=>False)
 |_=>False
section
variable {X:Cx} {a b e l:Expr} {es:List Expr} {pos:Pos} {t:TA3}
def qdd {p pt:Pos} {k1:Nat} (hg:Gl X "enumerate") (hm:X.mg "enumerate" = none) (ha:A3 X [a] t) (hs:starEach [a] X.env=[(false,eval a X.env)]:=by rfl) :
  I3 X (.Tuple es k1 pt) (.Call (.Name "enumerate" p) [a] [] pos) (WN t):=
 qgb (qav hg hm ha hs) λσ H R ⟨τ,G,r,rl,h,af⟩=>ZE rl h λxs G1 h1 vs H1 rs hr1 k1 rl1=>by
  split at h1
  ·rename_i x;split at h1
   ·rename_i us e1;obtain ⟨v,rfl,r1⟩:=EY rs;obtain ⟨b1,c1,rfl,f1⟩:=qdv hr1 r1 e1;obtain ⟨p,sp,_⟩:=f1 G1 H1 hr1 Kp.refl e1;exact ⟨b1,c1,p,rfl,sp,af _ _ G1 h1 _ H1 hr1 k1 (qcu f1)⟩
   ·exact h1.elim
  ·exact h1.elim
end
section
variable {X:Cx} {a b c e:Expr} {es:List Expr} {ta tb tc te:TE3} {t:TA3} {pos:Pos}
def U3:List T->Option (List Int)
 |[]=>some []
 |.int i::r=>(match U3 r with|some ns=>some (i::ns)|none=>none)
 |_=>none
def EN (ns:List Int):U3 (ns.map T.int)=some ns:=by
 induction ns with
 |nil=>rfl
 |cons n r ih=>simp [U3,ih]
def UM:∀ {xs:List T} {ns:List Int},U3 xs=some ns->xs=ns.map T.int
 |[],_,h=>by simp [U3] at h;subst h;rfl
 |x::r,ns,h=>by
  unfold U3 at h;split at h
  ·rename_i e;cases e
  ·rename_i i r' e;cases e;split at h
   ·rename_i ms e2;cases h;rw [UM e2];rfl
   ·cases h
  ·cases h
def UA {K:Frg} {H:Hp}:∀ {ns:List Int} {vs:List V},Rps K H (ns.map T.int) vs->vs=ns.map V.int
 |[],_,r=>by cases r;rfl
 |n::ns,_,r=>by
  cases r with
  |cons a b=>cases a;rw [UA b];rfl
end
section
variable {X:Cx}
end
end L3
set_option autoImplicit true
namespace L3
open PySem PySem.Spec PyProof.Rows L2
structure jE3 (X:Cx) (e:Expr) (t:TE3):Prop where h:E3 X e t
structure jC3 (X:Cx) (e:Expr) (t:TT3):Prop where h:C3 X e t
structure jW3 (X:Cx) (e:Expr) (t:TT3):Prop where h:W3 X e t
structure jA3 (X:Cx) (e:List Expr) (t:TA3):Prop where h:A3 X e t
structure jP3 (X:Cx) (e:Option Expr) (t:TO3):Prop where h:P3 X e t
structure jS3 (X:Cx) (e:Stmt) (t:TS3):Prop where h:S3 X e t
structure jB3 (X:Cx) (e:List Stmt) (t:TS3):Prop where h:B3 X e t
structure jG3 (X:Cx) (e:Expr) (t:TG3):Prop where h:G3 X e t
structure jGs3 (X:Cx) (e:List Expr) (t:EW):Prop where h:Gs3 X e t
structure jI3 (X:Cx) (tg e:Expr) (t:TI3):Prop where h:I3 X tg e t
structure jF3 (X:Cx) (e:List Expr) (t:TT3):Prop where h:F3 X e t
def qb {X:Cx} (i:Nat) {x:Str} {pos:Pos} (hN:X.N[i]?=some x:=by rfl) (hv:Vis X.env.scope x:=by first|exact Or.inl rfl|exact Or.inr (Or.inl rfl)|exact Or.inr (Or.inr rfl)) (hd:(x==("__debug__" : Str))=false:=by decide)
  (hcd:(x==("__classdict__" : Str))=false:=by decide):jE3 X (.Name x pos) (v3 i):=
 ⟨qgk (i:=i) (hN:=hN) (hv:=hv) (hd:=hd) (hcd:=hcd)⟩
def qd {X:Cx} {i:Int} {j pos}:jE3 X (.Constant (.int i) j pos) (c3 (.int i)):=
 ⟨qgv ⟩
def JL {X:Cx} {b:Bool} {j pos}:jE3 X (.Constant (.bool b) j pos) (c3 (.bl b)):=
 ⟨qhf ⟩
def NA {X:Cx} {j pos}:jE3 X (.Constant .none j pos) (c3 .non):=
 ⟨qf6 ⟩
def qC {X:Cx} {x:Str} {j pos}:jE3 X (.Constant (.str x) j pos) (c3 (.str x)):=
 ⟨qfc ⟩
def zF {ta:TE3} {tb:TE3} {pos:Pos} {a:Expr} {b:Expr} {X:Cx} {op:CmpOp} {r3:R3} {r:R2} (ho:OpR X (compareOp op) r) (hr:DK X.K r3 r) (ha:jE3 X a ta) (hb:jE3 X b tb) (hm:behindInMarks op b=false):jE3 X (.Compare a [op] [b] pos) (o3 r3 ta tb):=
 ⟨qfz (ho:=ho) (hr:=hr) (ha:=ha.h) (hb:=hb.h) (hm:=hm)⟩
def qQ {ta:TE3} {tb:TE3} {pos:Pos} {a:Expr} {b:Expr} {X:Cx} {op:CmpOp} {r3:R3} {r:R2} (ho:OpR X (compareOp op) r) (hr:DK X.K r3 r) (ha:jE3 X a ta) (hb:jE3 X b tb) (hm:behindInMarks op b=false):jC3 X (.Compare a [op] [b] pos) (tb3 (o3 r3 ta tb)):=
 ⟨qfH (ho:=ho) (hr:=hr) (ha:=ha.h) (hb:=hb.h) (hm:=hm)⟩
def EF {ta:TE3} {tb:TE3} {pos:Pos} {a:Expr} {b:Expr} {X:Cx} (ha:jE3 X a ta) (hb:jE3 X b tb):jE3 X (.BinOp a .Sub b pos) (o3 (iI (·-·)) ta tb):=
 ⟨qft (ha:=ha.h) (hb:=hb.h)⟩
def Q2 {ta:TE3} {tb:TE3} {pos:Pos} {a:Expr} {b:Expr} {X:Cx} (ha:jE3 X a ta) (hb:jE3 X b tb):jE3 X (.BinOp a .Mult b pos) (o3 (iC EQ (·*·)) ta tb):=
 ⟨qfJ (ha:=ha.h) (hb:=hb.h)⟩
def U9 {ta:TE3} {tb:TE3} {pos:Pos} {a:Expr} {b:Expr} {X:Cx} (ha:jE3 X a ta) (hb:jE3 X b tb):jE3 X (.BinOp a .Mod b pos) (o3 (iC (λ_ j=>0<j) (·%·)) ta tb):=
 ⟨qgd (ha:=ha.h) (hb:=hb.h)⟩
def TZ {ta:TE3} {tb:TE3} {pos:Pos} {a:Expr} {b:Expr} {X:Cx} (ha:jE3 X a ta) (hb:jE3 X b tb):jE3 X (.BinOp a .FloorDiv b pos) (o3 (iC qbE (·/·)) ta tb):=
 ⟨qf0 (ha:=ha.h) (hb:=hb.h)⟩
def qan {ta:TE3} {tb:TE3} {pos:Pos} {a:Expr} {b:Expr} {X:Cx} (ha:jE3 X a ta) (hb:jE3 X b tb):jE3 X (.BinOp a .Pow b pos) (o3 (iC KY (λi j=>i ^ j.toNat)) ta tb):=
 ⟨qfR (ha:=ha.h) (hb:=hb.h)⟩
def SJ {ta:TE3} {pos:Pos} {a:Expr} {X:Cx} (ha:jE3 X a ta):jE3 X (.UnaryOp .USub a pos) (u3 qbe ta):=
 ⟨qfY (ha:=ha.h)⟩
def YA {tA:TT3} {pos:Pos} {a:Expr} {X:Cx} (ha:jC3 X a tA):jW3 X (.BoolOp .Or [a] pos) tA:=
 ⟨qf2 (ha:=ha.h)⟩
def ZD {je:List Expr} {tA:TT3} {tB:TT3} {pos:Pos} {a:Expr} {X:Cx} (ha:jC3 X a tA) (hb:jW3 X (.BoolOp .Or (b::je) pos) tB):jW3 X (.BoolOp .Or (a::b::je) pos) (or3 tA tB):=
 ⟨qhi (ha:=ha.h) (hb:=hb.h)⟩
def jY {tA:TT3} {pos:Pos} {a:Expr} {X:Cx} (ha:jC3 X a tA):jC3 X (.UnaryOp .Not a pos) (EI tA):=
 ⟨qe5 (ha:=ha.h)⟩
def jW {X:Cx} {e:Expr} {t:TE3} (h:jE3 X e t) (he:∀ whole,isTrue e X.env whole=(do let v←whole;standAt e.pos;holding [v] (truthy v)):=by intro _;rfl):jC3 X e (tb3 t):=
 ⟨qgl (h:=h.h) (he:=he)⟩
def zZ {ta:TE3} {pos:Pos} {a:Expr} {X:Cx} {op} (h:jE3 X a ta):jE3 X (.BoolOp op [a] pos) ta:=
 ⟨qfA (h:=h.h)⟩
def zI {je:List Expr} {ta:TE3} {tb:TE3} {pos:Pos} {a:Expr} {X:Cx} (ha:jE3 X a ta) (hb:jE3 X (.BoolOp .And (b::je) pos) tb):jE3 X (.BoolOp .And (a::b::je) pos) (jc ta tb):=
 ⟨qgs (ha:=ha.h) (hb:=hb.h)⟩
def qbF {je:List Expr} {ta:TE3} {tb:TE3} {pos:Pos} {a:Expr} {X:Cx} (ha:jE3 X a ta) (hb:jE3 X (.BoolOp .Or (b::je) pos) tb):jE3 X (.BoolOp .Or (a::b::je) pos) (qcX ta tb):=
 ⟨qhI (ha:=ha.h) (hb:=hb.h)⟩
def qah {ta:TE3} {pos:Pos} {a:Expr} {X:Cx} (ha:jE3 X a ta):jE3 X (.UnaryOp .Not a pos) (L0 ta):=
 ⟨qfg (ha:=ha.h)⟩
def qca {tA:TT3} {ta:TE3} {tb:TE3} {pos:Pos} {a:Expr} {b:Expr} {X:Cx} {c:Expr} (hc:jC3 X c tA) (ha:jE3 X a ta) (hb:jE3 X b tb):jE3 X (.IfExp c a b pos) (if3 tA ta tb):=
 ⟨qhj (hc:=hc.h) (ha:=ha.h) (hb:=hb.h)⟩
def qe {X:Cx} :jA3 X [] qp:=
 ⟨qe0 ⟩
def qa {te:TE3} {t:TA3} {es:List Expr} {X:Cx} (ha:jE3 X e te) (hr:jA3 X es t) (hs:starEach (e::es) X.env=(false,eval e X.env)::starEach es X.env:=by rfl):jA3 X (e::es) (qc te t):=
 ⟨qdz (ha:=ha.h) (hr:=hr.h) (hs:=hs)⟩
def qU {t:TA3} {pos:Pos} {es:List Expr} {X:Cx} {x1} (h:jA3 X es t):jE3 X (.Tuple es x1 pos) (j0 t):=
 ⟨qgr (h:=h.h)⟩
def jX {t:TA3} {pos:Pos} {es:List Expr} {X:Cx} (h:jA3 X es t):jE3 X (.List es pos) (VF t):=
 ⟨qfm (h:=h.h)⟩
def qA {t:TA3} {pos:Pos} {es:List Expr} {X:Cx} {x:Str} {p:Pos} {id:String} {r3:List T->Gp->Q3->Prop} {r:List V->Hp->VK->Prop} (hc:QB X (.builtin id) r) (hr:W8 X.K r3 r) (hg:Gl X x) (hm:X.mg x=none) (hv:bootBuiltins x=some (.builtin id)) (ha:jA3 X (e::es) t) (hn:x≠"__name__" := by decide) (hdb:(x==("__debug__" : Str))=false:=by decide)
  (he:starEach (e::es) X.env=(false,eval e X.env)::starEach es X.env:=by rfl) (hpl:(backTo pos (starEach es X.env)).any (·.1)=false:=by rfl):jE3 X (.Call (.Name x p) (e::es) [] pos) (cb3 r3 t):=
 ⟨qbv (hc:=hc) (hr:=hr) (hg:=hg) (hm:=hm) (hv:=hv) (ha:=ha.h) (hn:=hn) (hdb:=hdb) (he:=he) (hpl:=hpl)⟩
def zD {t:TA3} {pos:Pos} {es:List Expr} {X:Cx} {x:Str} {p:Pos} {ty:String} {r3:List T->Gp->Q3->Prop} {r:List V->Hp->VK->Prop} (hc:QB X (.type ty) r) (hr:W8 X.K r3 r) (hg:Gl X x) (hm:X.mg x=none) (hv:bootBuiltins x=some (.type ty)) (ha:jA3 X (e::es) t) (hn:x≠"__name__" := by decide) (hdb:(x==("__debug__" : Str))=false:=by decide)
  (he:starEach (e::es) X.env=(false,eval e X.env)::starEach es X.env:=by rfl) (hpl:(backTo pos (starEach es X.env)).any (·.1)=false:=by rfl):jE3 X (.Call (.Name x p) (e::es) [] pos) (cb3 r3 t):=
 ⟨K1 (hc:=hc) (hr:=hr) (hg:=hg) (hm:=hm) (hv:=hv) (ha:=ha.h) (hn:=hn) (hdb:=hdb) (he:=he) (hpl:=hpl)⟩
def qz {ta:TE3} {tb:TE3} {pos:Pos} {a:Expr} {b:Expr} {X:Cx} (ha:jE3 X a ta) (hb:jE3 X b tb) (hs:DG b:=by intro _ _;rfl):jE3 X (.Subscript a b pos) (o3 ix3 ta tb):=
 ⟨qhk (ha:=ha.h) (hb:=hb.h) (hs:=hs)⟩
def qT {X:Cx} :jP3 X none np3:=
 ⟨qcF ⟩
def qS {te:TE3} {e:Expr} {X:Cx} (h:jE3 X e te):jP3 X (some e) (sp3 te):=
 ⟨qbQ (h:=h.h)⟩
def QK {te:TE3} {pos:Pos} {e:Expr} {X:Cx} {lo hi:Option Expr} {tl th:TO3} {p2:Pos} (he:jE3 X e te) (hl:jP3 X lo tl) (hu:jP3 X hi th):jE3 X (.Subscript e (.Slice lo hi none p2) pos) (LM te tl th):=
 ⟨qaA (he:=he.h) (hl:=hl.h) (hu:=hu.h)⟩
def zy {ta:TE3} {tb:TE3} {pos:Pos} {a:Expr} {b:Expr} {X:Cx} (ha:jE3 X a ta) (hb:jE3 X b tb):jE3 X (.BinOp a .Add b pos) (o3 j3 ta tb):=
 ⟨qbN (ha:=ha.h) (hb:=hb.h)⟩
def TB {t:TA3} {e:Expr} {X:Cx} {o:Expr} {to:TE3} {apos cpos:Pos} (ho:jE3 X o to) (ha:jA3 X [e] t)
  (hbase:attributeBase o "append" X.env (eval o X.env)=eval o X.env:=by rfl)
  (hfew:((backTo cpos (starEach [e] X.env)).all (λx=>!x.1)&&(backToKw cpos (keywordEach [] X.env)).all (λx=>x.1.isSome)
   && decide (([e]:List Expr).length+([]:List Keyword).length+(if ([]:List Keyword).isEmpty then 0 else 1)<30))=true:=by rfl)
  (hline:(apos.endLine==cpos.line)=true:=by rfl) (hs:starEach [e] X.env=(false,eval e X.env)::starEach [] X.env:=by rfl) (hplain:(backTo cpos (starEach [] X.env)).any (·.1)=false:=by rfl):jE3 X (.Call (.Attribute o "append" apos) [e] [] cpos) (bm3 qbz to t):=
 ⟨K2 (ho:=ho.h) (ha:=ha.h) (hbase:=hbase) (hfew:=hfew) (hline:=hline) (hs:=hs) (hplain:=hplain)⟩
def jG {te:TE3} {pos:Pos} {e:Expr} {X:Cx} {tn:Str} {ty:String} {p p2:Pos} (he:jE3 X e te) (hg:Gl X "isinstance") (hm:X.mg "isinstance" = none) (hg2:Gl X tn) (hm2:X.mg tn=none) (hv:bootBuiltins tn=some (.type ty)) (hmem:ty∈DI:=by decide) (hn:tn≠"__name__" := by decide) (hdb:(tn==("__debug__" : Str))=false:=by decide)
  (hs:starEach [e,.Name tn p2] X.env=(false,eval e X.env)::starEach [.Name tn p2] X.env:=by rfl) (hs2:starEach [.Name tn p2] X.env=(false,eval (.Name tn p2) X.env)::starEach [] X.env:=by rfl) (hpl:(backTo pos (starEach [.Name tn p2] X.env)).any (·.1)=false:=by rfl):jE3 X (.Call (.Name "isinstance" p) [e,.Name tn p2] [] pos) (DT (λt=>ja t ty) te):=
 ⟨qfy (he:=he.h) (hg:=hg) (hm:=hm) (hg2:=hg2) (hm2:=hm2) (hv:=hv) (hmem:=hmem) (hn:=hn) (hdb:=hdb) (hs:=hs) (hs2:=hs2) (hpl:=hpl)⟩
def qZ {X:Cx} :jB3 X [] qV:=
 ⟨qff ⟩
def qh {je:List Stmt} {st:Stmt} {t1:TS3} {t2:TS3} {X:Cx} (h1:jS3 X st t1) (h2:jB3 X je t2):jB3 X (st::je) (zi t1 t2):=
 ⟨qes (h1:=h1.h) (h2:=h2.h)⟩
def qq {st:Stmt} {t1:TS3} {X:Cx} (h1:jS3 X st t1):jB3 X [st] t1:=
 ⟨qfM (h1:=h1.h)⟩
def qay {te:TE3} {pos:Pos} {e:Expr} {X:Cx} (he:jE3 X e te) (hs:swapsWith e none pos.line X.env=pure false:=by rfl):jS3 X (.Expr e pos) (LK te):=
 ⟨qec (he:=he.h) (hs:=hs)⟩
def qt {te:TE3} {pos:Pos} {e:Expr} {X:Cx} (he:jE3 X e te):jS3 X (.Return (some e) pos) (zw te):=
 ⟨qfx (he:=he.h)⟩
def z6 {tA:TT3} {t1:TS3} {t2:TS3} {pos:Pos} {X:Cx} {c:Expr} {ba bb:List Stmt} (hc:jC3 X c tA) (ha:jB3 X ba t1) (hb:jB3 X bb t2):jS3 X (.If c ba bb pos) (jI tA t1 t2):=
 ⟨qhs (hc:=hc.h) (ha:=ha.h) (hb:=hb.h)⟩
def JI {pos:Pos} {X:Cx} {i:Nat} {x:Str} (hN:X.N.Nodup) (hi:X.N[i]?=some x:=by rfl) (hx:Loc X.env.scope x:=by first|exact Or.inl rfl|exact Or.inr rfl) (hf:X.fn x=true\/X.env.scope.names.lookup x=some .local:=by first|exact .inl rfl|exact .inr rfl):jG3 X (.Name x pos) (gn3 i):=
 ⟨qdV (hN:=hN) (hi:=hi) (hx:=hx) (hf:=hf)⟩
def qbZ {X:Cx} :jGs3 X [] K7:=
 ⟨qfF ⟩
def S5 {es:List Expr} {X:Cx} {tg:TG3} {tgs:EW} (h1:jG3 X e tg) (h2:jGs3 X es tgs) (hs:(assignEach (e::es) X.env).map (·.2)=assign e X.env::(assignEach es X.env).map (·.2):=by rfl):jGs3 X (e::es) (UY tg tgs):=
 ⟨qdw (h1:=h1.h) (h2:=h2.h) (hs:=hs)⟩
def qeJ {pos:Pos} {es:List Expr} {X:Cx} {k:Nat} {tgs:EW} {n:Nat} (hc:X.calm=true) (h:jGs3 X es tgs) (hn:(assignEach es X.env).length=n:=by rfl) (hst:(assignEach es X.env).findIdx? (·.1)=none:=by rfl):jG3 X (.Tuple es k pos) (LA n tgs):=
 ⟨qfV (hc:=hc) (h:=h.h) (hn:=hn) (hst:=hst)⟩
def MF {pos : Pos} {X : Cx} {o i : Expr} {to ti : TE3} (ho : jE3 X o to) (hi : jE3 X i ti) (ha : ∀ v,assign (.Subscript o i pos) X.env v = (do
      let ov←holding [v] (eval o X.env)
      let iv←holding [v,ov] (eval i X.env)
      standAt pos
      holding [v,ov,iv] (setItem ov iv v)
      release [v,ov,iv] []):=by intro _;rfl):jG3 X (.Subscript o i pos) (V5 to ti):=
  ⟨qgn (ho:=ho.h) (hi:=hi.h) (ha:=ha)⟩
def NB {te:TE3} {pos:Pos} {X:Cx} {tg e:Expr} {g:TG3} (he:jE3 X e te) (hg:jG3 X tg g) (hs:swapsWithSole [tg] e pos.line X.env=pure false:=by rfl) (hw:swappedStores [tg] e X.env=pure none:=by rfl)
  (h1:(assignEach [tg] X.env).map (·.2)=[assign tg X.env]:=by rfl):jS3 X (.Assign [tg] e pos) (jo te g):=
 ⟨qfd (he:=he.h) (hg:=hg.h) (hs:=hs) (hw:=hw) (h1:=h1)⟩
def zo {te:TE3} {pos:Pos} {X:Cx} (i:Nat) {x:Str} {e:Expr} {pos':Pos} (hN:X.N.Nodup) (he:jE3 X e te) (hi:X.N[i]?=some x:=by rfl) (hx:Loc X.env.scope x:=by first|exact Or.inl rfl|exact Or.inr rfl) (hs:swapsWith e (some (.Name x pos')) pos.line X.env=pure false:=by rfl) (hf:X.fn x=true\/X.env.scope.names.lookup x=some .local:=by first|exact .inl rfl|exact .inr rfl):jS3 X (.Assign [.Name x pos'] e pos) (jo te (gn3 i)):=
 ⟨qfw (i:=i) (hN:=hN) (he:=he.h) (hi:=hi) (hx:=hx) (hs:=hs) (hf:=hf)⟩
def EO {pos:Pos} {X:Cx} {i j:Nat} {x y:Str} {a b:Expr} {tt:TA3} {px py pt:Pos} {kt k2 pt2} (hc:X.calm=true) (hN:X.N.Nodup) (hi:X.N[i]?=some x) (hj:X.N[j]?=some y) (hij:i≠j)
  (hx:X.env.scope.names.lookup x=some .local) (hy:X.env.scope.names.lookup y=some .local) (ha:jA3 X [a,b] tt)
  (hw:swappedStores [.Tuple [.Name x px,.Name y py] kt pt] (.Tuple [a,b] k2 pt2) X.env=pure (some [x,y]):=by rfl)
  (hs:swapsWithSole [.Tuple [.Name x px,.Name y py] kt pt] (.Tuple [a,b] k2 pt2) pos.line X.env=pure false:=by rfl):jS3 X (.Assign [.Tuple [.Name x px,.Name y py] kt pt] (.Tuple [a,b] k2 pt2) pos) (CO i j tt):=
 ⟨qfl (hc:=hc) (hN:=hN) (hi:=hi) (hj:=hj) (hij:=hij) (hx:=hx) (hy:=hy) (ha:=ha.h) (hw:=hw) (hs:=hs)⟩
def XA {te:TE3} {X:Cx} {tg:Expr} {l:Expr} (hl:jE3 X l te):jI3 X tg l (U4 te):=
 ⟨qfS (hl:=hl.h)⟩
def YG {t:TA3} {pos:Pos} {a:Expr} {X:Cx} {tg:Expr} {p:Pos} (hg:Gl X "range") (hm:X.mg "range" = none) (ha:jA3 X [a] t) (hs:starEach [a] X.env=[(false,eval a X.env)]:=by rfl) (h1:∀ τ G q,t τ G q->t τ G λxs G=>q xs G/\xs.length=1):jI3 X tg (.Call (.Name "range" p) [a] [] pos) (VC t):=
 ⟨LD (hg:=hg) (hm:=hm) (ha:=ha.h) (hs:=hs) (h1:=h1)⟩
def W6 {pos:Pos} {X:Cx} {tg:Expr} {iter:Expr} {body:List Stmt} {wi:TI3} {g:TG3} {tb:TS3} (hp:PassesOwn (model X.prog X.w) X.A X.env X.xe) (hc:X.calm=true) (hi:jI3 X tg iter wi) (hg:jG3 X tg g) (hb:jB3 X body tb)
  (hs:∀ x,foldedSetIterable iter X.env x=pure x:=by intro _;rfl):jS3 X (.For tg iter body [] pos) (CM wi g tb):=
 ⟨qe2 (hp:=hp) (hc:=hc) (hi:=hi.h) (hg:=hg.h) (hb:=hb.h) (hs:=hs)⟩
def qk {t:TA3} {pos:Pos} {es:List Expr} {X:Cx} {k:Nat} {x:Str} {p:Pos} {sp:Sp3} (F:Fn3 X.prog X.w X.K X.mg X.base k x sp) (hr:Room k X.A) (hg:Gl X x) (ha:jA3 X (e::es) t) (hdb:(x==("__debug__" : Str))=false:=by decide)
  (he:starEach (e::es) X.env=(false,eval e X.env)::starEach es X.env:=by rfl) (hpl:(backTo pos (starEach es X.env)).any (·.1)=false:=by rfl):jE3 X (.Call (.Name x p) (e::es) [] pos) (cb3 sp t):=
 ⟨qbR (F:=F) (hr:=hr) (hg:=hg) (ha:=ha.h) (hdb:=hdb) (he:=he) (hpl:=hpl)⟩
def LG {X:Cx} {elt tg iter:Expr} {ifs:List Expr} {scope:Scope} {pos:Pos} (N':List Str) (m:List (Option Nat)) {wi:TI3} {g:TG3} {tif:TT3} {te:TE3} (hc:X.calm=true) (hi:jI3 X tg iter wi)
  (hg:∀ s H fp,jG3 (q0 X N' scope s H fp) tg g) (hf:∀ s H fp,jF3 (q0 X N' scope s H fp) ifs tif) (he:∀ s H fp,jE3 (q0 X N' scope s H fp) elt te)
  (hsc:qeo X.env.scope scope=true) (hcap:U0 X.N N' scope m=true) (hs:∀ x,foldedSetIterable iter X.env x=pure x:=by intro _;rfl):jE3 X (.ListComp elt [⟨tg,iter,ifs,0⟩] scope pos) (lc3 wi g tif te m):=
 ⟨qhl (N':=N') (m:=m) (hc:=hc) (hi:=hi.h) (hg:=(λs H fp=>(hg s H fp).h)) (hf:=(λs H fp=>(hf s H fp).h)) (he:=(λs H fp=>(he s H fp).h)) (hsc:=hsc) (hcap:=hcap) (hs:=hs)⟩
def W0 {X:Cx}:jF3 X [] tt3:=
 ⟨qfD ⟩
def qa2 {t:TA3} {pos:Pos} {es:List Expr} {a:Expr} {X:Cx} {p pt:Pos} {k1:Nat} (hg:Gl X "enumerate") (hm:X.mg "enumerate" = none) (ha:jA3 X [a] t) (hs:starEach [a] X.env=[(false,eval a X.env)]:=by rfl):jI3 X (.Tuple es k1 pt) (.Call (.Name "enumerate" p) [a] [] pos) (WN t):=
 ⟨qdd (hg:=hg) (hm:=hm) (ha:=ha.h) (hs:=hs)⟩
def jpt {X:Cx} {e:Expr} {t:TT3} (h:jW3 X e t):jC3 X e t:=⟨PW.pt h.h⟩
def zf {P:Program} {w:World} {K:Frg} {mg:Str->Option Value} {base:Heap} {x qual:Str} {st:Stmt} {f:Addr} {fd:FuncData} {N ps:List Str} {k:Nat} {sp:Sp3} {t3:TS3} (F:Fun K x qual st f fd) (S:FnScope N ps (qj st)) (bd:zW K fd ps []) (hm:mg x=some (.ref f))
  (body:∀ (cdv:Value) (A:Around) (outer:List Env) (s:Shared) (H:Hp) (E:XK),Room k (A.deeper (envOfC qual (qj st) s.heap.objs.size f cdv)) ->
   jB3 (T7 CX0 P w K mg base N qual (qj st) f cdv A outer s H E).nox (zK st) t3)
  (read:∀ ts G q,sp ts G q->ts.length=ps.length/\t3 { nx:=λ_ G'=>q .non G',rt:=q } (qx N ts) G):Fn3 P w K mg base (k+1) x sp:=
 qew F S bd hm (λcdv A outer s H E hr=>(body cdv A outer s H E hr).h) read
def KT {P:Program} {w:World} {K:Frg} {mg:Str->Option Value} {base:Heap} {x qual:Str} {st:Stmt} {f:Addr} {fd:FuncData} {N ps:List Str} {k:Nat} {sp:Sp3} {t3:TS3} (F:Fun K x qual st f fd) (S:FnScope N ps (qj st))
  (body:∀ (cdv:Value) (A:Around) (outer:List Env) (s:Shared) (H:Hp) (E:XK),Room k (A.deeper (envOfC qual (qj st) s.heap.objs.size f cdv)) ->
   jB3 (T7 CX0 P w K mg base N qual (qj st) f cdv A outer s H E).nox (zK st) t3)
  (read:∀ ts G q,sp ts G q->ts.length=ps.length/\t3 { nx:=λ_ G'=>q .non G',rt:=q } (qx N ts) G):FnOk P w K mg base CX0 (k+1) f fd ps (lSp K sp):=
 qby F S (λcdv A outer s H E hr=>(body cdv A outer s H E hr).h) read
open PySem.SeqAt
def Ex (G G':Gp):Prop:=∀ b o,G b=some o->G' b=some o
def Ex.refl {G:Gp}:Ex G G:=λ_ _ e=>e
def Ex.trans {G G1 G2:Gp} (a:Ex G G1) (b:Ex G1 G2):Ex G G2:=λx o e=>b x o (a x o e)
def jZ {G:Gp} {p:Addr} {o:O} (hp:G p=none):Ex G (gu G p o):=λb ob e=>by
 rw [j7 (by rintro rfl;rw [hp] at e;cases e)];exact e
mutual
inductive Dp (G:Gp):T->PyData->Prop
 |non:Dp G .non .none
 |bl (b:Bool):Dp G (.bl b) (.bool b)
 |int (i:Int):Dp G (.int i) (.int i)
 |str (x:Str):Dp G (.str x) (.str x)
 |tup {xs:List T} {ds:List PyData}:Dps G xs ds->Dp G (.tup xs) (.tuple ds)
 |lst {p:Addr} {xs:List T} {ds:List PyData}:getL G p=some xs->Dps G xs ds->Dp G (.ref p) (.list ds)
inductive Dps (G:Gp):List T->List PyData->Prop
 |nil:Dps G [] []
 |cons {x:T} {d:PyData} {xs:List T} {ds:List PyData}:Dp G x d->Dps G xs ds->Dps G (x::xs) (d::ds)
end
def Ex.getL {G G':Gp} (e:Ex G G') {p:Addr} {xs:List T} (h:getL G p=some xs):getL G' p=some xs:=by
 unfold L3.getL at h ⊢;split at h
 ·rename_i ys g;cases h;rw [e _ _ g]
 ·rename_i ys g;cases h;rw [e _ _ g]
 ·cases h
mutual
inductive DV (K:Frg) (H:Hp):V->PyData->Prop
 |non:DV K H .non .none
 |bl (b:Bool):DV K H (.bl b) (.bool b)
 |int (i:Int):DV K H (.int i) (.int i)
 |str (x:Str):DV K H (.str x) (.str x)
 |tup {a:Addr} {vs:List V} {ds:List PyData}:SqT K H a vs->DVs K H vs ds->DV K H (.ref a) (.tuple ds)
 |lst {a:Addr} {vs:List V} {ds:List PyData}:SqL K H a vs->DVs K H vs ds->DV K H (.ref a) (.list ds)
inductive DVs (K:Frg) (H:Hp):List V->List PyData->Prop
 |nil:DVs K H [] []
 |cons {x:V} {d:PyData} {xs:List V} {ds:List PyData}:DV K H x d->DVs K H xs ds->DVs K H (x::xs) (d::ds)
end
mutual
def Dp.dv {K:Frg} {G:Gp} {H:Hp} (hr:HR K G H):∀ {x:T} {d:PyData} {v:V},Dp G x d->Rp K H x v->DV K H v d
 |_,_,_,.non,.non=>.non
 |_,_,_,.bl b,.bl _=>.bl b
 |_,_,_,.int i,.int _=>.int i
 |_,_,_,.str x,.str _=>.str x
 |_,_,_,.tup h,.tup hs rs=>.tup hs (Dps.dv hr h rs)
 |_,_,_,.lst g h,r=>by
  cases r;obtain ⟨_,hs,rs⟩:=zA hr g;exact .lst hs (Dps.dv hr h rs)
def Dps.dv {K:Frg} {G:Gp} {H:Hp} (hr:HR K G H):∀ {x:List T} {d:List PyData} {v:List V},Dps G x d->Rps K H x v->DVs K H v d
 |_,_,_,.nil,.nil=>.nil
 |_,_,_,.cons a b,.cons c d=>.cons (Dp.dv hr a c) (Dps.dv hr b d)
end
mutual
def jv:PyData->PyData->Option Bool
 |.none,.none=>some true
 |.bool a,.bool b=>some (a==b)
 |.int a,.int b=>some (a==b)
 |.str a,.str b=>some (a==b)
 |.list xs,.list ys=>QX xs ys
 |.tuple xs,.tuple ys=>QX xs ys
 |_,_=>none
def QX:List PyData->List PyData->Option Bool
 |[],[]=>some true
 |x::xs,y::ys=>match jv x y,QX xs ys with|some a,some b=>some (a&&b)|_,_=>none
 |_,_=>some false
end
mutual
def dpt:PyData->Nat
 |.list xs=>KO xs+1
 |.tuple xs=>KO xs+1
 |_=>0
def KO:List PyData->Nat
 |[]=>0
 |x::xs=>max (dpt x) (KO xs)
end
section
variable {X:Cx} {pins:List (Addr×Obj)} {σ:L2.St} {H:Hp} {s:Shared}
mutual
def DV.inj (I:Inv X pins σ H s):∀ {v:V} {d e:PyData},DV X.K H v d->DV X.K H v e->d=e
 |_,_,_,.non,.non=>rfl
 |_,_,_,.bl _,.bl _=>rfl
 |_,_,_,.int _,.int _=>rfl
 |_,_,_,.str _,.str _=>rfl
 |_,_,_,.tup h hs,.tup k ks=>by
  have:=I.tuple_inj h k;subst this;rw [DVs.inj I hs ks]
 |_,_,_,.lst h hs,.lst k ks=>by
  have:=I.list_inj h k;subst this;rw [DVs.inj I hs ks]
 |_,_,_,.tup h hs,.lst k ks=>by
  obtain ⟨i1,_,p1,_⟩:=I.tuple h;obtain ⟨i2,_,p2,_⟩:=I.list k;exact absurd rfl (ne_of_list_tuple p2.isList (show s.heap.IsTuple _ i1.toArray from p1))
 |_,_,_,.lst k ks,.tup h hs=>by
  obtain ⟨i1,_,p1,_⟩:=I.tuple h;obtain ⟨i2,_,p2,_⟩:=I.list k;exact absurd rfl (ne_of_list_tuple p2.isList (show s.heap.IsTuple _ i1.toArray from p1))
def DVs.inj (I:Inv X pins σ H s):∀ {v:List V} {d e:List PyData},DVs X.K H v d->DVs X.K H v e->d=e
 |_,_,_,.nil,.nil=>rfl
 |_,_,_,.cons a b,.cons c d=>by rw [DV.inj I a c,DVs.inj I b d]
end
mutual
def EE:∀ {d:PyData} {b:Bool},jv d d=some b->b=true
 |.none,_,h=>by simp [jv] at h;exact h
 |.bool _,_,h=>by simp [jv] at h;exact h
 |.int _,_,h=>by simp [jv] at h;exact h
 |.str _,_,h=>by simp [jv] at h;exact h
 |.list xs,_,h=>by simp only [jv] at h;exact Z9 h
 |.tuple xs,_,h=>by simp only [jv] at h;exact Z9 h
 |.dict _,_,h=>by simp [jv] at h
def Z9:∀ {d:List PyData} {b:Bool},QX d d=some b->b=true
 |[],_,h=>by simp [QX] at h;exact h
 |x::xs,b,h=>by
  simp only [QX] at h;split at h
  ·rename_i a c e1 e2;rw [EE e1,Z9 e2] at h;simpa using h.symm
  ·cases h
end
def QF:∀ {xs ys:List PyData} {b:Bool},QX xs ys=some b->xs.length=ys.length->∃ e:Nat->Bool,(∀ (j:Nat) x y,xs[j]?=some x->ys[j]?=some y->jv x y=some (e j))/\b=(List.range xs.length).all e
 |[],[],b,h,_=>by simp [QX] at h;exact ⟨λ_=>true,by simp,by simp [h]⟩
 |x::xs,y::ys,b,h,hl=>by
  simp only [QX] at h;split at h
  ·rename_i a c e1 e2;obtain ⟨e,h1,h2⟩:=QF e2 (by simpa using hl);refine ⟨λj=>match j with|0=>a|j+1=>e j,λj u v hu hv=>?_,?_⟩
   ·cases j with
    |zero=>simp at hu hv;subst hu;subst hv;exact e1
    |succ j=>exact h1 j u v (by simpa using hu) (by simpa using hv)
   ·rw [length_cons,List.range_succ_eq_map,List.all_cons,List.all_map];cases h;rw [h2];rfl
  ·cases h
 |[],_::_,_,_,hl=>by simp at hl
 |_::_,[],_,_,hl=>by simp at hl
def QA:∀ {xs ys:List PyData} {b:Bool},QX xs ys=some b->xs.length≠ys.length->b=false/\∃ e:Nat->Bool,∀ (j:Nat) x y,xs[j]?=some x->ys[j]?=some y->jv x y=some (e j)
 |[],[],_,_,hl=>by simp at hl
 |[],_::_,b,h,_=>by simp [QX] at h;exact ⟨h,λ_=>true,by simp⟩
 |_::_,[],b,h,_=>by simp [QX] at h;exact ⟨h,λ_=>true,by simp⟩
 |x::xs,y::ys,b,h,hl=>by
  simp only [QX] at h;split at h
  ·rename_i a c e1 e2;obtain ⟨h0,e,h1⟩:=QA e2 (by simpa using hl);subst h0;refine ⟨by simpa using h.symm,λj=>match j with|0=>a|j+1=>e j,λj u v hu hv=>?_⟩;cases j with
   |zero=>simp at hu hv;subst hu;subst hv;exact e1
   |succ j=>exact h1 j u v (by simpa using hu) (by simpa using hv)
  ·cases h
def ZG:∀ {xs:List PyData} {x:PyData},x∈xs->dpt x<=KO xs
 |[],_,h=>by simp at h
 |y::ys,x,h=>by
  simp only [KO];rcases mem_cons.mp h with e|e
  ·subst e;omega
  ·have:=ZG e;omega
def DVs.get {K:Frg} {H:Hp}:∀ {xs:List V} {ds:List PyData} {i:Nat} {x:V},DVs K H xs ds->xs[i]?=some x->∃ d,ds[i]?=some d/\DV K H x d
 |_,_,_,_,.nil,e=>by simp at e
 |_,_,0,_,.cons r _,e=>by simp at e;subst e;exact ⟨_,rfl,r⟩
 |_,_,i+1,x,.cons _ t,e=>by
  obtain ⟨u,h1,h2⟩:=DVs.get (i:=i) (x:=x) t (by simpa using e);exact ⟨u,by simpa using h1,h2⟩
def DVs.length {K:Frg} {H:Hp}:∀ {xs:List V} {ds:List PyData},DVs K H xs ds->xs.length=ds.length
 |_,_,.nil=>rfl
 |_,_,.cons _ b=>by simp [DVs.length b]
def j9 {vs:List V} {us:List Value} (r:zn vs us) {j:Nat} (h:j<us.toArray.size):∃ v,vs[j]?=some v/\zT v us.toArray[j]:=by
 have hj:j<vs.length:=by rw [r.length];simpa using h
 obtain ⟨u,hu,ru⟩:=r.get (getElem?_eq_getElem hj);refine ⟨vs[j],getElem?_eq_getElem hj,?_⟩;have hj2:j<us.length:=by simpa using h
 rw [getElem?_eq_getElem hj2] at hu;have:us[j]=u:=Option.some.inj hu;simpa [this] using ru
def UO (I:Inv X pins σ H s):∀ (n:Nat) {v u:V} {d e:PyData} {b:Bool} {x y:Value} {A:Around},DV X.K H v d->DV X.K H u e->jv d e=some b->dpt d<=n->A.units+n<cLine->zT v x->zT u y ->
  RcAt A s x y b/\EqAt A s x y b:=by
 intro n;induction n with
 |zero=>
  intro v u d e b x y A hv hu h hd hn rx ry;cases hv with
  |non=>cases hu<;>simp [jv] at h;subst h;cases (show x=Value.none from rx);cases (show y=Value.none from ry);exact ⟨RcAt.none_none,EqAt.same _⟩
  |bl a=>cases hu<;>simp [jv] at h;subst h;cases (show x=Value.bool _ from rx);cases (show y=Value.bool _ from ry);exact ⟨RcAt.bool_bool _ _,EqAt.bool_bool _ _⟩
  |int a=>cases hu<;>simp [jv] at h;subst h;obtain ⟨t,rfl⟩:=(show ∃ t,x=Value.int _ t from rx);obtain ⟨t',rfl⟩:=(show ∃ t,y=Value.int _ t from ry);exact ⟨RcAt.int_int _ _ _ _,EqAt.int_int _ _ _ _⟩
  |str a=>cases hu<;>simp [jv] at h;subst h;obtain ⟨t,rfl⟩:=(show ∃ t,x=Value.str _ t from rx);obtain ⟨t',rfl⟩:=(show ∃ t,y=Value.str _ t from ry);exact ⟨RcAt.str_str _ _ _ _,EqAt.str_str _ _ _ _⟩
  |tup=>simp [dpt] at hd
  |lst=>simp [dpt] at hd
 |succ n ih=>
  intro v u d e b x y A hv hu h hd hn rx ry;have fin:∀ {l l':Addr} {k:Bool},x=.ref l->y=.ref l'->v=.ref l->u=.ref l'->b=k->RcAt A s x y k->RcAt A s x y b/\EqAt A s x y b:=by
   rintro l l' k rfl rfl rfl rfl rfl rc;refine ⟨rc,?_⟩;by_cases hll:l=l'
   ·subst hll;have:=DV.inj I hv hu;subst this;rw [EE h];exact EqAt.same _
   ·exact EqAt.of_refs hll rc
  cases hv with
  |non=>cases hu<;>simp [jv] at h;subst h;cases (show x=Value.none from rx);cases (show y=Value.none from ry);exact ⟨RcAt.none_none,EqAt.same _⟩
  |bl a=>cases hu<;>simp [jv] at h;subst h;cases (show x=Value.bool _ from rx);cases (show y=Value.bool _ from ry);exact ⟨RcAt.bool_bool _ _,EqAt.bool_bool _ _⟩
  |int a=>cases hu<;>simp [jv] at h;subst h;obtain ⟨t,rfl⟩:=(show ∃ t,x=Value.int _ t from rx);obtain ⟨t',rfl⟩:=(show ∃ t,y=Value.int _ t from ry);exact ⟨RcAt.int_int _ _ _ _,EqAt.int_int _ _ _ _⟩
  |str a=>cases hu<;>simp [jv] at h;subst h;obtain ⟨t,rfl⟩:=(show ∃ t,x=Value.str _ t from rx);obtain ⟨t',rfl⟩:=(show ∃ t,y=Value.str _ t from ry);exact ⟨RcAt.str_str _ _ _ _,EqAt.str_str _ _ _ _⟩
  |tup hq hs=>
   cases hu with
   |tup kq ks=>
    rename_i a1 vs1 ds1 a2 vs2 ds2;simp only [jv] at h;obtain ⟨i1,r1,p1,z1⟩:=I.tuple hq;obtain ⟨i2,r2,p2,z2⟩:=I.tuple kq;have l1:=hs.length;have l2:=ks.length;have m1:=r1.length;have m2:=r2.length;have el:∀ (e:Nat->Bool),(∀ (j:Nat) x y,ds1[j]?=some x->ds2[j]?=some y->jv x y=some (e j))->∀ j (h1:j<i1.toArray.size) (h2:j<i2.toArray.size),EqAt A.in1 s i1.toArray[j] i2.toArray[j] (e j):=λe he j h1 h2=>by
     obtain ⟨w1,g1,q1⟩:=j9 r1 h1;obtain ⟨w2,g2,q2⟩:=j9 r2 h2;obtain ⟨d1,f1,dv1⟩:=hs.get g1;obtain ⟨d2,f2,dv2⟩:=ks.get g2;have:=ZG (mem_of_getElem? f1);exact (ih dv1 dv2 (he j d1 d2 f1 f2) (by simp only [dpt] at hd;omega) (show A.units+1+n<cLine by omega) q1 q2).2
    cases (show x=Value.ref a1 from rx);cases (show y=Value.ref a2 from ry);by_cases hl:ds1.length=ds2.length
    ·obtain ⟨e,he,hb⟩:=QF h hl;refine fin rfl rfl rfl rfl (k:=(List.range (min i1.toArray.size i2.toArray.size)).all e&&i1.toArray.size==i2.toArray.size) ?_ (RcAt.tuples (show s.heap.IsTuple a1 i1.toArray from p1) (show s.heap.IsTuple a2 i2.toArray from p2) (by omega) (el e he));have e1:i1.toArray.size=ds1.length:=by rw [size_toArray];omega
     have e2:i2.toArray.size=ds1.length:=by rw [size_toArray];omega
     rw [e1,e2,hb];simp
    ·obtain ⟨hb,e,he⟩:=QA h hl;refine fin rfl rfl rfl rfl (k:=(List.range (min i1.toArray.size i2.toArray.size)).all e&&i1.toArray.size==i2.toArray.size) ?_ (RcAt.tuples (show s.heap.IsTuple a1 i1.toArray from p1) (show s.heap.IsTuple a2 i2.toArray from p2) (by omega) (el e he));have e1:i1.toArray.size≠i2.toArray.size:=by rw [size_toArray,size_toArray];omega
     rw [hb];simp [e1];intro;omega
   |_=>simp [jv] at h
  |lst hq hs=>
   cases hu with
   |lst kq ks=>
    rename_i a1 vs1 ds1 a2 vs2 ds2;simp only [jv] at h;obtain ⟨i1,r1,p1,z1⟩:=I.list hq;obtain ⟨i2,r2,p2,z2⟩:=I.list kq;have l1:=hs.length;have l2:=ks.length;have m1:=r1.length;have m2:=r2.length;have el:∀ (e:Nat->Bool),(∀ (j:Nat) x y,ds1[j]?=some x->ds2[j]?=some y->jv x y=some (e j))->∀ j (h1:j<i1.toArray.size) (h2:j<i2.toArray.size),EqAt A.in1 s i1.toArray[j] i2.toArray[j] (e j):=λe he j h1 h2=>by
     obtain ⟨w1,g1,q1⟩:=j9 r1 h1;obtain ⟨w2,g2,q2⟩:=j9 r2 h2;obtain ⟨d1,f1,dv1⟩:=hs.get g1;obtain ⟨d2,f2,dv2⟩:=ks.get g2;have:=ZG (mem_of_getElem? f1);exact (ih dv1 dv2 (he j d1 d2 f1 f2) (by simp only [dpt] at hd;omega) (show A.units+1+n<cLine by omega) q1 q2).2
    cases (show x=Value.ref a1 from rx);cases (show y=Value.ref a2 from ry);by_cases hl:ds1.length=ds2.length
    ·obtain ⟨e,he,hb⟩:=QF h hl;refine fin rfl rfl rfl rfl (k:=(List.range i1.toArray.size).all e) ?_ (RcAt.lists p1.isList p2.isList (by rw [size_toArray,size_toArray];omega) (by omega) (el e he));have e1:i1.toArray.size=ds1.length:=by rw [size_toArray];omega
     rw [e1,hb]
    ·obtain ⟨hb,e,he⟩:=QA h hl;refine fin rfl rfl rfl rfl (k:=false) hb (RcAt.lists_lengths p1.isList p2.isList (by rw [size_toArray,size_toArray];simp;omega) (by omega))
   |_=>simp [jv] at h
def qbi (I:Inv X pins σ H s) {n:Nat} {v u:V} {d e:PyData} {b:Bool} {x y:Value} {A:Around} (hv:DV X.K H v d) (hu:DV X.K H u e) (h:jv d e=some b) (hd:dpt d<=n+1) (hn:A.units+(n+1)<cLine) (rx:zT v x) (ry:zT u y) (hs:dpt d≠0):RcNeAt A s x y (!b):=by
 cases hv with
 |tup hq hs'=>
  cases hu with
  |tup kq ks=>
   rename_i a1 vs1 ds1 a2 vs2 ds2;simp only [jv] at h;obtain ⟨i1,r1,p1,z1⟩:=I.tuple hq;obtain ⟨i2,r2,p2,z2⟩:=I.tuple kq;have l1:=hs'.length;have l2:=ks.length;have m1:=r1.length;have m2:=r2.length;have el:∀ (e:Nat->Bool),(∀ (j:Nat) x y,ds1[j]?=some x->ds2[j]?=some y->jv x y=some (e j))->∀ j (h1:j<i1.toArray.size) (h2:j<i2.toArray.size),EqAt A.in1 s i1.toArray[j] i2.toArray[j] (e j):=λe he j h1 h2=>by
    obtain ⟨w1,g1,q1⟩:=j9 r1 h1;obtain ⟨w2,g2,q2⟩:=j9 r2 h2;obtain ⟨d1,f1,dv1⟩:=hs'.get g1;obtain ⟨d2,f2,dv2⟩:=ks.get g2;have:=ZG (mem_of_getElem? f1);exact (UO I n dv1 dv2 (he j d1 d2 f1 f2) (by simp only [dpt] at hd;omega) (show A.units+1+n<cLine by omega) q1 q2).2
   cases (show x=Value.ref a1 from rx);cases (show y=Value.ref a2 from ry);by_cases hl:ds1.length=ds2.length
   ·obtain ⟨e,he,hb⟩:=QF h hl;have:=RcNeAt.tuples (show s.heap.IsTuple a1 i1.toArray from p1) (show s.heap.IsTuple a2 i2.toArray from p2) (A:=A) (by omega) (el e he);have e1:i1.toArray.size=ds1.length:=by rw [size_toArray];omega
    have e2:i2.toArray.size=ds1.length:=by rw [size_toArray];omega
    rw [e1,e2] at this;rw [hb];simpa using this
   ·obtain ⟨hb,e,he⟩:=QA h hl;have:=RcNeAt.tuples (show s.heap.IsTuple a1 i1.toArray from p1) (show s.heap.IsTuple a2 i2.toArray from p2) (A:=A) (by omega) (el e he);have e1:(i1.toArray.size==i2.toArray.size)=false:=by rw [size_toArray,size_toArray];simp;omega
    rw [e1] at this;rw [hb];simpa using this
  |_=>simp [jv] at h
 |lst hq hs'=>
  cases hu with
  |lst kq ks=>
   rename_i a1 vs1 ds1 a2 vs2 ds2;simp only [jv] at h;obtain ⟨i1,r1,p1,z1⟩:=I.list hq;obtain ⟨i2,r2,p2,z2⟩:=I.list kq;have l1:=hs'.length;have l2:=ks.length;have m1:=r1.length;have m2:=r2.length;have el:∀ (e:Nat->Bool),(∀ (j:Nat) x y,ds1[j]?=some x->ds2[j]?=some y->jv x y=some (e j))->∀ j (h1:j<i1.toArray.size) (h2:j<i2.toArray.size),EqAt A.in1 s i1.toArray[j] i2.toArray[j] (e j):=λe he j h1 h2=>by
    obtain ⟨w1,g1,q1⟩:=j9 r1 h1;obtain ⟨w2,g2,q2⟩:=j9 r2 h2;obtain ⟨d1,f1,dv1⟩:=hs'.get g1;obtain ⟨d2,f2,dv2⟩:=ks.get g2;have:=ZG (mem_of_getElem? f1);exact (UO I n dv1 dv2 (he j d1 d2 f1 f2) (by simp only [dpt] at hd;omega) (show A.units+1+n<cLine by omega) q1 q2).2
   cases (show x=Value.ref a1 from rx);cases (show y=Value.ref a2 from ry);by_cases hl:ds1.length=ds2.length
   ·obtain ⟨e,he,hb⟩:=QF h hl;have:=RcNeAt.lists p1.isList p2.isList (A:=A) (by rw [size_toArray,size_toArray];omega) (by omega) (el e he);have e1:i1.toArray.size=ds1.length:=by rw [size_toArray];omega
    rw [e1] at this;rw [hb];exact this
   ·obtain ⟨hb,e,he⟩:=QA h hl;rw [hb];exact RcNeAt.lists_lengths p1.isList p2.isList (by rw [size_toArray,size_toArray];simp;omega) (by omega)
  |_=>simp [jv] at h
 |_=>simp [dpt] at hs
def qbD (K:Frg) (neg:Bool):R2:=λx y H Q=>∃ d e b,DV K H x d/\DV K H y e/\jv d e=some b/\dpt d<=40/\dpt d≠0/\Q (.bl (if neg then !b else b)) H
def qcq (hu:X.A.units+64<cLine):OpR X (compareOp .Eq) (qbD X.K false):=by
 intro pins s σ H x y v u Q I rx ry h;obtain ⟨d,e,b,hx,hy,hb,hd,_,q⟩:=h;exact (UO I 40 hx hy hb hd (by omega) rx ry).1 X.prog X.w X.xe _ ⟨.bl b,H,I,rfl,q⟩
def qc8 (hu:X.A.units+64<cLine):OpR X (compareOp .NotEq) (qbD X.K true):=by
 intro pins s σ H x y v u Q I rx ry h;obtain ⟨d,e,b,hx,hy,hb,hd,hs,q⟩:=h;exact qbi I (n:=40) hx hy hb (by omega) (by omega) rx ry hs X.prog X.w X.xe _ ⟨.bl (!b),H,I,rfl,q⟩
end
def jk (neg:Bool):R3:=λx y G q=>match UP x y with
 |some k=>q (.bl (if neg then !k else k)) G
 |none=>∃ d e b,Dp G x d/\Dp G y e/\jv d e=some b/\dpt d<=40/\dpt d≠0/\q (.bl (if neg then !b else b)) G
def qI {K:Frg}:DK K (jk false) (λx y H Q=>rEq x y H Q\/qbD K false x y H Q):=λx y v u G H q Q hr rx ry h af=>by
 unfold jk at h;split at h
 ·rename_i k e;obtain ⟨h1,h2⟩:=XC rx ry e;refine .inl ⟨h1,?_⟩;rw [h2];exact af _ G h _ H (.bl _) hr Kp.refl
 ·obtain ⟨d,e,b,h1,h2,h3,h4,h5,h6⟩:=h;exact .inr ⟨d,e,b,h1.dv hr rx,h2.dv hr ry,h3,h4,h5,af _ G h6 _ H (.bl _) hr Kp.refl⟩
def jz {K:Frg}:DK K (jk true) (λx y H Q=>rNe x y H Q\/qbD K true x y H Q):=λx y v u G H q Q hr rx ry h af=>by
 unfold jk at h;split at h
 ·rename_i k e;obtain ⟨h1,h2⟩:=XC rx ry e;refine .inl ⟨h1,?_⟩;rw [h2];exact af _ G h _ H (.bl _) hr Kp.refl
 ·obtain ⟨d,e,b,h1,h2,h3,h4,h5,h6⟩:=h;exact .inr ⟨d,e,b,h1.dv hr rx,h2.dv hr ry,h3,h4,h5,af _ G h6 _ H (.bl _) hr Kp.refl⟩
def zg {X:Cx} (hu:X.A.units+64<cLine):OpR X (compareOp .Eq) (λx y H Q=>rEq x y H Q\/qbD X.K false x y H Q):=qf4.or (qcq hu)
def Q1 {X:Cx} (hu:X.A.units+64<cLine):OpR X (compareOp .NotEq) (λx y H Q=>rNe x y H Q\/qbD X.K true x y H Q):=qfk.or (qc8 hu)
end L3
namespace L3
open PySem PySem.Spec PyProof.Rows L2
section
variable {X:Cx} {pins:List (Addr×Obj)} {σ:L2.St} {H:Hp} {s:Shared}
mutual
def DV.reads (I:Inv X pins σ H s):∀ {v:V} {d:PyData} {x:Value},DV X.K H v d->zT v x->∃ as,Reads s.heap x d as
 |_,_,x,.non,r=>by cases (show x=Value.none from r);exact ⟨_,.none⟩
 |_,_,x,.bl b,r=>by cases (show x=Value.bool b from r);exact ⟨_,.bool b⟩
 |_,_,x,.int i,r=>by obtain ⟨t,rfl⟩:=(show ∃ t,x=Value.int i t from r);exact ⟨_,.int i t⟩
 |_,_,x,.str y,r=>by obtain ⟨t,rfl⟩:=(show ∃ t,x=Value.str y t from r);exact ⟨_,.str y t⟩
 |_,_,x,.tup (a:=a) h hs,r=>by
  cases (show x=Value.ref a from r);obtain ⟨its,rv,⟨o,h1,h2,n,h3⟩,_⟩:=I.tuple h;obtain ⟨as,ra⟩:=DVs.reads I hs rv;exact ⟨as,.tuple h1 h2 h3 (by simpa using ra)⟩
 |_,_,x,.lst (a:=a) h hs,r=>by
  cases (show x=Value.ref a from r);obtain ⟨its,rv,p,_⟩:=I.list h;obtain ⟨o,h1,h2,n,h3⟩:=p.isList;obtain ⟨as,ra⟩:=DVs.reads I hs rv;exact ⟨a::as,.list h1 h2 h3 (by simpa using ra)⟩
def DVs.reads (I:Inv X pins σ H s):∀ {v:List V} {d:List PyData} {x:List Value},DVs X.K H v d->zn v x->∃ as,ReadsAll s.heap x d as
 |_,_,_,.nil,.nil=>⟨_,.nil⟩
 |_,_,_,.cons a b,.cons c d=>by
  obtain ⟨as,r1⟩:=DV.reads I a c;obtain ⟨bs,r2⟩:=DVs.reads I b d;exact ⟨_,.cons r1 r2⟩
end
end
section
variable {X:Cx}
end
section
variable {prog:Program} {w:World} {A:Around} {R:Result->Shared->Prop} {s:Shared}
end
section
variable {X:Cx}
end
section
variable {K:Frg}
end
section
variable {X:Cx}
end
section
variable {X:Cx}
def VR:∀ {its:List Value} {ns:List Int},zn (ns.map V.int) its->IntsAre its ns
 |_,[],h=>by cases h;exact .nil
 |_,n::ns,h=>by
  cases h with
  |cons r t=>
   obtain ⟨k,rfl⟩:=r;exact .cons n k (VR t)
end
section
variable {X:Cx} {tg a b c:Expr} {pos:Pos}
end
section
variable {X:Cx}
end
section
variable {X:Cx} {a b:Expr} {ta tb:TE3} {pos:Pos}
structure ShW (d:PyData):Prop where
 sh:d.showable=true
 nd:d.hasDict=false
 dp:d.depth<=40
 fit:d.shown.length<=sizeLine
def RY (hg:X.A.guards=some []) (hu:X.A.units+64<cLine):QB X (.type "str") (λxs H Q=>∃ a d,xs=[.ref a]/\DV X.K H (.ref a) d/\ShW d/\Q (.str d.shown) H):=by
 intro pins s σ H xs us Q I r h;obtain ⟨a,d,rfl,dv,ok,q⟩:=h;obtain ⟨u,rfl,rp⟩:=YE r;cases (show u=Value.ref a from rp);obtain ⟨as,rd⟩:=dv.reads I (show zT (.ref a) (.ref a) from rfl);refine str_of_reads rd ok.sh (PyData.noDict_hsm ok.nd) hg (by have:=ok.dp;omega) (λ_ _ e=>e) (λh' u tk hk=>?_) ok.fit;exact ⟨.str _,H,I.kept (h':=h') (t':=tk) hk,⟨_,rfl⟩,q⟩
def shV (st:Bool):V->Hp->(Str->Prop)->Prop:=λv H q=>match v with
 |.non=>q (Str.ofString "None")
 |.bl b=>q (if b=true then Str.ofString "True" else Str.ofString "False")
 |.int i=>i.natAbs.log2<1920/\q (Str.ofString (toString i))
 |.str x=>if st then q x else (reprText x).length<=sizeLine/\q (reprText x)
 |.ref a=>∃ d,DV X.K H (.ref a) d/\ShW d/\q d.shown
 |_=>False
def YD (hg:X.A.guards=some []) (hu:X.A.units+64<cLine):QB X (.type "str") (λxs H Q=>∃ v,xs=[v]/\shV (X:=X) true v H λx=>Q (.str x) H):=by
 intro pins s σ H xs us Q I r h;obtain ⟨v,rfl,h⟩:=h;obtain ⟨u,rfl,rp⟩:=YE r;cases v with
 |non=>cases (show u=Value.none from rp);exact P.str_of_none ⟨.str _,H,I.tok _,⟨_,rfl⟩,h⟩
 |bl b=>cases (show u=Value.bool b from rp);exact P.str_of_bool ⟨.str _,H,I.tok _,⟨_,rfl⟩,h⟩
 |int i=>obtain ⟨t,rfl⟩:=(show ∃ t,u=Value.int i t from rp);exact P.str_of_int h.1 ⟨.str _,H,I.tok _,⟨_,rfl⟩,h.2⟩
 |str x=>obtain ⟨t,rfl⟩:=(show ∃ t,u=Value.str x t from rp);exact P.str_of_str ⟨.str _,H,I,⟨_,rfl⟩,h⟩
 |ref a=>
  obtain ⟨d,dv,ok,q⟩:=h;exact RY hg hu _ _ _ _ _ _ _ I r ⟨a,d,rfl,dv,ok,q⟩
 |_=>exact h.elim
def shT (st:Bool):T->Gp->(Str->Prop)->Prop:=λx G q=>match x with
 |.non=>q (Str.ofString "None")
 |.bl b=>q (if b=true then Str.ofString "True" else Str.ofString "False")
 |.int i=>i.natAbs.log2<1920/\q (Str.ofString (toString i))
 |.str x=>if st then q x else (reprText x).length<=sizeLine/\q (reprText x)
 |.tup _=>∃ d,Dp G x d/\ShW d/\q d.shown
 |.ref _=>∃ d,Dp G x d/\ShW d/\q d.shown
def DM (st:Bool):List T->Gp->Q3->Prop:=λxs G q=>match xs with
 |[x]=>shT st x G λy=>q (.str y) G
 |_=>False
def WR {st:Bool}:W8 X.K (DM st) (λxs H Q=>∃ v,xs=[v]/\shV (X:=X) st v H λx=>Q (.str x) H):=λxs vs G H q Q hr rs h af=>by
 unfold DM at h;split at h
 ·rename_i x;obtain ⟨v,rfl,r⟩:=EY rs;refine ⟨v,rfl,?_⟩;cases r with
  |non=>exact af _ G h _ H (.str _) hr Kp.refl
  |bl b=>exact af _ G h _ H (.str _) hr Kp.refl
  |int i=>exact ⟨h.1,af _ G h.2 _ H (.str _) hr Kp.refl⟩
  |str x=>
   cases st with
   |true=>exact af _ G h _ H (.str _) hr Kp.refl
   |false=>exact ⟨h.1,af _ G h.2 _ H (.str _) hr Kp.refl⟩
  |tup hs r2=>
   obtain ⟨d,h1,h2,h3⟩:=h;exact ⟨d,h1.dv hr (.tup hs r2),h2,af _ G h3 _ H (.str _) hr Kp.refl⟩
  |ref a=>
   obtain ⟨d,h1,h2,h3⟩:=h;exact ⟨d,h1.dv hr (.ref a),h2,af _ G h3 _ H (.str _) hr Kp.refl⟩
 ·exact h.elim
def K5:OpR X (binaryOp .Add) (λx y H Q=>∃ a b ys,x=.ref a/\y=.ref b/\SqT X.K H a []/\SqT X.K H b ys/\Q (.ref b) H):=by
 intro pins s σ H x y v u Q I rx ry h;obtain ⟨a,b,ys,rfl,rfl,ha,hb,q⟩:=h;cases rx;cases ry;obtain ⟨its,r1,p1,_⟩:=I.tuple ha;obtain ⟨its2,r2,p2,_⟩:=I.tuple hb;cases r1;obtain ⟨⟨cls,dd,data,sl⟩,ho,hc,n,hd⟩:=id p1;obtain ⟨⟨cls2,dd2,data2,sl2⟩,ho2,hc2,n2,hd2⟩:=id p2;simp only at hc hd hc2 hd2;subst hc hd hc2 hd2;exact concat_meets ⟨_,ho,rfl⟩ ⟨_,ho2,rfl⟩ noFill_tuple_add seq_tuple_add PySem.F.slot_tuple_add PySem.F.entry_tuple_add (PySem.F.args_tuple_add_2 _ _)
   (tuple_addW0 a b #[] its2.toArray n n2 dd dd2 sl sl2 rfl) ⟨ho,ho2,⟨.ref b,H,I,rfl,q⟩⟩
def zJ:R3:=λx y G q=>match x,y with
 |.tup xs,.tup ys=>xs.length+ys.length<=sizeLine/\q (.tup (xs++ys)) G
 |.ref a,.ref b=>(match G a,G b with|some (.lst xs),some (.lst ys)=>xs.length+ys.length<=sizeLine/\∀ p,G p=none->q (.ref p) (gu G p (.lst (xs++ys)))|_,_=>False)
 |.int i,.int j=>q (.int (i+j)) G
 |_,_=>False
def K6:DK X.K zJ (λx y H Q=>((rI0 (λi j=>.int (i+j)) x y H Q\/qba X.K x y H Q)\/qgA x y H Q)\/∃ a b ys,x=.ref a/\y=.ref b/\SqT X.K H a []/\SqT X.K H b ys/\Q (.ref b) H):=λx y v u G H q Q hr rx ry h af=>by
 cases x with
 |tup xs=>
  cases y with
  |tup ys=>
   cases xs with
   |nil=>
    cases rx with
    |tup hs rs=>
     cases rs;cases ry with
     |tup hs' rs'=>exact .inr ⟨_,_,_,rfl,rfl,hs,hs',af _ G h.2 _ H (.tup hs' rs') hr Kp.refl⟩
   |cons x xs=>exact .inl (V4 _ _ v u G H q Q hr rx ry ⟨by simp,h⟩ af)
  |_=>exact h.elim
 |ref a=>
  cases y with
  |ref b=>exact .inl (V4 (.ref a) (.ref b) v u G H q Q hr rx ry h af)
  |_=>exact h.elim
 |int i=>
  cases y with
  |int j=>exact .inl (V4 (.int i) (.int j) v u G H q Q hr rx ry h af)
  |_=>exact h.elim
 |_=>exact h.elim
def qu (ha:jE3 X a ta) (hb:jE3 X b tb):jE3 X (.BinOp a .Add b pos) (o3 zJ ta tb):=⟨qax (((N7.or S9).or NH).or K5) K6 ha.h hb.h⟩
def JD {prog:Program} {w:World} {A:Around} {E:Value->Shared->Prop} {s:Shared} {t sl:Addr} {items:Array Value} {vl vu:Value} {lo hi:Option Int} {Q:Value->Shared->Prop} (ht:IsTup s.heap t items) (hs:s.heap.IsSliceOf sl vl vu .none) (pl:IsPart vl lo) (pu:IsPart vu hi)
  (hw:HT.sIx items.size 0 lo=0/\HT.sIx items.size items.size hi=items.size) (h:Q (.ref t) s):wpAny (model prog w) A (getItem (.ref t) (.ref sl)) Q E s:=by
 obtain ⟨os,hos,hcs,hds⟩:=id hs;have hTs:s.TypeIs (.ref sl) "slice" := ⟨os,hos,hcs⟩
 unfold getItem
 try with_reducible refine wpAny_holding ?_
 first|refine wpAny_bind (wpAny_pure ?_)|skip
 refine wpAny_bind (wpAny_sequenceKey ht.typeIs (by decide) ?_);refine wpAny_bind (wpAny_callSpecial?_slot (name:=Str.ofString "__getitem__") ht.typeIs PyProof.Rows.slot_tuple_getitem
  (wpAny_call_entry PyProof.Rows.slot_tuple_getitem ht.typeIs entry_tuple_getitem ?_ (args_tuple_getitem _ _)))
 show wpAny _ _ (Builtin.Tuple.tupleItemsOf (.ref t) >>= _) _ _ s;refine wpAny_bind (tupleItemsOf_ ht ?_);refine wpAny_bind (wpAny_typeOf hTs ?_);rw [if_pos (by decide)];refine wpAny_bind (HT.jV hs pl pu ?_);have hyes:(((HT.sIx items.size 0 lo:Nat):Int)==0&&(1:Int)==1&&(HT.sIx items.size items.size hi-HT.sIx items.size 0 lo)==items.size)=true:=by
  rw [hw.1,hw.2];simp
 show wpAny _ _ (if (((HT.sIx items.size 0 lo:Nat):Int)==0&&(1:Int)==1&&(HT.sIx items.size items.size hi-HT.sIx items.size 0 lo)==items.size)=true then _ else _) _ _ s;rw [if_pos hyes];unfold Builtin.Tuple.tupleIsExact;refine wpAny_bind (wpAny_bind (wpAny_typeOf ht.typeIs (wpAny_pure ?_)));rw [if_pos (by decide)];refine wpAny_bind (wpAny_rule ?_);exact wpAny_pure ⟨_,rfl,wpAny_pure h⟩
def qhn (K:Frg):V->Option Int->Option Int->Hp->VK->Prop:=λx lo hi H Q=>∃ a xs,x=.ref a/\SqT K H a xs/\(HT.sIx xs.length 0 lo=0/\HT.sIx xs.length xs.length hi=xs.length)/\Q (.ref a) H
def KN:SlR X (qhn X.K):=by
 intro pins s σ H x v vl vu lo hi sl Q I rx hs pl pu h;obtain ⟨a,xs,rfl,hx,hw,q⟩:=h;cases rx;obtain ⟨its,r,ht,hz⟩:=I.tuple hx;have hlen:its.toArray.size=xs.length:=by rw [size_toArray];exact r.length.symm
 refine ⟨"tuple",_,PyProof.Rows.slot_tuple_getitem.lookup,ht.typeIs,?_⟩;exact JD ht hs pl pu (by rw [hlen];exact hw) ⟨.ref a,H,I,rfl,q⟩
def qf3:T->Option Int->Option Int->Gp->Q3->Prop:=λx lo hi G q=>match x with
 |.tup xs=>q (.tup (JB xs lo hi)) G
 |.ref p=>(match getL G p with|some xs=>∀ a,G a=none->q (.ref a) (gu G a (.lst (JB xs lo hi)))|none=>False)
 |_=>False
def QY (te:TE3) (tl th:TO3):TE3:=λτ G q=>te τ G λx G1=>tl τ G1 λl G2=>th τ G2 λu G3=>qf3 x l u G3 q
def qN {e:Expr} {te:TE3} {lo hi:Option Expr} {tl th:TO3} {p2:Pos} (he:jE3 X e te) (hl:jP3 X lo tl) (hu:jP3 X hi th):jE3 X (.Subscript e (.Slice lo hi none p2) pos) (QY te tl th):=
 ⟨YZ (WW ((MD.or SL).or KN) he.h hl.h hu.h) λ_ _ _ ⟨τ,G,q,rl,h,af⟩=>zp rl h λx G1 h1 v H1 rx hr1 k1 rl1=>
  ⟨τ,G1,_,rl1,h1,λl G2 h2 H2 hr2 k2=>⟨τ,G2,_,rl1.next hr2 k2,h2,λu G3 h3 H3 hr3 k3=>by
   have kk:=(k1.trans k2).trans k3;have rx3:=(rx.keep hr1 k2).keep hr2 k3;cases x<;>try exact h3.elim
   case tup xs=>
    cases rx3 with
    |tup hs rs=>
     by_cases hw:HT.sIx xs.length 0 l=0/\HT.sIx xs.length xs.length u=xs.length
     ·refine .inr ⟨_,_,rfl,hs,by rw [← rs.length];exact hw,?_⟩;have e:JB xs l u=xs:=by unfold JB;rw [hw.1,hw.2];simp
      have h4:q (.tup (JB xs l u)) G3:=h3;rw [e] at h4;exact af _ G3 h4 _ _ (.tup hs rs) hr3 kk
     ·refine .inl (.inl ⟨_,_,rfl,hs,by rw [← rs.length];exact hw,λp hp=>?_⟩);exact af _ G3 h3 _ _ (.tup (SqT.of za) ((rs.cut _ _).keep hr3 (Kp.laid hp))) (hr3.laid hp) (kk.trans (Kp.laid hp))
   case ref p=>
    unfold qf3 at h3;simp only at h3;split at h3
    ·rename_i xs e0;cases rx3;obtain ⟨vs,hs,rs⟩:=zA hr3 e0;refine .inl (.inr ⟨p,vs,rfl,hs,λa ha=>?_⟩);exact af _ _ (h3 a (hr3.free ha)) _ _ (.ref a) (hr3.newL ha (rs.cut _ _)) (kk.trans (Kp.newL ha))
    ·exact h3.elim⟩⟩⟩
end
end L3
namespace HT
open PySem PySem.Spec PyProof.Rows
section
variable {prog:Program} {w:World} {A:Around} {E:Value->Shared->Prop} {s:Shared}
end
end HT
namespace L3
open PySem PySem.Spec PyProof.Rows L2
section
variable {X:Cx} {e ek:Expr} {p2 pos:Pos}
end
section
variable {X:Cx} {a b:Expr} {ta tb:TE3} {pos:Pos}
end
abbrev Rd (sp:Sp3) (n:Nat) (t:TS3) (N:List Str):Prop:=∀ ts G q,sp ts G q->ts.length=n/\t { nx:=λ_ G'=>q .non G',rt:=q } (qx N ts) G
def jgn {pos:Pos} {X:Cx} {x:Str} (i:Nat) (hN:decide X.N.Nodup=true:=by kernel_rfl) (hi:X.N[i]?=some x:=by rfl) (hx:Loc X.env.scope x:=by first|exact Or.inl rfl|exact Or.inr rfl) (hf:X.fn x=true\/X.env.scope.names.lookup x=some .local:=by first|exact .inl rfl|exact .inr rfl):jG3 X (.Name x pos) (gn3 i):=
 JI (of_decide_eq_true hN) hi hx hf
end L3
namespace L2
open PySem PySem.Spec PyProof.Rows
section
variable {X:Cx} {pos:Pos}
end
end L2
namespace L3
open PySem PySem.Spec PyProof.Rows L2
section
variable {X:Cx} {pos:Pos}
end
end L3
namespace HT
open PySem PyProof.Rows
section
variable {prog:Program} {w:World} {A:Around} {E:Value->Shared->Prop} {s:Shared}
abbrev oS (led:Bool):Obj:={ cls:=.type "set",dict:=none,data:=.set #[] 0 (.fresh 0 0 led) }
end
end HT
namespace L3
open PySem PySem.Spec PyProof.Rows L2
section
variable {X:Cx}
end
end L3
namespace Tb8
open PySem PySem.SetTable
def Up (xs:Array Nat):Prop:=∀ a b,a<b->b<xs.size->xs.getD a 0<xs.getD b 0
def gD {xs:Array Nat} {i d e:Nat} (h:i<xs.size):xs.getD i d=xs.getD i e:=by simp [Array.getD,h]
def Up.le {xs:Array Nat} (u:Up xs) {a b:Nat} (h:a<=b) (hb:b<xs.size):xs.getD a 0<=xs.getD b 0:=by
 rcases Nat.lt_or_ge a b with z|z
 ·exact Nat.le_of_lt (u a b z hb)
 ·rw [show a=b by omega];exact Nat.le_refl _
structure Bel (xs:Array Nat) (j r:Nat):Prop where
 le:r<=xs.size
 lo:∀ i,i<r->xs.getD i 0<j
 hi:∀ i,r<=i->i<xs.size->j<=xs.getD i 0
def UB {xs:Array Nat} {j:Nat} (u:Up xs):∀ (fuel lo hi:Nat),lo<=hi->hi<=xs.size->hi-lo<=fuel->(∀ i,i<lo->xs.getD i 0<j)->(∀ i,hi<=i->i<xs.size->j<=xs.getD i 0)->Bel xs j (below.go xs j fuel lo hi)
 |0,lo,hi,h1,h2,h3,h4,h5=>by
  obtain rfl:lo=hi:=by omega
  exact ⟨h2,h4,h5⟩
 |fuel+1,lo,hi,h1,h2,h3,h4,h5=>by
  unfold below.go;by_cases c:lo<hi
  ·have hm:(lo+hi)/2<xs.size:=by omega
   rw [if_pos c];simp only;rw [gD (e:=0) hm];by_cases c2:xs.getD ((lo+hi)/2) 0<j
   ·rw [if_pos c2];exact UB u fuel _ _ (by omega) h2 (by omega) (λi hi'=>Nat.lt_of_le_of_lt (u.le (show i<=(lo+hi)/2 by omega) hm) c2) h5
   ·rw [if_neg c2];exact UB u fuel _ _ (by omega) (by omega) (by omega) h4 λi hi' hs=>Nat.le_trans (Nat.le_of_not_lt c2) (u.le hi' hs)
  ·rw [if_neg c];obtain rfl:lo=hi:=by omega
   exact ⟨h2,h4,h5⟩
def XD {xs:Array Nat} {j:Nat} (u:Up xs):Bel xs j (below xs j):=UB u _ _ _ (Nat.zero_le _) (Nat.le_refl _) (Nat.le_refl _) (λi h=>absurd h (Nat.not_lt_zero i)) λi h hs=>absurd hs (by omega)
def LB {xs:Array Nat} {i j:Nat} (h:xs[i]?=some j):i<xs.size/\xs.getD i 0=j:=by
 obtain ⟨h1,h2⟩:=Array.getElem?_eq_some_iff.mp h;exact ⟨h1,by simp [Array.getD,h1,h2]⟩
def UI {xs:Array Nat} {i:Nat} (h:i<xs.size):xs[i]?=some (xs.getD i 0):=by simp [Array.getD,h]
def KI {xs:Array Nat} {i j:Nat} (u:Up xs) (h:xs[i]?=some j):below xs j=i:=by
 obtain ⟨h1,h2⟩:=LB h;have B:=XD (j:=j) u;rcases Nat.lt_trichotomy (below xs j) i with z|z|z
 ·have:=B.hi _ (Nat.le_refl _) (by omega);have:=u _ _ z h1;omega
 ·exact z
 ·have:=B.lo i z;omega
def ZQ {t:SetTable} {i j:Nat} (u:Up t.place) (h:t.place[i]?=some j):t.slot j=.live i:=by
 unfold SetTable.slot;simp only;rw [KI u h,h];simp
def VO {t:SetTable} {j:Nat} (d:t.dummies=#[]) (h:∀ i:Nat,t.place[i]?≠some j):t.slot j=.empty:=by
 unfold SetTable.slot;simp only;rw [if_neg (by simpa using h _),if_neg];unfold has;rw [d];simp
def E8 {t:SetTable} (u:Up t.place) (d:t.dummies=#[]) (j:Nat):(t.slot j=.empty/\∀ i:Nat,t.place[i]?≠some j)\/∃ i:Nat,t.slot j=.live i/\t.place[i]?=some j:=by
 by_cases c:∃ i:Nat,t.place[i]?=some j
 ·obtain ⟨i,h⟩:=c;exact .inr ⟨i,ZQ u h,h⟩
 ·have c':∀ i:Nat,t.place[i]?≠some j:=λi h=>c ⟨i,h⟩;exact .inl ⟨VO d c',c'⟩
def adv (M:Nat) (p:Probe):Probe:=
 if p.more > 0 then { p with j:=p.j+1,more:=p.more-1 } else
 { p with j:=(leap M p.i p.perturb).1,more:=runEnd M (leap M p.i p.perturb).1-(leap M p.i p.perturb).1,i:=(leap M p.i p.perturb).1,perturb:=(leap M p.i p.perturb).2 }
def qel (t:SetTable) (p:Probe):t.advance p=adv t.mask p:=rfl
def st (M:Nat) (h:Int):Probe:={ j:=bits h%(M+1),more:=runEnd M (bits h%(M+1))-bits h%(M+1),i:=bits h%(M+1),perturb:=bits h,dummy:=none }
def pth (M:Nat) (h:Int):Nat->Probe
 |0=>st M h
 |n+1=>adv M (pth M h n)
def UZ (M:Nat) (h:Int):∀ n,(pth M h n).dummy=none
 |0=>rfl
 |n+1=>by
  have:=UZ M h n;simp only [pth,adv];split<;>exact this
def W4 {M i:Nat} (h:i<=M):runEnd M i<=M/\i<=runEnd M i/\runEnd M i<=i+9:=by unfold runEnd;split<;>omega
def MH (M:Nat) (h:Int):∀ n,(pth M h n).j+(pth M h n).more<=M
 |0=>by
  have:=Nat.mod_lt (bits h) (show 0<M+1 by omega);have:=W4 (M:=M) (i:=bits h%(M+1)) (by omega);simp only [pth,st];omega
 |n+1=>by
  have ih:=MH M h n;simp only [pth,adv];split
  ·simp only;omega
  ·have:(leap M (pth M h n).i (pth M h n).perturb).1<M+1:=Nat.mod_lt _ (by omega);have:=W4 (M:=M) (i:=(leap M (pth M h n).i (pth M h n).perturb).1) (by omega);simp only;omega
def hd (M i p:Nat):Probe:={ j:=i,more:=runEnd M i-i,i:=i,perturb:=p,dummy:=none }
def lv (M:Nat) (h:Int):Nat->Nat×Nat
 |0=>(bits h%(M+1),bits h)
 |k+1=>leap M (lv M h k).1 (lv M h k).2
def qfK {M:Nat} {h:Int} {i p:Nat}:∀ (m n j:Nat),pth M h n={ j:=j,more:=m,i:=i,perturb:=p,dummy:=none }->pth M h (n+m)={ j:=j+m,more:=0,i:=i,perturb:=p,dummy:=none }
 |0,n,j,e=>e
 |m+1,n,j,e=>by
  have e2:pth M h (n+1)={ j:=j+1,more:=m,i:=i,perturb:=p,dummy:=none }:=by
   rw [pth,e,adv];simp
  have:=qfK m (n+1) (j+1) e2;rw [show n+1+m=n+(m+1) by omega,show j+1+m=j+(m+1) by omega] at this;exact this
def LX (M:Nat) (h:Int):∀ k,(lv M h k).1<=M
 |0=>by have:=Nat.mod_lt (bits h) (show 0<M+1 by omega);simp only [lv];omega
 |k+1=>by
  have:(leap M (lv M h k).1 (lv M h k).2).1<M+1:=Nat.mod_lt _ (by omega);simp only [lv];omega
def qej (M:Nat) (h:Int):∀ k,∃ n,n<=10*k/\pth M h n=hd M (lv M h k).1 (lv M h k).2
 |0=>⟨0,by omega,rfl⟩
 |k+1=>by
  obtain ⟨n,hn,e⟩:=qej M h k;have r:=W4 (LX M h k);have w:=qfK _ n _ e;refine ⟨n+(runEnd M (lv M h k).1-(lv M h k).1)+1,by omega,?_⟩;rw [pth,w];rfl
def SK (M:Nat) (h:Int):∀ k,(lv M h k).2=bits h/32 ^ k
 |0=>by simp [lv]
 |k+1=>by
  show (lv M h k).2/32=_;rw [SK M h k,Nat.div_div_eq_div_mul,Nat.pow_succ]
def qa3 (h:Int):bits h<2 ^ 64:=by
 unfold bits;have:=Int.emod_lt_of_pos h (show (0:Int)<2 ^ 64 by decide);have:=Int.emod_nonneg h (show (2 ^ 64:Int)≠0 by decide);omega
def stp (M x:Nat):Nat:=(x*5+1)%(M+1)
def its (M:Nat):Nat->Nat->Nat
 |0,x=>x
 |t+1,x=>stp M (its M t x)
def S6 (M:Nat) (h:Int):∀ t,(lv M h (13+t)).1=its M t (lv M h 13).1
 |0=>rfl
 |t+1=>by
  have z:(lv M h (13+t)).2/32=0:=by
   rw [SK,Nat.div_div_eq_div_mul,← Nat.pow_succ];refine Nat.div_eq_of_lt (Nat.lt_of_lt_of_le (qa3 h) ?_);exact Nat.le_trans (show 2 ^ 64<=32 ^ 14 by decide) (Nat.pow_le_pow_right (by omega) (by omega))
  show ((lv M h (13+t)).1*5+1+(lv M h (13+t)).2/32)%(M+1)=stp M (its M t _);rw [z,S6 M h t];rfl
def TU (M:Nat):Prop:=∀ x,x<=M->∀ c,c<=M->∃ t,t<=M/\its M t x=c
def qe1:TU 7:=by
 have:∀ x:Fin 8,∀ c:Fin 8,∃ t:Fin 8,its 7 t.val x.val=c.val:=by decide +kernel
 intro x hx c hc;obtain ⟨t,ht⟩:=this ⟨x,by omega⟩ ⟨c,by omega⟩;exact ⟨t.val,by omega,ht⟩
def qcL:TU 31:=by
 have:∀ x:Fin 32,∀ c:Fin 32,∃ t:Fin 32,its 31 t.val x.val=c.val:=by decide +kernel
 intro x hx c hc;obtain ⟨t,ht⟩:=this ⟨x,by omega⟩ ⟨c,by omega⟩;exact ⟨t.val,by omega,ht⟩
def qcN {M:Nat} (F:TU M) (h:Int) {c:Nat} (hc:c<=M):∃ n,n<10*turns M/\(pth M h n).j=c:=by
 obtain ⟨t,ht,e⟩:=F _ (LX M h 13) c hc;obtain ⟨n,hn,e2⟩:=qej M h (13+t);refine ⟨n,by unfold turns;omega,?_⟩;rw [e2,hd,S6,e]
def RB {P:Nat->Prop} {n:Nat} (h:P n):∃ m,m<=n/\P m/\∀ k,k<m->¬ P k:=by
 induction n using Nat.strongRecOn with
 |_ n ih=>
  by_cases c:∃ k,k<n/\P k
  ·obtain ⟨k,hk,pk⟩:=c;obtain ⟨m,hm,r⟩:=ih k hk pk;exact ⟨m,by omega,r⟩
  ·exact ⟨n,Nat.le_refl _,h,λk hk pk=>c ⟨k,hk,pk⟩⟩
def qa1 {xs:Array Nat} {M:Nat} (u:Up xs) (h:xs.size<=M):∃ c,c<=M/\∀ i:Nat,xs[i]?≠some c:=by
 by_cases c:∃ c,c<=M/\∀ i:Nat,xs[i]?≠some c
 ·exact c
 exfalso;have all:∀ c,c<=M->∃ i:Nat,xs[i]?=some c:=λd hd=>by
  by_cases z:∃ i:Nat,xs[i]?=some d
  ·exact z
  ·exact absurd ⟨d,hd,λi e=>z ⟨i,e⟩⟩ c
 have ge:∀ i,i<xs.size->i<=xs.getD i 0:=by
  intro i;induction i with
  |zero=>intro _;exact Nat.zero_le _
  |succ i ih=>
   intro hi;have:=ih (by omega);have:=u i (i+1) (by omega) hi;omega
 obtain ⟨i,hi⟩:=all M (Nat.le_refl _);obtain ⟨i1,i2⟩:=LB hi;obtain ⟨m,hm,⟨m1,m2⟩,hl⟩:=RB (P:=λi=>i<xs.size/\i<xs.getD i 0) (n:=i) ⟨i1,by omega⟩;obtain ⟨k,hk⟩:=all m (by omega);obtain ⟨k1,k2⟩:=LB hk;rcases Nat.lt_or_ge k m with z|z
 ·have a:=ge k k1;have b:=hl k z;have:¬ k<xs.getD k 0:=λq=>b ⟨k1,q⟩;omega
 ·have:=u.le z k1;omega
def XV {t:SetTable} {h:Int} (F:TU t.mask) (u:Up t.place) (d:t.dummies=#[]) (s:t.place.size<=t.mask):∃ e,e<10*turns t.mask/\t.slot (pth t.mask h e).j=.empty/\∀ k,k<e->t.slot (pth t.mask h k).j≠.empty:=by
 obtain ⟨c,hc,hf⟩:=qa1 u s;obtain ⟨n,hn,e⟩:=qcN F h hc;obtain ⟨m,hm,pm,hl⟩:=RB (P:=λn=>t.slot (pth t.mask h n).j=.empty) (n:=n) (by rw [e];exact VO d hf);exact ⟨m,by omega,pm,hl⟩
def CV {t:SetTable} {hA:Nat->Int} {h:Int}:∀ (m fuel n:Nat),(∀ k,k<m->∃ i,t.slot (pth t.mask h (n+k)).j=.live i/\(hA i==h)=false)->m<=fuel->probe.go t hA h fuel (pth t.mask h n)=probe.go t hA h (fuel-m) (pth t.mask h (n+m))
 |0,fuel,n,_,_=>rfl
 |m+1,0,n,_,hf=>by omega
 |m+1,fuel+1,n,hs,hf=>by
  obtain ⟨i,e1,e2⟩:=hs 0 (by omega);rw [Nat.add_zero] at e1;rw [probe.go,e1];simp only [e2,Bool.false_eq_true,if_false];have:=CV m fuel (n+1) (λk hk=>by rw [show n+1+k=n+(k+1) by omega];exact hs (k+1) (by omega)) (by omega);rw [qel,← pth,this,show n+1+m=n+(m+1) by omega,show fuel+1-(m+1)=fuel-m by omega]
def KJ {t:SetTable} {hA:Nat->Int} {h:Int} {fuel n:Nat} (e:t.slot (pth t.mask h n).j=.empty) (hf:0<fuel):probe.go t hA h fuel (pth t.mask h n)=some (.empty (pth t.mask h n).j none):=by
 obtain ⟨f,rfl⟩:∃ f,fuel=f+1:=⟨fuel-1,by omega⟩
 rw [probe.go,e,UZ]
def qaL {t:SetTable} {hA:Nat->Int} {h:Int} {fuel n i:Nat} (e:t.slot (pth t.mask h n).j=.live i) (eh:(hA i==h)=true) (hf:0<fuel):probe.go t hA h fuel (pth t.mask h n)=some (.candidate (pth t.mask h n).j i (pth t.mask h (n+1))):=by
 obtain ⟨f,rfl⟩:∃ f,fuel=f+1:=⟨fuel-1,by omega⟩
 rw [probe.go,e];simp only [eh,if_true];rfl
def ins {α:Type} (l:List α) (p:Nat) (x:α):List α:=l.take p++x::l.drop p
def V3 {α:Type} {l:List α} {p:Nat} {x:α} (h:p<=l.length):(ins l p x).length=l.length+1:=by simp [ins];omega
def RP {α:Type} {l:List α} {p:Nat} {x:α} (h:p<=l.length) (i:Nat):(ins l p x)[i]?=if i<p then l[i]? else if i=p then some x else l[i-1]?:=by
 have e:(l.take p).length=p:=by simp;omega
 unfold ins;split
 ·rename_i c;rw [List.getElem?_append_left (by omega),List.getElem?_take_of_lt c]
 ·rw [List.getElem?_append_right (by omega),e];split
  ·rename_i c;subst c;simp
  ·rename_i c1 c2;obtain ⟨k,rfl⟩:∃ k,i=p+(k+1):=⟨i-p-1,by omega⟩
   rw [show p+(k+1)-p=k+1 by omega,getElem?_cons_succ,List.getElem?_drop,show p+(k+1)-1=p+k by omega]
def Z8 {α:Type} (xs:Array α) (p:Nat) (x:α) (h:p<=xs.size):(insertAt xs p x).toList=ins xs.toList p x:=by
 unfold insertAt ins;simp;exact List.take_of_length_le (by simp)
structure Ok8 (t:SetTable) (hs:List Int):Prop where
 up:Up t.place
 dm:t.dummies=#[]
 sz:t.place.size=hs.length
 fl:hs.length<=t.mask
 le:∀ (i j:Nat),t.place[i]?=some j->j<=t.mask
 fu:TU t.mask
 od:t.mask%2=1
 wy:∀ (i j:Nat) (h:Int),t.place[i]?=some j->hs[i]?=some h->∃ m,(pth t.mask h m).j=j/\∀ k,k<m->t.slot (pth t.mask h k).j≠.empty
def Ok8.ne {t:SetTable} {hs:List Int} (o:Ok8 t hs) {j:Nat}:t.slot j≠.empty↔∃ i:Nat,t.place[i]?=some j:=by
 rcases E8 o.up o.dm j with ⟨e,h⟩|⟨i,e,h⟩
 ·exact ⟨λz=>absurd e z,λ⟨i,z⟩=>absurd z (h i)⟩
 ·exact ⟨λ_=>⟨i,h⟩,λ_ z=>by rw [e] at z;cases z⟩
def XY {α:Type} (xs:Array α) (i:Nat):xs[i]?=xs.toList[i]?:=by simp
def Ok8.put {t:SetTable} {hs:List Int} (o:Ok8 t hs) {j:Nat} {h:Int} (he:t.slot j=.empty) (hj:j<=t.mask) (hf:hs.length+1<=t.mask) (w:∃ m,(pth t.mask h m).j=j/\∀ k,k<m->t.slot (pth t.mask h k).j≠.empty) :
  (t.put j).2<=hs.length/\Ok8 (t.put j).1 (ins hs (t.put j).2 h)/\(t.put j).1.mask=t.mask:=by
 have hn:∀ i:Nat,t.place[i]?≠some j:=λi z=>(o.ne.mpr ⟨i,z⟩) he;have B:=XD (j:=j) o.up;obtain ⟨p,hp⟩:∃ p,p=below t.place j:=⟨_,rfl⟩
 have hd:has t.dummies j=false:=by unfold has;rw [o.dm];simp
 have e1:(t.put j).1={ t with place:=insertAt t.place p j }:=by
  unfold SetTable.put;simp only [hd,hp];rfl
 have e2:(t.put j).2=p:=by unfold SetTable.put;rw [hp]
 rw [← hp] at B;have pl:p<=t.place.size:=B.le;have pl':p<=hs.length:=by rw [← o.sz];exact pl
 have gt:∀ i:Nat,(insertAt t.place p j)[i]?=if i<p then t.place[i]? else if i=p then some j else t.place[i-1]?:=λi=>by
  rw [XY,Z8 _ _ _ pl,RP (by simpa using pl),XY,XY]
 have hz:(insertAt t.place p j).size=t.place.size+1:=by
  rw [← Array.length_toList,Z8 _ _ _ pl,V3 (by simpa using pl),Array.length_toList]
 rw [e1,e2];have up':Up (insertAt t.place p j):=by
  intro a b hab hb;rw [hz] at hb;have ga:=gt a;have gb:=gt b;have da:(insertAt t.place p j)[a]?=some ((insertAt t.place p j).getD a 0):=UI (by rw [hz];omega);have db:(insertAt t.place p j)[b]?=some ((insertAt t.place p j).getD b 0):=UI (by rw [hz];omega);rw [da] at ga;rw [db] at gb;generalize (insertAt t.place p j).getD a 0=x at ga ⊢;generalize (insertAt t.place p j).getD b 0=y at gb ⊢;have gtj:∀ i:Nat,p<=i->i<t.place.size->j<t.place.getD i 0:=λi h1 h2=>by
   have a1:=B.hi i h1 h2;have a2:t.place.getD i 0≠j:=λz=>hn i (by rw [UI h2,z]);omega
  by_cases c1:a<p
  ·rw [if_pos c1,UI (by omega)] at ga;cases ga;by_cases c2:b<p
   ·rw [if_pos c2,UI (by omega)] at gb;cases gb;exact o.up a b hab (by omega)
   ·rw [if_neg c2] at gb;by_cases c3:b=p
    ·rw [if_pos c3] at gb;cases gb;exact B.lo a c1
    ·rw [if_neg c3,UI (by omega)] at gb;cases gb;exact Nat.lt_trans (B.lo a c1) (gtj _ (by omega) (by omega))
  ·rw [if_neg c1] at ga;have c2:¬ b<p:=by omega
   have c3:¬ b=p:=by omega
   rw [if_neg c2,if_neg c3,UI (by omega)] at gb;cases gb;by_cases c4:a=p
   ·rw [if_pos c4] at ga;cases ga;exact gtj _ (by omega) (by omega)
   ·rw [if_neg c4,UI (by omega)] at ga;cases ga;exact o.up _ _ (by omega) (by omega)
 have ne':∀ j',t.slot j'≠.empty->SetTable.slot { t with place:=insertAt t.place p j } j'≠.empty:=λj' z=>by
  obtain ⟨i,hi⟩:=o.ne.mp z;have:∃ i':Nat,(insertAt t.place p j)[i']?=some j':=by
   by_cases c:i<p
   ·exact ⟨i,by rw [gt,if_pos c,hi]⟩
   ·exact ⟨i+1,by rw [gt,if_neg (by omega),if_neg (by omega),Nat.add_sub_cancel,hi]⟩
  obtain ⟨i',hi'⟩:=this;rw [ZQ (t:={ t with place:=insertAt t.place p j }) up' hi'];exact λz=>by cases z
 refine ⟨pl',⟨up',o.dm,by rw [V3 pl'];simp only;rw [hz,o.sz],by rw [V3 pl'];exact hf,λi j' hi=>?_,o.fu,o.od,λi j' h' hi hh=>?_⟩,rfl⟩
 ·simp only at hi;rw [gt] at hi;split at hi
  ·exact o.le _ _ hi
  ·split at hi
   ·cases hi;exact hj
   ·exact o.le _ _ hi
 ·simp only at hi;rw [gt] at hi;rw [RP pl'] at hh;have go:∀ i0:Nat,t.place[i0]?=some j'->hs[i0]?=some h'->∃ m,(pth t.mask h' m).j=j'/\∀ k,k<m->SetTable.slot { t with place:=insertAt t.place p j } (pth t.mask h' k).j≠.empty:=λi0 a b=>by
   obtain ⟨m,m1,m2⟩:=o.wy i0 j' h' a b;exact ⟨m,m1,λk hk=>ne' _ (m2 k hk)⟩
  split at hi
  ·rename_i c;rw [if_pos c] at hh;exact go i hi hh
  ·rename_i c;rw [if_neg c] at hh;split at hi
   ·rename_i c2;rw [if_pos c2] at hh;cases hi;cases hh;obtain ⟨m,m1,m2⟩:=w;exact ⟨m,m1,λk hk=>ne' _ (m2 k hk)⟩
   ·rename_i c2;rw [if_neg c2] at hh;exact go _ hi hh
def Ok8.fresh (f m:Nat) (led:Bool):Ok8 (SetTable.fresh f m led) []:=by
 refine ⟨λa b h hb=>?_,rfl,rfl,Nat.zero_le _,λi j h=>?_,qe1,(by show 7%2=1;rfl),λi j h a b=>?_⟩
 ·simp [SetTable.fresh] at hb
 ·simp [SetTable.fresh] at h
 ·simp at b
end Tb8
namespace Tb8
open PySem PyProof.Rows
section
variable {prog:Program} {w:World} {A:Around} {E:Value->Shared->Prop} {s:Shared}
abbrev IsP (prog:Program) (w:World) (h:Heap) (k:List Int) (a:Addr):Prop:=IsTupleKey (intKind prog w) h k a
abbrev hsh (prog:Program) (w:World) (k:List Int):Int:=tupleKeyHash (intKind prog w) k
def qex {k:Int} {v:Value} (h:(intKind prog w).is k v=true):∃ t,v=.int k t:=by
 cases v<;>first|(cases h;done)|skip
 case int i t=>
  have:i=k:=by simpa [intKind,Value.isInt] using h
  exact ⟨t,by rw [this]⟩
def N5 {ks:List Int} {vs:List Value} (h:ItemsAre (intKind prog w) ks vs):∀ v∈vs,∃ i t,v=Value.int i t:=by
 induction h with
 |nil=>intro v hv;cases hv
 |cons h1 _ ih=>
  intro v hv;rcases mem_cons.mp hv with rfl|hv
  ·obtain ⟨t,e⟩:=qex h1;exact ⟨_,t,e⟩
  ·exact ih v hv
def qgK {k:List Int} {a:Addr} {Q:Bool->Shared->Prop} (hk:IsP prog w s.heap k a) (h:Q false s):wpAny (model prog w) A (ofAClassStatement 8 (.ref a)) Q E s:=by
 have hT:=hk.typeIs;obtain ⟨o,items,n,ho,_,hd,hi⟩:=hk;unfold ofAClassStatement;refine wpAny_bind (wpAny_typeOf hT ?_);simp only [beq_self_eq_true,if_true];refine wpAny_bind (wpAny_pure ?_);simp only [Bool.not_true,Bool.false_eq_true,if_false];refine wpAny_bind (wpAny_seqItems ho hd ?_);refine wpAny_bind ?_;show wpAny _ _ (forIn items _ _) _ _ s;rw [← Array.forIn_toList];refine wpAny_forIn_list _ (λje r s'=>r.1=none/\s'=s/\∀ v∈je,∃ i t,v=Value.int i t) _ ?_ ?_ _ _ ⟨rfl,rfl,N5 hi⟩
 ·rintro v je r s' ⟨hr,rfl,hall⟩;obtain ⟨i,t,rfl⟩:=hall v List.mem_cons_self;refine wpAny_bind (wpAny_pure ?_);simp only [Bool.false_eq_true,if_false];exact wpAny_pure ⟨rfl,rfl,λu hu=>hall u (List.mem_cons_of_mem _ hu)⟩
 ·rintro ⟨r1,r2⟩ s' ⟨hr,rfl,_⟩;simp only at hr;subst hr;exact wpAny_pure h
def qgD {k:List Int} {a:Addr} {ys:List Value} {Q:Bool->Shared->Prop} (hk:IsP prog w s.heap k a) (hy:∀ y∈ys,∃ k' b,y=Value.ref b/\IsP prog w s.heap k' b) (h:Q false s):wpAny (model prog w) A (searchCouldBeSeen (.ref a) ys) Q E s:=by
 unfold searchCouldBeSeen;refine wpAny_bind ?_;refine wpAny_forIn_list _ (λje r s'=>r.1=none/\s'=s/\∀ y∈je,∃ k' b,y=Value.ref b/\IsP prog w s.heap k' b) _ ?_ ?_ _ _ ⟨rfl,rfl,hy⟩
 ·rintro y je r s' ⟨hr,rfl,hall⟩;obtain ⟨k',b,rfl,hb⟩:=hall y List.mem_cons_self;have nx:∀ y∈je,∃ k' b,y=Value.ref b/\IsP prog w s'.heap k' b:=λu hu=>hall u (List.mem_cons_of_mem _ hu);simp only;refine wpAny_ite ?_;split
  ·exact wpAny_pure ⟨rfl,rfl,nx⟩
  refine wpAny_bind (wpAny_eqIsQuiet_tuple hk ?_);simp only [Bool.not_true,Bool.false_eq_true,if_false];refine wpAny_bind (wpAny_eqIsQuiet_tuple hb ?_);simp only [Bool.not_true,Bool.false_eq_true,if_false];refine wpAny_bind (qgK hk ?_);simp only [Bool.false_eq_true,if_false];refine wpAny_bind (qgK hb ?_);simp only [Bool.false_eq_true,if_false];exact wpAny_pure ⟨rfl,rfl,nx⟩
 ·rintro ⟨r1,r2⟩ s' ⟨hr,rfl,_⟩;simp only at hr;subst hr;exact wpAny_pure h
def qho {k:List Int} {a:Addr} {Q:Bool->Shared->Prop} (hk:IsP prog w s.heap k a) (h:∀ b,Q b s):wpAny (model prog w) A (hashByValue 8 (.ref a)) Q E s:=by
 have hT:=hk.typeIs;obtain ⟨o,items,n,ho,_,hd,hi⟩:=hk;unfold hashByValue;refine wpAny_bind (wpAny_specialOf hT F.slot_tuple_hash.lookup ?_);simp only;refine wpAny_bind (wpAny_seqItems ho hd ?_);simp only [Option.getD_some];refine wpAny_bind ?_;show wpAny _ _ (forIn items _ _) _ _ s;rw [← Array.forIn_toList];refine wpAny_forIn_list _ (λje r s'=>r.1=none/\s'=s/\∀ v∈je,∃ i t,v=Value.int i t) _ ?_ ?_ _ _ ⟨rfl,rfl,N5 hi⟩
 ·rintro v je r s' ⟨hr,rfl,hall⟩;obtain ⟨i,t,rfl⟩:=hall v List.mem_cons_self;refine wpAny_bind (wpAny_pure ?_);simp only [Bool.not_true,Bool.false_eq_true,if_false];exact wpAny_pure ⟨rfl,rfl,λu hu=>hall u (List.mem_cons_of_mem _ hu)⟩
 ·rintro ⟨r1,r2⟩ s' ⟨hr,rfl,_⟩;simp only at hr;subst hr;exact wpAny_pure (h _)
end
end Tb8
namespace Tb8
open PySem PyProof.Rows PySem.SetTable
section
variable {prog:Program} {w:World} {A:Around} {E:Value->Shared->Prop} {s:Shared}
def ent (prog:Program) (w:World) (q:List Int×Addr):Int×Value:=(hsh prog w q.1,.ref q.2)
structure PS (prog:Program) (w:World) (h:Heap) (S:Addr) (en:List (List Int×Addr)) (o:Obj) (es:Array (Int×Value)) (ep:Nat) (t:SetTable):Prop where
 ho:h.get? S=some o
 hc:o.ExactSet
 hd:o.data=.set es ep t
 he:es.toList=en.map (ent prog w)
 hP:∀ q∈en,IsP prog w h q.1 q.2
 ok:Ok8 t (en.map λq=>hsh prog w q.1)
 nd:(en.map (·.1)).Nodup
def PS.sz {h:Heap} {S:Addr} {en:List (List Int×Addr)} {o:Obj} {es:Array (Int×Value)} {ep:Nat} {t:SetTable} (p:PS prog w h S en o es ep t):es.size=en.length:=by
 have:=congrArg List.length p.he;simpa using this
def PS.fits {h:Heap} {S:Addr} {en:List (List Int×Addr)} {o:Obj} {es:Array (Int×Value)} {ep:Nat} {t:SetTable} (p:PS prog w h S en o es ep t):t.fits es.size=true:=by
 have a:=p.ok.sz;have b:=p.ok.fl;rw [length_map] at a b;have c:t.fill=t.place.size:=by unfold SetTable.fill;rw [p.ok.dm];rfl
 unfold SetTable.fits;rw [p.sz,c,a];simp [b]
def PS.at_ {h:Heap} {S:Addr} {en:List (List Int×Addr)} {o:Obj} {es:Array (Int×Value)} {ep:Nat} {t:SetTable} (p:PS prog w h S en o es ep t) (i:Nat):es[i]?=(en[i]?).map (ent prog w):=by
 rw [XY,p.he,getElem?_map]
def qa4 {S:Addr} {en:List (List Int×Addr)} {o:Obj} {es:Array (Int×Value)} {ep:Nat} {t:SetTable} {k:List Int} {a:Addr} {e:Nat} {Q:SetFound->Shared->Prop} (hu:A.units<cLine) (p:PS prog w s.heap S en o es ep t) (hk:IsP prog w s.heap k a)
  (e0:e<10*turns t.mask) (e1:t.slot (pth t.mask (hsh prog w k) e).j=.empty) (e2:∀ m,m<e->t.slot (pth t.mask (hsh prog w k) m).j≠.empty)
  (q1:k∈en.map (·.1)->Q (.there none) s) (q2:k∉en.map (·.1)->Q (.free (pth t.mask (hsh prog w k) e).j false) s) :
  ∀ (d n fuel:Nat) (stand:Option Probe),e-n=d->n<=e->d<fuel->stand.getD (t.probeStart (hsh prog w k))=pth t.mask (hsh prog w k) n ->
   (∀ m,m<n->∀ i q,t.slot (pth t.mask (hsh prog w k) m).j=.live i->en[i]?=some q->q.1≠k) ->
   wpAny (model prog w) A (setSearchFrom S (.ref a) (hsh prog w k) true fuel stand) Q E s:=by
 intro d;induction d using Nat.strongRecOn with
 |_ d ih=>
  intro n fuel stand hd hn hf hst hno;obtain ⟨f,rfl⟩:∃ f,fuel=f+1:=⟨fuel-1,by omega⟩
  obtain ⟨H,hH⟩:∃ H:Nat->Int,H=λi=>(es[i]?.map (·.1)).getD 0:=⟨_,rfl⟩
  have hA:∀ i q,en[i]?=some q->H i=hsh prog w q.1:=λi q hq=>by rw [hH];simp only;rw [p.at_,hq];rfl
  -- the next that is met
  obtain ⟨m,hm1,⟨hm2,hm3⟩,hm4⟩:=RB (P:=λm=>n<=m/\(t.slot (pth t.mask (hsh prog w k) m).j=.empty\/∃ i,t.slot (pth t.mask (hsh prog w k) m).j=.live i/\(H i==hsh prog w k)=true)) (n:=e) ⟨hn,.inl e1⟩;have sk:∀ x,x<m-n->∃ i,t.slot (pth t.mask (hsh prog w k) (n+x)).j=.live i/\(H i==hsh prog w k)=false:=λx hx=>by
   have b:=hm4 (n+x) (by omega);have c:¬ (t.slot (pth t.mask (hsh prog w k) (n+x)).j=.empty\/∃ i,t.slot (pth t.mask (hsh prog w k) (n+x)).j=.live i/\(H i==hsh prog w k)=true):=λz=>b ⟨by omega,z⟩;rcases E8 p.ok.up p.ok.dm (pth t.mask (hsh prog w k) (n+x)).j with ⟨z,_⟩|⟨i,z,_⟩
   ·exact absurd (.inl z) c
   ·refine ⟨i,z,?_⟩;cases z2:(H i==hsh prog w k) with
    |true=>exact absurd (.inr ⟨i,z,z2⟩) c
    |false=>rfl
  have pr:t.probe H (hsh prog w k) (stand.getD (t.probeStart (hsh prog w k)))=SetTable.probe.go t H (hsh prog w k) (10*turns t.mask-(m-n)) (pth t.mask (hsh prog w k) m):=by
   rw [hst];show SetTable.probe.go t H (hsh prog w k) (10*turns t.mask) _=_;rw [CV (m-n) _ n sk (by omega),show n+(m-n)=m by omega]
  have gw:t.gaveWay=false:=by unfold SetTable.gaveWay;rw [p.ok.od];rfl
  unfold setSearchFrom;refine wpAny_bind (wpAny_setState_of p.ho p.hd p.fits ?_);simp only [gw,Bool.false_eq_true,if_false];rw [hH] at pr;rcases hm3 with hm3|⟨i,hm3,hm5⟩
  ·-- a free place
   obtain rfl:m=e:=by
    rcases Nat.lt_or_ge m e with z|z
    ·exact absurd hm3 (e2 m z)
    ·omega
   rw [KJ hm3 (by omega)] at pr;generalize hX:t.probe _ _ _=X;obtain rfl:X=_:=hX.symm.trans pr;simp only;refine wpAny_pure (q2 λhin=>?_)
   -- it would have been met
   obtain ⟨q,hq,rfl⟩:=mem_map.mp hin;obtain ⟨i,hi⟩:=List.mem_iff_getElem?.mp hq;obtain ⟨j,hj⟩:∃ j,t.place[i]?=some j:=by
    have:=(List.getElem?_eq_some_iff.mp hi).1;have sz:=p.ok.sz;rw [length_map] at sz;exact ⟨_,UI (by omega)⟩
   obtain ⟨x,x1,x2⟩:=p.ok.wy i j (hsh prog w q.1) hj (by rw [getElem?_map,hi];rfl);have lv:t.slot (pth t.mask (hsh prog w q.1) x).j=.live i:=by rw [x1];exact ZQ p.ok.up hj
   have xe:x<m:=by
    rcases Nat.lt_trichotomy x m with z|z|z
    ·exact z
    ·rw [z,e1] at lv;cases lv
    ·exact absurd e1 (x2 m z)
   rcases Nat.lt_or_ge x n with z|z
   ·exact hno x z i q lv hi rfl
   ·refine hm4 x xe ⟨z,.inr ⟨i,lv,?_⟩⟩;rw [hA i q hi];simp
  ·-- one with the same hash
   rw [qaL hm3 (by rw [hH] at hm5;exact hm5) (by omega)] at pr;generalize hX:t.probe _ _ _=X;obtain rfl:X=_:=hX.symm.trans pr;simp only;have iP:∃ q,en[i]?=some q:=by
    rcases E8 p.ok.up p.ok.dm (pth t.mask (hsh prog w k) m).j with ⟨z,_⟩|⟨i',z,z2⟩
    ·rw [z] at hm3;cases hm3
    ·rw [hm3] at z;cases z;have:=(LB z2).1;have sz:=p.ok.sz;rw [length_map] at sz;exact ⟨_,getElem?_eq_getElem (by omega)⟩
   obtain ⟨q,hq⟩:=iP;have hqP:=p.hP q (mem_of_getElem? hq);have ei:es[i]?=some (ent prog w q):=by rw [p.at_,hq];rfl
   have sm:t.sameMemory t.moves t.mask=some true:=by unfold SetTable.sameMemory;simp
   have me:m<e:=by
    rcases Nat.lt_or_ge m e with z|z
    ·exact z
    ·rw [show m=e by omega,e1] at hm3;cases hm3
   have je:wpAny (model prog w) A (holding [Value.ref q.2] (eqBool (Value.ref q.2) (Value.ref a)) >>= λequal=>do
     let __x←setState S
     if (true&&equal)=true then pure (SetFound.there none)
     else match __x.2.snd.sameMemory t.moves t.mask with
      |some same=>match if same=true then __x.2.snd.slot (pth t.mask (hsh prog w k) m).j else Slot.empty with
       |Slot.live i'=>match __x.fst[i']? with
        |some (fst,y')=>do
         let __do_lift←isSame y' (Value.ref q.2)
         let still←pure (if __do_lift=true then some i' else none)
         match still with
          |none=>do
           rule "set.search.anew"
           setSearchFrom S (Value.ref a) (hsh prog w k) true f none
          |some i'=>if equal=true then pure (SetFound.there (some i')) else setSearchFrom S (Value.ref a) (hsh prog w k) true f (some (pth t.mask (hsh prog w k) (m+1)))
        |none=>do
         let still←pure none
         match still with
          |none=>do
           rule "set.search.anew"
           setSearchFrom S (Value.ref a) (hsh prog w k) true f none
          |some i'=>if equal=true then pure (SetFound.there (some i')) else setSearchFrom S (Value.ref a) (hsh prog w k) true f (some (pth t.mask (hsh prog w k) (m+1)))
       |x=>do
        let still←pure none
        match still with
         |none=>do
          rule "set.search.anew"
          setSearchFrom S (Value.ref a) (hsh prog w k) true f none
         |some i'=>if equal=true then pure (SetFound.there (some i')) else setSearchFrom S (Value.ref a) (hsh prog w k) true f (some (pth t.mask (hsh prog w k) (m+1)))
      |x=>unsupported "set.changed-during-lookup:is-the-new-block-at-the-old-address") Q E s:=by
    refine wpAny_bind (wpAny_holding (wpAny_eqBool_tuple hu hqP hk ?_));refine wpAny_bind (wpAny_setState_of p.ho p.hd p.fits ?_);by_cases c:q.1=k
    ·rw [decide_eq_true c];simp only [Bool.and_self,if_true];exact wpAny_pure (q1 (mem_map.mpr ⟨q,mem_of_getElem? hq,c⟩))
    ·rw [decide_eq_false c];simp only [Bool.and_false,Bool.false_eq_true,if_false,sm,if_true,hm3,ei,ent];refine wpAny_bind (wpAny_isSame_ref_self ?_);refine wpAny_bind (wpAny_pure ?_);simp only [if_true];refine ih (e-(m+1)) (by omega) (m+1) f _ rfl (by omega) (by omega) rfl λx hx i' q' hl hq'=>?_;rcases Nat.lt_or_ge x n with z|z
     ·exact hno x z i' q' hl hq'
     rcases Nat.lt_or_ge x m with z2|z2
     ·obtain ⟨i2,y1,y2⟩:=sk (x-n) (by omega);rw [show n+(x-n)=x by omega,hl] at y1;cases y1;rw [hA _ _ hq'] at y2;exact λz3=>by rw [z3] at y2;simp at y2
     ·obtain rfl:x=m:=by omega
      rw [hm3] at hl;cases hl;rw [hq] at hq';cases hq';exact c
   cases t.led with
   |true=>
    simp only [Bool.not_true,Bool.false_eq_true,if_false,ei,ent];exact je
   |false=>
    simp only [Bool.not_false,if_true];refine wpAny_bind (qgD hk (λy hy=>?_) ?_)
    ·obtain ⟨x,hx,rfl⟩:=mem_map.mp hy;have hx2:x∈es.toList:=by
      have:=Array.mem_toList_iff.mp hx;exact Array.mem_toList_iff.mpr (Array.mem_of_mem_filter this)
     rw [p.he] at hx2;obtain ⟨q',hq',rfl⟩:=mem_map.mp hx2;exact ⟨q'.1,q'.2,rfl,p.hP q' hq'⟩
    ·simp only [Bool.false_eq_true,if_false,ei,ent];exact je
end
end Tb8
namespace Tb8
open PySem PySem.SetTable
def own (ow:Array (Option Nat)) (j:Nat):Option Nat:=ow.getD j (some 0)
def WS {M:Nat} {h:Int} {c n:Nat} (e:pth M h n=hd M (lv M h c).1 (lv M h c).2) {k:Nat} (hk:(lv M h c).1+k<=runEnd M (lv M h c).1):(pth M h (n+k)).j=(lv M h c).1+k:=by
 have key:∀ k,(lv M h c).1+k<=runEnd M (lv M h c).1->pth M h (n+k)={ j:=(lv M h c).1+k,more:=runEnd M (lv M h c).1-((lv M h c).1+k),i:=(lv M h c).1,perturb:=(lv M h c).2,dummy:=none }:=by
  intro k;induction k with
  |zero=>intro _;exact e
  |succ k ih=>
   intro hk;have:=ih (by omega);rw [← Nat.add_assoc,pth,this,adv];simp only;rw [if_pos (by omega)];congr 1
 rw [key k hk]
def L6 {M:Nat} {h:Int} {c n:Nat} (e:pth M h n=hd M (lv M h c).1 (lv M h c).2):pth M h (n+(runEnd M (lv M h c).1-(lv M h c).1)+1)=hd M (lv M h (c+1)).1 (lv M h (c+1)).2:=by
 rw [pth,qfK _ n _ e];rfl
def EV {n:Nat} {P:Nat->Bool} (h:(List.range n).find? P=none):∀ k,k<n->P k=false:=λk hk=>by
 have:=List.find?_eq_none.mp h k (mem_range.mpr hk);simpa using this
def S8 {P:Nat->Bool}:∀ {n k:Nat},(List.range n).find? P=some k->k<n/\P k=true/\∀ i,i<k->P i=false:=by
 intro n;induction n with
 |zero=>intro k h;simp at h
 |succ n ih=>
  intro k h;rw [List.range_succ,List.find?_append] at h;cases e:(List.range n).find? P with
  |some k'=>
   rw [e] at h;simp at h;subst h;obtain ⟨a,b,c⟩:=ih e;exact ⟨by omega,b,c⟩
  |none=>
   rw [e] at h;simp [List.find?_cons] at h;split at h
   ·rename_i z;cases h;exact ⟨by omega,z,EV e⟩
   ·cases h
def qdj {M:Nat} {h:Int} {ow:Array (Option Nat)}:∀ (fuel c n:Nat),pth M h n=hd M (lv M h c).1 (lv M h c).2->(∀ m,m<n->own ow (pth M h m).j≠none)->(∃ c',c<=c'/\c'<c+fuel/\own ow (lv M h c').1=none) ->
  ∃ m,layClean.free M ow fuel (lv M h c).1 (lv M h c).2=some (pth M h m).j/\own ow (pth M h m).j=none/\∀ m',m'<m->own ow (pth M h m').j≠none
 |0,c,n,_,_,⟨c',h1,h2,_⟩=>by omega
 |fuel+1,c,n,e,hn,⟨c',h1,h2,h3⟩=>by
  have r:=W4 (LX M h c);rw [layClean.free];cases f:(List.range (runEnd M (lv M h c).1+1-(lv M h c).1)).find? (λk=>(ow.getD ((lv M h c).1+k) (some 0)).isNone) with
  |some k=>
   obtain ⟨k1,k2,k3⟩:=S8 f;refine ⟨n+k,?_,?_,λm' hm'=>?_⟩
   ·simp only;rw [WS e (by omega)]
   ·rw [WS e (by omega)];unfold own;exact Option.isNone_iff_eq_none.mp k2
   ·rcases Nat.lt_or_ge m' n with z|z
    ·exact hn m' z
    ·obtain ⟨x,rfl⟩:∃ x,m'=n+x:=⟨m'-n,by omega⟩
     rw [WS e (by omega)];have:=k3 x (by omega);unfold own;intro q;rw [q] at this;cases this
  |none=>
   have k3:=EV f;have all:∀ m,m<n+(runEnd M (lv M h c).1-(lv M h c).1)+1->own ow (pth M h m).j≠none:=λm hm=>by
    rcases Nat.lt_or_ge m n with z|z
    ·exact hn m z
    ·obtain ⟨x,rfl⟩:∃ x,m=n+x:=⟨m-n,by omega⟩
     rw [WS e (by omega)];have:=k3 x (by omega);unfold own;intro q;rw [q] at this;cases this
   have ne:c'≠c:=λz=>by
    subst z;have:=k3 0 (by omega);rw [Nat.add_zero] at this;unfold own at h3;rw [h3] at this;cases this
   exact qdj fuel (c+1) _ (L6 e) all ⟨c',by omega,by omega,h3⟩
structure Lay (M:Nat) (ow:Array (Option Nat)) (hs:List Int):Prop where
 sz:ow.size=M+1
 lt:∀ (j k:Nat),ow[j]?=some (some k)->k<hs.length
 ex:∀ k,k<hs.length->∃ j:Nat,ow[j]?=some (some k)
 un:∀ (j j' k:Nat),ow[j]?=some (some k)->ow[j']?=some (some k)->j=j'
 wy:∀ (j k:Nat) (h:Int),ow[j]?=some (some k)->hs[k]?=some h->∃ m,(pth M h m).j=j/\∀ x,x<m->own ow (pth M h x).j≠none
def JS {ow:Array (Option Nat)} {j:Nat} (h:j<ow.size):ow[j]?=some (own ow j):=by simp [own,Array.getD,h]
def SU {M:Nat} {h:Int} {n:Nat}:(pth M h n).j<=M:=by have:=MH M h n;omega
def pig:∀ (b:Nat) (l:List Nat),(∀ x∈l,x<b)->l.Nodup->l.length<=b
 |0,l,h,_=>by
  cases l with
  |nil=>simp
  |cons a r=>exact absurd (h a (by simp)) (Nat.not_lt_zero a)
 |b+1,l,h,nd=>by
  have ih:=pig b (l.erase b) (λx hx=>by
   have q:=(List.Nodup.mem_erase_iff nd).mp hx;have:=h x q.2;have:=q.1;omega) (nd.erase b)
  rw [List.length_erase] at ih;split at ih<;>omega
def Lay.free {M:Nat} {ow:Array (Option Nat)} {hs:List Int} (l:Lay M ow hs) (hl:hs.length<=M):∃ c,c<=M/\own ow c=none:=by
 by_cases z:∃ c,c<=M/\own ow c=none
 ·exact z
 exfalso;have all:∀ c,c<=M->∃ k,ow[c]?=some (some k):=λc hc=>by
  have:=JS (ow:=ow) (j:=c) (by rw [l.sz];omega);cases q:own ow c with
  |none=>exact absurd ⟨c,hc,q⟩ z
  |some k=>exact ⟨k,by rw [this,q]⟩
 have inj:((List.range (M+1)).map λc=>(own ow c).getD 0).Nodup:=by
  rw [List.nodup_iff_pairwise_ne,List.pairwise_map];refine List.Pairwise.imp_of_mem (R:=(·<·)) (λ{a b} ha hb hab e=>?_) (List.pairwise_lt_range);obtain ⟨k1,h1⟩:=all a (by have:=mem_range.mp ha;omega);obtain ⟨k2,h2⟩:=all b (by have:=mem_range.mp hb;omega);have e1:=JS (ow:=ow) (j:=a) (by rw [l.sz];have:=mem_range.mp ha;omega);have e2:=JS (ow:=ow) (j:=b) (by rw [l.sz];have:=mem_range.mp hb;omega);rw [h1] at e1;rw [h2] at e2;rw [← Option.some.inj e1,← Option.some.inj e2] at e;simp only [Option.getD_some] at e;subst e;have:=l.un a b k1 h1 h2;omega
 have sub:∀ x∈((List.range (M+1)).map λc=>(own ow c).getD 0),x∈List.range hs.length:=λx hx=>by
  obtain ⟨c,hc,rfl⟩:=mem_map.mp hx;obtain ⟨k,hk⟩:=all c (by have:=mem_range.mp hc;omega);have e1:=JS (ow:=ow) (j:=c) (by rw [l.sz];have:=mem_range.mp hc;omega);rw [hk] at e1;rw [← Option.some.inj e1];exact mem_range.mpr (l.lt c k hk)
 have:=pig hs.length _ (λx hx=>mem_range.mp (sub x hx)) inj;simp at this;omega
def Lay.next {M:Nat} {ow:Array (Option Nat)} {hs:List Int} (F:TU M) (l:Lay M ow hs) (hl:hs.length<=M) (h:Int):∃ j,layClean.free M ow (turns M) (bits h%(M+1)) (bits h)=some j/\Lay M (ow.setIfInBounds j (some hs.length)) (hs++[h]):=by
 obtain ⟨c,hc,hf⟩:=l.free hl;obtain ⟨t,ht,e⟩:=F _ (LX M h 13) c hc;obtain ⟨m,m1,m2,m3⟩:=qdj (M:=M) (h:=h) (ow:=ow) (turns M) 0 0 rfl (λm hm=>absurd hm (Nat.not_lt_zero m)) ⟨13+t,by omega,by unfold turns;omega,by rw [S6,e];exact hf⟩;refine ⟨_,m1,?_⟩;obtain ⟨j,hj⟩:∃ j,j=(pth M h m).j:=⟨_,rfl⟩
 have jl:j<ow.size:=by rw [l.sz,hj];have:=SU (M:=M) (h:=h) (n:=m);omega
 rw [← hj] at m2 ⊢;have gt:∀ i:Nat,(ow.setIfInBounds j (some hs.length))[i]?=if j=i then some (some hs.length) else ow[i]?:=λi=>by
  rw [Array.getElem?_setIfInBounds];by_cases c:j=i
  ·rw [if_pos c,if_pos c,if_pos (by omega)]
  ·rw [if_neg c,if_neg c]
 have jn:ow[j]?=some none:=by rw [JS jl,m2]
 have on:∀ i,i<=M->own ow i≠none->own (ow.setIfInBounds j (some hs.length)) i≠none:=λi hi hn q=>by
  have s2:(ow.setIfInBounds j (some hs.length)).size=ow.size:=by simp
  have e1:=JS (ow:=ow.setIfInBounds j (some hs.length)) (j:=i) (by rw [s2,l.sz];omega);rw [gt,q] at e1;split at e1
  ·cases e1
  ·rw [JS (by rw [l.sz];omega)] at e1;exact hn (Option.some.inj e1)
 refine ⟨by simp [l.sz],λi k hk=>?_,λk hk=>?_,λi i' k h1 h2=>?_,λi k h' h1 h2=>?_⟩
 ·rw [gt] at hk;rw [length_append,List.length_singleton];split at hk
  ·cases hk;omega
  ·have:=l.lt i k hk;omega
 ·rw [length_append,List.length_singleton] at hk;rcases Nat.lt_or_ge k hs.length with z|z
  ·obtain ⟨i,hi⟩:=l.ex k z;refine ⟨i,?_⟩;rw [gt,if_neg (λq=>by rw [← q,jn] at hi;cases hi),hi]
  ·obtain rfl:k=hs.length:=by omega
   exact ⟨j,by rw [gt,if_pos rfl]⟩
 ·rw [gt] at h1 h2;split at h1
  ·rename_i q1;split at h2
   ·rename_i q2;omega
   ·cases h1;have:=l.lt i' _ h2;omega
  ·split at h2
   ·cases h2;have:=l.lt i _ h1;omega
   ·exact l.un i i' k h1 h2
 ·rw [gt] at h1;split at h1
  ·rename_i q;cases h1;rw [List.getElem?_append_right (by omega),Nat.sub_self] at h2;cases h2;exact ⟨m,by rw [← hj,q],λx hx=>on _ SU (m3 x hx)⟩
  ·have kl:=l.lt i k h1;rw [List.getElem?_append_left kl] at h2;obtain ⟨m',w1,w2⟩:=l.wy i k h' h1 h2;exact ⟨m',w1,λx hx=>on _ SU (w2 x hx)⟩
def Lay.start (M:Nat):Lay M (Array.replicate (M+1) none) []:=by
 have g:∀ j k:Nat,¬ (Array.replicate (M+1) (none:Option Nat))[j]?=some (some k):=λj k h=>by
  rw [Array.getElem?_replicate] at h;split at h<;>cases h
 exact ⟨by simp,λj k h=>absurd h (g j k),λk hk=>absurd hk (by simp),λj j' k h=>absurd h (g j k),λj k h q=>absurd q (g j k)⟩
def SC {M:Nat} (F:TU M):∀ (hs r:List Int) (ow:Array (Option Nat)),Lay M ow r->r.length+hs.length<=M+1 ->
  ∃ ow',hs.foldl (λacc h=>do
   let (owner,k)←acc
   let j←layClean.free M owner (turns M) (bits h%(M+1)) (bits h)
   pure (owner.setIfInBounds j (some k),k+1)) (some (ow,r.length))=some (ow',(r++hs).length)/\Lay M ow' (r++hs)
 |[],r,ow,l,_=>⟨ow,by simp,by simpa using l⟩
 |h::hs,r,ow,l,hl=>by
  rw [length_cons] at hl;obtain ⟨j,h1,h2⟩:=l.next F (by omega) h;have ih:=SC F hs (r++[h]) _ h2 (by rw [length_append,List.length_singleton];omega);rw [length_append,List.length_singleton,List.append_assoc] at ih;obtain ⟨ow',e1,e2⟩:=ih;refine ⟨ow',?_,e2⟩;rw [List.foldl_cons];simp only [Option.bind_eq_bind,Option.bind_some,h1,Option.pure_def];exact e1
def qdh {M:Nat} (F:TU M) {hs:Array Int} (hl:hs.size<=M+1):∃ ow,layClean M hs=some ow/\Lay M ow hs.toList:=by
 obtain ⟨ow,e1,e2⟩:=SC F hs.toList [] _ (Lay.start M) (by simpa using hl);refine ⟨ow,?_,by simpa using e2⟩;unfold layClean;rw [← Array.foldl_toList];rw [length_nil] at e1;rw [e1];rfl
def liv (M:Nat) (ow:Array (Option Nat)):List (Nat×Nat):=(List.range (M+1)).filterMap λj=>(ow.getD j none).map (j,·)
def Q8 {M:Nat} {ow:Array (Option Nat)} {hs:List Int} (l:Lay M ow hs) {j k:Nat}:(j,k)∈liv M ow↔ow[j]?=some (some k):=by
 unfold liv;rw [List.mem_filterMap];constructor
 ·rintro ⟨x,hx,e⟩;obtain ⟨k',e1,e2⟩:=Option.map_eq_some_iff.mp e;cases e2;have:=mem_range.mp hx;have:j<ow.size:=by rw [l.sz];exact this
  have z:ow.getD j none=ow[j]:=by simp [Array.getD,this]
  rw [Array.getElem?_eq_getElem this,← z,e1]
 ·intro e;obtain ⟨h1,h2⟩:=Array.getElem?_eq_some_iff.mp e;refine ⟨j,mem_range.mpr (by rw [← l.sz];exact h1),?_⟩;have z:ow.getD j none=ow[j]:=by simp [Array.getD,h1]
  rw [z,h2];rfl
def qar (M:Nat) (ow:Array (Option Nat)):((liv M ow).map (·.1)).Pairwise (·<·):=by
 unfold liv;rw [List.pairwise_map,List.pairwise_filterMap];refine List.Pairwise.imp (λ{a b} hab x hx y hy=>?_) List.pairwise_lt_range;obtain ⟨_,_,rfl⟩:=Option.map_eq_some_iff.mp hx;obtain ⟨_,_,rfl⟩:=Option.map_eq_some_iff.mp hy;exact hab
def qfB {l:List Nat} (h:l.Pairwise (·<·)):Up l.toArray:=by
 intro a b hab hb;have hb':b<l.length:=by simpa using hb
 have:=List.pairwise_iff_getElem.mp h a b (by omega) hb' hab;simpa [Array.getD,hb',show a<l.length by omega] using this
def WF {M:Nat} {ow:Array (Option Nat)} {hs:List Int} (l:Lay M ow hs):((liv M ow).map (·.2)).Perm (List.range hs.length):=by
 have nd:((liv M ow).map (·.2)).Nodup:=by
  rw [List.nodup_iff_pairwise_ne,List.pairwise_map];have u:=qar M ow;rw [List.pairwise_map] at u;refine List.Pairwise.imp_of_mem (λ{a b} ha hb hab e=>?_) u;obtain ⟨a1,a2⟩:=a;obtain ⟨b1,b2⟩:=b;simp only at e hab;subst e;have:=l.un a1 b1 a2 ((Q8 l).mp ha) ((Q8 l).mp hb);omega
 refine (List.perm_ext_iff_of_nodup nd List.nodup_range).mpr λk=>?_;rw [mem_range,mem_map];constructor
 ·rintro ⟨⟨j,k'⟩,hq,rfl⟩;exact l.lt j _ ((Q8 l).mp hq)
 ·intro hk;obtain ⟨j,hj⟩:=l.ex k hk;exact ⟨(j,k),(Q8 l).mpr hj,rfl⟩
def qau {M f mv:Nat} {led pl:Bool} {ow:Array (Option Nat)} {hs:List Int} (F:TU M) (od:M%2=1) (l:Lay M ow hs) (hl:hs.length<=M) :
  Ok8 { mask:=M,place:=((liv M ow).map (·.1)).toArray,dummies:=#[],finger:=f,led:=led,moves:=mv,plain:=pl } (((liv M ow).map (·.2)).map λk=>hs.getD k 0):=by
 have pm:=WF l;have ll:(liv M ow).length=hs.length:=by have:=pm.length_eq;simpa using this
 have up:Up ((liv M ow).map (·.1)).toArray:=qfB (qar M ow);have at_:∀ (i j:Nat),((liv M ow).map (·.1)).toArray[i]?=some j->∃ k,(liv M ow)[i]?=some (j,k):=λi j h=>by
  rw [XY,getElem?_map] at h;obtain ⟨⟨a,b⟩,e1,e2⟩:=Option.map_eq_some_iff.mp h;exact ⟨b,by rw [e1];simp only at e2;rw [e2]⟩
 refine ⟨up,rfl,by simp [ll],by simp [ll];exact hl,λi j h=>?_,F,od,λi j h h1 h2=>?_⟩
 ·obtain ⟨k,hk⟩:=at_ i j h;have:=(Q8 l).mp (mem_of_getElem? hk);have:=(Array.getElem?_eq_some_iff.mp this).1;rw [l.sz] at this;simp only;omega
 ·obtain ⟨k,hk⟩:=at_ i j h1;have o1:=(Q8 l).mp (mem_of_getElem? hk);rw [getElem?_map,getElem?_map,hk] at h2;simp only [Option.map_some,Option.some.injEq] at h2;have kl:=l.lt j k o1;obtain ⟨m,m1,m2⟩:=l.wy j k h o1 (by rw [← h2,getD_eq_getElem?_getD,getElem?_eq_getElem kl];rfl);refine ⟨m,m1,λx hx=>?_⟩;have n1:=m2 x hx;have jl:(pth M h x).j<ow.size:=by rw [l.sz];have:=SU (M:=M) (h:=h) (n:=x);omega
  cases q:own ow (pth M h x).j with
  |none=>exact absurd q n1
  |some k'=>
   have o2:ow[(pth M h x).j]?=some (some k'):=by rw [JS jl,q]
   obtain ⟨i',hi'⟩:=List.mem_iff_getElem?.mp ((Q8 l).mpr o2);have:((liv M ow).map (·.1)).toArray[i']?=some (pth M h x).j:=by rw [XY,getElem?_map,hi'];rfl
   rw [ZQ (t:={ mask:=M,place:=((liv M ow).map (·.1)).toArray,dummies:=#[],finger:=f,led:=led,moves:=mv,plain:=pl }) up this];exact λz=>by cases z
def qbo {t:SetTable} {hs:Array Int} {n M:Nat} (hM:sizeAbove n-1=M) (F:TU M) (od:M%2=1) (hl:hs.size<=M) :
  ∃ t' ord,t.relaid hs n=some (t',ord)/\ord.toList.Perm (List.range hs.size)/\Ok8 t' (ord.toList.map λk=>hs.toList.getD k 0)/\t'.mask=M:=by
 obtain ⟨ow,e1,e2⟩:=qdh F (hs:=hs) (by omega);refine ⟨{ mask:=M,place:=((liv M ow).map (·.1)).toArray,dummies:=#[],finger:=t.finger,led:=t.led,moves:=t.movedTo M,plain:=t.plain },((liv M ow).map (·.2)).toArray,?_,?_,?_,rfl⟩
 ·unfold SetTable.relaid SetTable.laid;rw [hM,e1];rfl
 ·have:=WF e2;simpa using this
 ·exact qau F od e2 (by simpa using hl)
end Tb8
namespace Tb8
open PySem PyProof.Rows PySem.SetTable
section
variable {prog:Program} {w:World} {A:Around} {E:Value->Shared->Prop} {s:Shared}
def IsP.other {h h':Heap} {S a:Addr} {k:List Int} (p:IsP prog w h k a) (n:a≠S) (sb:Heap.SameBut S h h'):IsP prog w h' k a:=by
 obtain ⟨o,items,m,ho,r⟩:=p;exact ⟨o,items,m,(sb.2 a n).trans ho,r⟩
def PS.ne {h:Heap} {S:Addr} {en:List (List Int×Addr)} {o:Obj} {es:Array (Int×Value)} {ep:Nat} {t:SetTable} (p:PS prog w h S en o es ep t) {k:List Int} {a:Addr} (hk:IsP prog w h k a):a≠S:=by
 rintro rfl;obtain ⟨o',items,m,ho,hc,_⟩:=hk;obtain rfl:o'=o:=Option.some.inj (ho.symm.trans p.ho);have z:=hc.symm.trans p.hc.1;injection z with z;exact absurd z (by decide)
def PS.store {h:Heap} {S:Addr} {en en':List (List Int×Addr)} {o:Obj} {es es':Array (Int×Value)} {ep:Nat} {t t':SetTable} (p:PS prog w h S en o es ep t) (he:es'.toList=en'.map (ent prog w)) (hP:∀ q∈en',IsP prog w h q.1 q.2) (ok:Ok8 t' (en'.map λq=>hsh prog w q.1)) (nd:(en'.map (·.1)).Nodup) :
  ∃ o',PS prog w (h.update S (Obj.putSet es' t')) S en' o' es' (ep+1) t':=by
 have hp:Obj.putSet es' t' o={ o with data:=.set es' (ep+1) t' }:=by
  obtain ⟨c,d,da,sl⟩:=o;have hd:da=.set es ep t:=p.hd;subst hd;rfl
 have hg:(h.update S (Obj.putSet es' t')).get? S=some { o with data:=.set es' (ep+1) t' }:=by
  have:=Heap.get?_update_self (Obj.putSet es' t') p.ho (by rw [hp];rfl);rw [hp] at this;exact this
 exact ⟨_,hg,p.hc,rfl,he,λq hq=>(hP q hq).other (p.ne (hP q hq)) (.update ..),ok,nd⟩
def V2 {α β:Type} {l:List α} {f:α->β} {g:α->Option β}:(∀ x∈l,g x=some (f x))->l.filterMap g=l.map f:=by
 induction l with
 |nil=>intro _;rfl
 |cons x r ih=>
  intro h;rw [List.filterMap_cons,h x (by simp),map_cons,ih λy hy=>h y (by simp [hy])]
def qef {S:Addr} {en:List (List Int×Addr)} {o:Obj} {es:Array (Int×Value)} {ep:Nat} {t:SetTable} {n M:Nat} {Q:Unit->Shared->Prop} (p:PS prog w s.heap S en o es ep t) (hM:sizeAbove n-1=M) (hs:sizeAbove n<=1000) (F:TU M) (od:M%2=1) (hl:en.length<=M)
  (h:∀ h' en' o' es' ep' t',PS prog w h' S en' o' es' ep' t'->t'.mask=M->en'.Perm en->Heap.SameBut S s.heap h'->Q () { s with heap:=h' }):wpAny (model prog w) A (setRelay S n) Q E s:=by
 have sz:=p.sz;obtain ⟨t',ord,e1,e2,e3,e4⟩:=qbo (t:=t) (hs:=es.map (·.1)) hM F od (by simpa [sz] using hl);have e2':ord.toList.Perm (List.range en.length):=by simpa [sz] using e2
 obtain ⟨g,hg⟩:∃ g:Nat->List Int×Addr,g=λk=>en.getD k ([],0):=⟨_,rfl⟩
 have gl:∀ k∈ord.toList,k<en.length:=λk hk=>mem_range.mp (e2'.mem_iff.mp hk);have ga:∀ k,k<en.length->en[k]?=some (g k):=λk hk=>by rw [hg];simp [getD_eq_getElem?_getD,getElem?_eq_getElem hk]
 have pm:(ord.toList.map g).Perm en:=by
  refine (e2'.map g).trans ?_;have:(List.range en.length).map g=en:=by
   refine List.ext_getElem? λi=>?_;rw [getElem?_map];by_cases c:i<en.length
   ·rw [List.getElem?_range c,ga i c];rfl
   ·rw [List.getElem?_eq_none (by simpa using c),List.getElem?_eq_none (by simpa using c)];rfl
  rw [this]
 obtain ⟨es',he'⟩:∃ es',es'=ord.filterMap (es[·]?):=⟨_,rfl⟩
 have hes:es'.toList=(ord.toList.map g).map (ent prog w):=by
  rw [he',Array.toList_filterMap,map_map];exact V2 λk hk=>by rw [p.at_,ga k (gl k hk)];rfl
 have es'z:es'.size=es.size:=by
  rw [← Array.length_toList,hes,length_map,pm.length_eq,sz]
 have ok:Ok8 t' ((ord.toList.map g).map λq=>hsh prog w q.1):=by
  have:((ord.toList.map g).map λq=>hsh prog w q.1)=ord.toList.map λk=>((es.map (·.1)).toList).getD k 0:=by
   rw [map_map];refine List.map_congr_left λk hk=>?_;rw [Array.toList_map,p.he,map_map,getD_eq_getElem?_getD,getElem?_map,ga k (gl k hk)];rfl
  rw [this];exact e3
 obtain ⟨o',q⟩:=p.store (en':=ord.toList.map g) hes (λq hq=>p.hP q (pm.mem_iff.mp hq)) ok ((pm.map _).nodup_iff.mpr p.nd);unfold setRelay;refine wpAny_bind (wpAny_setState_of p.ho p.hd p.fits ?_);dsimp only;rw [if_neg (by rw [sizeLine_eq];omega)];refine wpAny_bind ?_;rw [e1];show wpAny (model prog w) A (do
  if (ord.filterMap (es[·]?)).size != es.size then unsupported "internal:set-table-lost-an-element"
  pure (ord.filterMap (es[·]?),t')) _ E s
 rw [← he',es'z];simp only [bne_self_eq_false,Bool.false_eq_true,if_false];refine wpAny_bind (wpAny_pure ?_);refine wpAny_pure ?_;refine wpAny_storeSet_of p.ho p.hd ?_ (by rw [es'z,sz,sizeLine_eq];omega);exact h _ _ _ _ _ _ q e4 pm (.update ..)
def Gd (t:SetTable) (n:Nat):Prop:=(t.mask=7/\n<=4)\/(t.mask=31/\n<=18)
def qhg {S a:Addr} {en:List (List Int×Addr)} {o:Obj} {es:Array (Int×Value)} {ep:Nat} {t:SetTable} {k:List Int} {Q:Bool->Shared->Prop} (hu:A.units<cLine) (p:PS prog w s.heap S en o es ep t) (g:Gd t en.length) (hn:en.length<18) (hk:IsP prog w s.heap k a)
  (h:∀ b h' en' o' es' ep' t',PS prog w h' S en' o' es' ep' t'->Gd t' en'.length->(∀ q∈en',q∈en\/q=(k,a))->(∀ x,x∈en'.map (·.1)↔x∈en.map (·.1)\/x=k)->(k∈en.map (·.1)->en'.length=en.length)->(k∉en.map (·.1)->en'.length=en.length+1)->Heap.SameBut S s.heap h'->Q b { s with heap:=h' }) :
  wpAny (model prog w) A (setAddHashed S (.ref a) (hsh prog w k)) Q E s:=by
 obtain ⟨e,e0,e1,e2⟩:=XV (t:=t) (h:=hsh prog w k) p.ok.fu p.ok.up p.ok.dm (by have:=p.ok.sz;have:=p.ok.fl;simp at *;omega);have tm:t.mask<=31:=by rcases g with g|g<;>omega
 unfold setAddHashed;refine wpAny_holding ?_;unfold setAddHashedIn;refine wpAny_bind (wpAny_setState_of p.ho p.hd p.fits ?_);have bs:byScan (.ref a) es=false:=rfl;simp only [bs,Bool.false_eq_true,if_false];unfold setSearch;refine wpAny_bind (qa4 (e:=e) hu p hk e0 e1 e2 (λhin=>?_) (λhin=>?_) e 0 100000 none (by omega) (Nat.zero_le _) (by unfold turns at e0;omega) rfl λm hm=>absurd hm (Nat.not_lt_zero m))
 ·exact wpAny_pure (h _ s.heap en o es ep t p g (λq hq=>.inl hq) (λx=>⟨.inl,λz=>z.elim id λz=>z▸hin⟩) (λ_=>rfl) (λz=>absurd hin z) (.refl ..))
 simp only;refine wpAny_bind (wpAny_setState_of p.ho p.hd p.fits ?_);obtain ⟨j,hj⟩:∃ j,j=(pth t.mask (hsh prog w k) e).j:=⟨_,rfl⟩
 rw [← hj] at e1 ⊢;obtain ⟨pl,ok1,mk1⟩:=p.ok.put (h:=hsh prog w k) e1 (by rw [hj];exact SU) (by rcases g with g|g<;>(rw [length_map];omega)) ⟨e,hj.symm,λm hm=>e2 m hm⟩;simp only;generalize ht1:(t.put j).1=t1 at *;generalize hp1:(t.put j).2=pp at *;rw [length_map] at pl;have sz:=p.sz;have hes:(insertAt es pp (hsh prog w k,.ref a)).toList=(ins en pp (k,a)).map (ent prog w):=by
  rw [Z8 _ _ _ (by rw [sz];exact pl),p.he];unfold ins;rw [List.map_append,map_cons,List.map_take,List.map_drop];rfl
 have hhs:(ins en pp (k,a)).map (λq=>hsh prog w q.1)=ins (en.map λq=>hsh prog w q.1) pp (hsh prog w k):=by
  unfold ins;rw [List.map_append,map_cons,List.map_take,List.map_drop]
 have pm:(ins en pp (k,a)).Perm ((k,a)::en):=by
  unfold ins;refine List.perm_middle.trans ?_;rw [List.take_append_drop]
 have il:(ins en pp (k,a)).length=en.length+1:=V3 pl;have hP:∀ q∈ins en pp (k,a),IsP prog w s.heap q.1 q.2:=λq hq=>by
  rcases mem_cons.mp (pm.mem_iff.mp hq) with rfl|z
  ·exact hk
  ·exact p.hP q z
 have nd:((ins en pp (k,a)).map (·.1)).Nodup:=by
  rw [(pm.map _).nodup_iff,map_cons,List.nodup_cons];exact ⟨hin,p.nd⟩
 have sub:∀ q∈ins en pp (k,a),q∈en\/q=(k,a):=λq hq=>(mem_cons.mp (pm.mem_iff.mp hq)).elim .inr .inl;have mem:∀ x,x∈(ins en pp (k,a)).map (·.1)↔x∈en.map (·.1)\/x=k:=λx=>by
  rw [(pm.map _).mem_iff,map_cons,mem_cons];exact ⟨λz=>z.elim .inr .inl,λz=>z.elim .inr .inl⟩
 have main:∀ pl:Bool,wpAny (model prog w) A (do
   storeSet S (insertAt es pp (hsh prog w k,.ref a)) { t1 with plain:=pl }
   if (!false&&({ t1 with plain:=pl }:SetTable).tooFull)=true then setRelay S (grown (es.size+1))
   pure true) Q E s:=λb=>by
  have ok2:Ok8 { t1 with plain:=b } ((ins en pp (k,a)).map λq=>hsh prog w q.1):=by
   rw [hhs];exact ⟨ok1.up,ok1.dm,ok1.sz,ok1.fl,ok1.le,ok1.fu,ok1.od,ok1.wy⟩
  obtain ⟨o',q⟩:=p.store (t':={ t1 with plain:=b }) hes hP ok2 nd;have iz:(insertAt es pp (hsh prog w k,.ref a)).size=en.length+1:=by rw [← Array.length_toList,hes,length_map,il]
  refine wpAny_bind (wpAny_storeSet_of p.ho p.hd ?_ (by rw [iz,sizeLine_eq];omega));have fl:({ t1 with plain:=b }:SetTable).fill=en.length+1:=by
   have z:=ok2.sz;rw [length_map,il] at z;unfold SetTable.fill;rw [ok2.dm,z];rfl
  have tf:({ t1 with plain:=b }:SetTable).tooFull=decide ((en.length+1)*5 ≥ t.mask*3):=by
   unfold SetTable.tooFull;rw [fl,show ({ t1 with plain:=b }:SetTable).mask=t.mask from mk1]
  rw [tf];by_cases c:(en.length+1)*5 ≥ t.mask*3
  ·rw [decide_eq_true c];simp only [Bool.not_false,Bool.and_self,if_true];have n5:en.length=4/\t.mask=7:=by rcases g with g|g<;>omega
   have hM:sizeAbove (grown (es.size+1))-1=31:=by rw [sz,n5.1];rfl
   have hM2:sizeAbove (grown (es.size+1))<=1000:=by rw [sz,n5.1];decide
   refine wpAny_bind (qef (s:={ s with heap:=s.heap.update S (Obj.putSet (insertAt es pp (hsh prog w k,.ref a)) { t1 with plain:=b }) }) q hM hM2 qcL rfl (by rw [il];omega) λh' en' o'' es'' ep'' t'' q' mk pe sb=>?_);refine wpAny_pure (h _ h' en' o'' es'' ep'' t'' q' (.inr ⟨mk,by rw [pe.length_eq,il];omega⟩) (λq hq=>sub q (pe.mem_iff.mp hq)) (λx=>by rw [(pe.map _).mem_iff];exact mem x) (λz=>absurd z hin) (λ_=>by rw [pe.length_eq,il]) (.trans (.update ..) sb))
  ·rw [decide_eq_false c];simp only [Bool.not_false,Bool.and_false,Bool.false_eq_true,if_false];refine wpAny_bind (wpAny_pure (wpAny_pure ?_));refine h _ _ _ _ _ _ _ q ?_ sub mem (λz=>absurd z hin) (λ_=>il) (.update ..);have mk2:({ t1 with plain:=b }:SetTable).mask=t.mask:=mk1;unfold Gd;rw [mk2,il];rcases g with g|g<;>omega
 refine wpAny_ite ?_;split
 ·refine wpAny_bind (qho hk λb=>?_);cases b with
  |true=>
   simp only [if_true];exact main t1.plain
  |false=>
   simp only [Bool.false_eq_true,if_false];exact main false
 ·refine wpAny_bind (wpAny_pure ?_);simp only [if_true];exact main t1.plain
end
def cnt (key:Nat->List Int):Nat->Nat
 |0=>0
 |j+1=>if ∃ i,i<j/\key i=key j then cnt key j else cnt key j+1
def WK (key:Nat->List Int):∀ j,cnt key j<=j
 |0=>Nat.le_refl _
 |j+1=>by
  have:=WK key j;unfold cnt;split<;>omega
def qai (prog:Program) (w:World) (h:Heap) (S:Addr) (n:Nat):Prop:=∃ en o es ep t,PS prog w h S en o es ep t/\en.length=n
section
variable {prog:Program} {w:World} {A:Around} {R:Result->Shared->Prop} {I:Addr} {fp wr:List Addr} {n:Nat} {P:Nat->Value->Prop} {St:Nat->Heap->Prop}
def PS.keep {h h':Heap} {S:Addr} {en:List (List Int×Addr)} {o:Obj} {es:Array (Int×Value)} {ep:Nat} {t:SetTable} (p:PS prog w h S en o es ep t) (k:h'.get? S=some o) (ki:∀ q∈en,IsP prog w h' q.1 q.2):PS prog w h' S en o es ep t:=⟨k,p.hc,p.hd,p.he,ki,p.ok,p.nd⟩
def IsP.keep {h h':Heap} {k:List Int} {a:Addr} (p:IsP prog w h k a) (hk:∀ o,h.get? a=some o->h'.get? a=some o):IsP prog w h' k a:=by
 obtain ⟨o,items,m,ho,r⟩:=p;exact ⟨o,items,m,hk o ho,r⟩
def qfu (W:Walks prog w A.in1 I fp wr n P St) (key:Nat->List Int) (ad:Nat->Addr) (hval:∀ i v,P i v->v=.ref (ad i)) (S:Addr) (hSf:S∉fp) (hu:A.in1.units<cLine) (hn:n<=18) (had:∀ i,i<n->ad i∉wr) :
  ∀ (k j:Nat) (s:Shared) (en:List (List Int×Addr)) (o:Obj) (es:Array (Int×Value)) (ep:Nat) (t:SetTable),n-j=k->j<=n->St j s.heap->PS prog w s.heap S en o es ep t->Gd t en.length->(∀ q∈en,q.2∉wr) ->
  (∀ x,x∈en.map (·.1)↔∃ i,i<j/\key i=x)->en.length=cnt key j->(∀ i,i<n->IsP prog w s.heap (key i) (ad i)) ->
  (∀ h' tk,qai prog w h' S (cnt key n)->(∀ b o,b∉wr->b≠S->s.heap.get? b=some o->h'.get? b=some o)->R (.ok (.ret .none)) { s with heap:=h',toks:=tk }) ->
  codeAny (model prog w) A (.builtin "set.update.loop" ⟨[.ref S,.ref I],[]⟩) R s:=by
 have hSw:S∉wr:=λh=>hSf (W.sub _ h);intro k;induction k with
 |zero=>
  intro j s en o es ep t hk hj hst p g hw hm hc hP hR;obtain rfl:j=n:=by omega
  refine codeAny_builtin F.entry_set_update_loop ?_;rw [Around.under_plainId F.plain_set_update_loop _];show wpAny _ A.in1 (pyNext (.ref I) >>= _) _ _ s;refine wpAny_bind (W.done s _ _ hst λh' tk kp=>?_);show wpAny _ A.in1 (ret Value.none) _ _ _;exact wpAny_pure (hR h' tk ⟨en,o,es,ep,t,p.keep (kp S _ hSw p.ho) (λq hq=>(p.hP q hq).keep λo e=>kp _ o (hw q hq) e),hc⟩ λb o hb _ e=>kp b o hb e)
 |succ k ih=>
  intro j s en o es ep t hk hj hst p g hw hm hc hP hR;have lt:j<n:=by omega
  refine codeAny_builtin F.entry_set_update_loop ?_;rw [Around.under_plainId F.plain_set_update_loop _];show wpAny _ A.in1 (pyNext (.ref I) >>= _) _ _ s;refine wpAny_bind (W.item j s _ _ lt hst λv h' tk hv hst' kp=>?_);obtain rfl:=hval j v hv;have p':PS prog w h' S en o es ep t:=p.keep (kp S _ hSw p.ho) (λq hq=>(p.hP q hq).keep λo e=>kp _ o (hw q hq) e);have hP':∀ i,i<n->IsP prog w h' (key i) (ad i):=λi hi=>(hP i hi).keep λo e=>kp _ o (had i hi) e;show wpAny _ A.in1 (holding [Value.ref (ad j)] (setAdd S (.ref (ad j))) >>= _) _ _ _;refine wpAny_bind (wpAny_holding ?_);unfold setAdd;refine wpAny_holding ?_;refine wpAny_bind (wpAny_pyHash_tuple hu (hP' j lt) ?_);refine qhg (s:={ s with heap:=h',toks:=tk+((key j).length+1) }) hu p' g (by have:=WK key j;omega) (hP' j lt) λb h'' en' o' es' ep' t' q g' sub mem l1 l2 sb=>?_;refine wpAny_pure ⟨plainId_quiet F.plain_set_update_loop _,ih (j+1) _ en' o' es' ep' t' (by omega) lt (W.frame _ _ _ hst' λb hb o e=>?_) q g' ?_ (λx=>?_) ?_ (λi hi=>?_) λh3 tk3 hS3 kp3=>?_⟩
  ·exact (sb.2 b (λz:b=S=>hSf (by rw [← z];exact hb))).trans e
  ·intro q' hq';rcases sub q' hq' with z|rfl
   ·exact hw q' z
   ·exact had j lt
  ·rw [mem,hm];constructor
   ·rintro (⟨i,h1,h2⟩|rfl)
    ·exact ⟨i,by omega,h2⟩
    ·exact ⟨j,by omega,rfl⟩
   ·rintro ⟨i,h1,h2⟩;rcases Nat.lt_or_ge i j with z|z
    ·exact .inl ⟨i,z,h2⟩
    ·obtain rfl:i=j:=by omega
     exact .inr h2.symm
  ·unfold cnt;split
   ·rename_i c;rw [l1 ((hm _).mpr c),hc]
   ·rename_i c;rw [l2 (λz=>c ((hm _).mp z)),hc]
  ·exact (hP' i hi).other (p'.ne (hP' i hi)) sb
  ·exact hR h3 tk3 hS3 λb o hb hbS e=>kp3 b o hb hbS ((sb.2 b hbS).trans (kp b o hb e))
end
section
variable {prog:Program} {w:World} {A:Around} {E:Value->Shared->Prop} {s:Shared}
structure Tt (prog:Program) (w:World) (h:Heap) (l:Addr) (vs:Array Value) (key:Nat->List Int) (ad:Nat->Addr):Prop where
 tu:h.IsTuple l vs
 at_:∀ (i:Nat) v,vs[i]?=some v->v=.ref (ad i)
 is:∀ i,i<vs.size->IsP prog w h (key i) (ad i)
def Tt.lt {h:Heap} {l:Addr} {vs:Array Value} {key:Nat->List Int} {ad:Nat->Addr} (T:Tt prog w h l vs key ad) {i:Nat} (hi:i<vs.size):ad i<h.objs.size:=by
 obtain ⟨o,_,_,e,_⟩:=T.is i hi;exact Heap.lt_size e
def qf9 {l:Addr} {vs:Array Value} {key:Nat->List Int} {ad:Nat->Addr} {led:Bool} {Q:PySem.Fin->Shared->Prop} {E':Value->Shared->Prop} (hh:A.handled=none) (hu:A.in1.units<cLine) (T:Tt prog w s.heap l vs key ad) (hb:vs.size<=18)
  (h:∀ h' tk,qai prog w h' s.heap.objs.size (cnt key vs.size)->(∀ b o,b<s.heap.objs.size->s.heap.get? b=some o->h'.get? b=some o)->wpAny (model prog w) A (ret Value.none) Q E' { s with heap:=h',toks:=tk }) :
  wpAny (model prog w) A (Builtin.«set.__init__» ⟨[.ref s.heap.objs.size,.ref l],[]⟩) Q E' { s with heap:=s.heap.push (HT.oS led) }:=by
 obtain ⟨⟨oc,od,da,os⟩,hg,hc,nl,hd⟩:=id T.tu;simp only at hc hd;subst hc hd;have hS:(s.heap.push (HT.oS led)).get? s.heap.objs.size=some (HT.oS led):=Heap.get?_push_size _ rfl;have hg':(s.heap.push (HT.oS led)).get? l=some { cls:=.type "tuple",dict:=od,data:=.seq vs nl,slots:=os }:=Heap.get?_push_of_some _ hg;have h1:=F.sub_tuple_set;have h2:=F.sub_tuple_frozenset;have ne:(Value.type "tuple" == Value.type "dict")=false:=by decide
 have hl1:=T.tu.push (HT.oS led);unfold Builtin.«set.__init__» noKeywords Builtin.Frozenset.updateFrom;generalize hPI:pyIter=PI
 wp_walk
 subst hPI;refine wpAny_pyIter_tuple hl1 ?_;refine wpAny_bind (wpAny_runValue ?_);have ll:l<s.heap.objs.size:=Heap.lt_size hg;have sz:(s.heap.push (HT.oS led)).objs.size=s.heap.objs.size+1:=Heap.size_push ..;refine qfu (Walks.tuple (show A.in1.handled=none by simp [hh]) (s.heap.push (HT.oS led)).objs.size l (by rw [sz];exact Nat.ne_of_lt (Nat.lt_succ_of_lt ll)) vs) key ad T.at_ s.heap.objs.size
  (by rw [sz];simp only [mem_cons,not_mem_nil,or_false,not_or];exact ⟨Nat.ne_of_lt (Nat.lt_succ_self _),Nat.ne_of_gt ll⟩) hu hb (λi hi=>?_) vs.size 0 _ [] (HT.oS led) #[] 0 (.fresh 0 0 led) rfl (Nat.zero_le _) ⟨⟨_,Heap.get?_push_size _ rfl,rfl,rfl⟩,hl1.push _⟩ ?_ (.inl ⟨rfl,Nat.zero_le _⟩) (λq hq=>by cases hq) (λx=>?_) rfl (λi hi=>?_) ?_
 ·rw [sz];simp only [mem_cons,not_mem_nil,or_false];exact Nat.ne_of_lt (Nat.lt_succ_of_lt (T.lt hi))
 ·exact ⟨Heap.get?_push_of_some _ hS,⟨rfl,rfl,rfl⟩,rfl,rfl,λq hq=>(by cases hq),Ok8.fresh ..,by simp⟩
 ·simp
 ·exact (T.is i hi).keep λo e=>Heap.get?_push_of_some _ (Heap.get?_push_of_some _ e)
 ·intro h' tk hS' kp;show wpAny _ _ _ _ _ _;refine wpAny_pure (h h' tk hS' λb o hb e=>kp b o ?_ ?_ (Heap.get?_push_of_some _ (Heap.get?_push_of_some _ e)))
  ·rw [sz];simp only [mem_cons,not_mem_nil,or_false];exact Nat.ne_of_lt (Nat.lt_succ_of_lt hb)
  ·exact Nat.ne_of_lt hb
def SE {l:Addr} {vs:Array Value} {key:Nat->List Int} {ad:Nat->Addr} {Q:Value->Shared->Prop} (hh:A.handled=none) (hu:A.units+8<cLine) (T:Tt prog w s.heap l vs key ad) (hb:vs.size<=18)
  (h:∀ h' tk,qai prog w h' s.heap.objs.size (cnt key vs.size)->(∀ b o,b<s.heap.objs.size->s.heap.get? b=some o->h'.get? b=some o)->Q (.ref s.heap.objs.size) { s with heap:=h',toks:=tk }) :
  wpAny (model prog w) A (call (.type "set") [.ref l]) Q E s:=by
 have C:=F.called_set;obtain ⟨c,tl,m1⟩:=C.mro;have m2:=C.made;have m3:=C.sub;have m4:=C.notType;have m5:=C.canCreate;have m6:=F.typeCall_set_1 (.ref l);refine wpAny_call (codeAny_of_tree ?_);show wpAny _ _ (callAny (.type "set") _) _ _ _;refine wpAny_pure ⟨Code.quiet_builtin _ (by decide +kernel),codeAny_builtin F.entry_type_call ?_⟩;rw [Around.under_plain (weight_type_call_type "set" [.ref l] []) rfl]
 repeat (any_goals (first|assumption|wp_step))
 refine codeAny_mono (code_set_new_1 (.ref l) (E:=E) (Q₁:=λv s₁=>∃ led,v=.ref s.heap.objs.size/\s₁={ s with heap:=s.heap.push (HT.oS led) }) λled=>⟨led,rfl,rfl⟩) λr s₁ hr=>?_;rcases r with e|f
 ·exact hr
 cases f<;>try exact hr.elim
 obtain ⟨led,rfl,rfl⟩:=hr;have hT:Shared.TypeIs { s with heap:=s.heap.push (HT.oS led) } (.ref s.heap.objs.size) "set" := ⟨_,Heap.get?_push_size _ rfl,rfl⟩
 have n1:=C.init.lookup;have n2:=C.init.bind (.ref s.heap.objs.size)
 repeat (any_goals (first|assumption|wp_step))
 refine codeAny_mono (codeAny_call_builtin (R:=wants (λr s₂=>r=.none/\∃ h' tk,s₂={ s with heap:=h',toks:=tk }/\qai prog w h' s.heap.objs.size (cnt key vs.size)/\∀ b o,b<s.heap.objs.size->s.heap.get? b=some o->h'.get? b=some o) E) C.init.plain F.entry_set_init (check_set_init_1 hT (qf9 (by simp [hh]) (by simp;omega) T hb λh' tk hS hk=>wpAny_pure ⟨rfl,h',tk,rfl,hS,hk⟩))) λr₂ s₂ hr₂=>?_;rcases r₂ with e|f
 ·exact hr₂
 cases f<;>try exact hr₂.elim
 obtain ⟨rfl,h',tk,rfl,hS,hk⟩:=hr₂
 repeat (any_goals (first|assumption|wp_step))
 exact h _ _ hS hk
def SZ {S:Addr} {n:Nat} {Q:Value->Shared->Prop} (p:qai prog w s.heap S n) (hn:n<=1000) (h:Q (.int n (s.toks+1)) { s with toks:=s.toks+1+1 }):wpAny (model prog w) A (call (.builtin "len") [.ref S]) Q E s:=by
 obtain ⟨en,o,es,ep,t,q,e⟩:=p;refine call_len_set q.ho q.hc q.hd q.fits (by rw [q.sz];omega) ?_;rw [q.sz,e];exact h
end
end Tb8
namespace L3
open PySem PySem.Spec PyProof.Rows L2
section
variable {X:Cx}
inductive Tks (K:Frg) (H:Hp):List V->List (List Int)->Prop
 |nil:Tks K H [] []
 |cons {a:Addr} {k:List Int} {vs:List V} {ks:List (List Int)}:SqT K H a (k.map V.int)->Tks K H vs ks->Tks K H (.ref a::vs) (k::ks)
def kAt (ks:List (List Int)) (i:Nat):List Int:=ks.getD i []
def W1 {prog:Program} {w:World}:∀ {k:List Int} {its:List Value},zn (k.map V.int) its->ItemsAre (intKind prog w) k its
 |[],_,r=>by cases r;exact .nil
 |i::k,_,r=>by
  cases r with
  |cons a b=>
   obtain ⟨t,rfl⟩:=a;exact .cons (intKind_is ..) (W1 b)
def qcd {pins:List (Addr×Obj)} {σ:L2.St} {H:Hp} {s:Shared} (I:Inv X pins σ H s) {a:Addr}:∀ {vs:List V} {ks:List (List Int)} {its:List Value},Tks X.K H vs ks->zn vs its->∃ ad:Nat->Addr,its.length=ks.length/\(∀ (i:Nat) v,its[i]?=some v->v=.ref (ad i))/\∀ i,i<ks.length->Tb8.IsP X.prog X.w s.heap (kAt ks i) (ad i)
 |_,_,_,.nil,r=>by cases r;exact ⟨λ_=>0,rfl,λi v h=>by simp at h,λi h=>absurd h (by simp)⟩
 |_,_,_,.cons (a:=b) (k:=k) h t,r=>by
  cases r with
  |cons rb r=>
   obtain ⟨ad,h1,h2,h3⟩:=qcd I (a:=a) t r;cases rb;obtain ⟨its',rv,⟨o,e,c,n,d⟩,_⟩:=I.tuple h;refine ⟨λi=>match i with|0=>b|i+1=>ad i,by simp [h1],λi v hv=>?_,λi hi=>?_⟩
   ·cases i with
    |zero=>simp at hv;exact hv.symm
    |succ i=>exact h2 i v (by simpa using hv)
   ·cases i with
    |zero=>exact ⟨o,_,n,e,c,d,by simpa [kAt] using W1 rv⟩
    |succ i=>exact h3 i (by simpa using hi)
def XN {e:Expr} {te:TE} {p p2 pos pos2:Pos} (hc:X.calm=true) (hu:X.A.units+64<cLine) (hg:Gl X "len") (hm:X.mg "len" = none) (hg2:Gl X "set") (hm2:X.mg "set" = none) (he:PE X e te)
  (h1:starEach [e] X.env=(false,eval e X.env)::starEach [] X.env:=by rfl) (h2:starEach [.Call (.Name "set" p2) [e] [] pos2] X.env=(false,eval (.Call (.Name "set" p2) [e] [] pos2) X.env)::starEach [] X.env:=by rfl)
  (h3:(backTo pos (starEach [] X.env)).any (·.1)=false:=by rfl) (h4:(backTo pos2 (starEach [] X.env)).any (·.1)=false:=by rfl) :
  PE X (.Call (.Name "len" p) [.Call (.Name "set" p2) [e] [] pos2] [] pos) (λσ H Q=>te σ H λx H1=>∃ a vs ks,x=.ref a/\SqT X.K H1 a vs/\Tks X.K H1 vs ks/\ks.length<=18/\Q (.int (Tb8.cnt (kAt ks) ks.length)) H1):=by
 intro pins s σ H Q I h;refine wpAny_Call_Name_kw (YR I hg hm PySem.boot_len ?_);refine PyProof.Rows.callWith_builtin1 ?_ h2 h3;rw [h2];show wpAny _ _ (spliced ((false,eval (.Call (.Name "set" p2) [e] [] pos2) X.env)::backTo pos (starEach [] X.env))) _ _ s;refine Calls.spliced_cons ?_;refine wpAny_Call_Name_kw (YR I hg2 hm2 (show bootBuiltins "set" = some (.type "set") by decide +kernel) ?_);refine PyProof.Rows.callWith_type1 ?_ h1 h4;rw [h1];show wpAny _ _ (spliced ((false,eval e X.env)::backTo pos2 (starEach [] X.env))) _ _ s;refine Calls.spliced_cons (thn (he pins s σ H _ I h) λu s1 ⟨x,H1,I1,r1,a,vs,ks,ex,hq,ht,hl,q⟩=>?_);subst ex;cases r1;refine Calls.spliced_nil ?_;obtain ⟨its,rv,tp,_⟩:=I1.tuple hq;obtain ⟨ad,l1,l2,l3⟩:=qcd I1 (a:=a) ht rv;have sz:its.toArray.size=ks.length:=by rw [size_toArray];exact l1
 refine Tb8.SE (vs:=its.toArray) (key:=kAt ks) (ad:=ad) (I1.ok.hd hc) (by omega) ⟨tp,λi v hv=>l2 i v (by simpa using hv),λi hi=>l3 i (by omega)⟩ (by omega) λh' tk ps kp=>?_;refine Calls.spliced_nil ?_;rw [sz] at ps;refine Tb8.SZ (s:={ s1 with heap:=h',toks:=tk }) ps (by have:=Tb8.WK (kAt ks) ks.length;omega) ?_;exact ⟨.int _,H1,I1.kept (h':=h') (t':=tk+1+1) λb o e=>kp b o (Heap.lt_size e) e,⟨_,rfl⟩,q⟩
def LL:List T->Option (List (List Int))
 |[]=>some []
 |.tup ys::r=>(match U3 ys,LL r with|some k,some ks=>some (k::ks)|_,_=>none)
 |_=>none
def RT (te:TE3):TE3:=λτ G q=>te τ G λx G1=>match x with
 |.tup ys=>(match LL ys with|some ks=>ks.length<=18/\q (.int (Tb8.cnt (kAt ks) ks.length)) G1|none=>False)
 |_=>False
def qae {K:Frg} {H:Hp}:∀ {ys:List T} {ks:List (List Int)} {vs:List V},LL ys=some ks->Rps K H ys vs->Tks K H vs ks
 |[],ks,_,h,r=>by
  simp only [LL,Option.some.injEq] at h;subst h;cases r;exact .nil
 |y::ys,ks,_,h,r=>by
  cases r with
  |cons ra rb=>
   cases y<;>try (simp only [LL] at h;cases h;done)
   case tup xs=>
    simp only [LL] at h;split at h
    ·rename_i k ks' e1 e2;cases h;have:=UM e1;subst this;cases ra with
     |tup hs r2=>
      have:=UA r2;subst this;exact .cons hs (qae e2 rb)
    ·cases h
def XJ {e:Expr} {te:TE3} {p p2 pos pos2:Pos} (hc:X.calm=true) (hu:X.A.units+64<cLine) (hg:Gl X "len") (hm:X.mg "len" = none) (hg2:Gl X "set") (hm2:X.mg "set" = none) (he:jE3 X e te)
  (h1:starEach [e] X.env=(false,eval e X.env)::starEach [] X.env:=by rfl) (h2:starEach [.Call (.Name "set" p2) [e] [] pos2] X.env=(false,eval (.Call (.Name "set" p2) [e] [] pos2) X.env)::starEach [] X.env:=by rfl)
  (h3:(backTo pos (starEach [] X.env)).any (·.1)=false:=by rfl) (h4:(backTo pos2 (starEach [] X.env)).any (·.1)=false:=by rfl):jE3 X (.Call (.Name "len" p) [.Call (.Name "set" p2) [e] [] pos2] [] pos) (RT te):=
 ⟨YZ (XN hc hu hg hm hg2 hm2 he.h h1 h2 h3 h4) λ_ _ _ ⟨τ,G,q,rl,h,af⟩=>zp rl h λx G1 h1 v H1 rx hr1 k1 rl1=>by
  split at h1
  ·rename_i ys;split at h1
   ·rename_i ks e1;cases rx with
    |tup hs r2=>exact ⟨_,_,ks,rfl,hs,qae e1 r2,h1.1,af _ _ h1.2 _ _ (.int _) hr1 k1⟩
   ·exact h1.elim
  ·exact h1.elim⟩
end
section
variable {X:Cx} {K:Frg} {w:World} {mg:Str->Option Value}
inductive Ents (K:Frg) (w:World):List DictEntry->List (Str×T)->Prop
 |nil:Ents K w [] []
 |cons {x:Str} {tk:Tok} {u:Value} {v:V} {t:T} {es:List DictEntry} {tab:List (Str×T)}:zT v u->(∀ H,Rp K H t v)->Ents K w es tab->Ents K w (⟨PyData.keyHash w.params x,.str x tk,u⟩::es) ((x,t)::tab)
def js:List (Str×T)->Str->Option T
 |[],_=>none
 | (y,t)::r,x=>if y=x then some t else js r x
structure Tb (K:Frg) (mg:Str->Option Value) (w:World) (x:Str) (tab:List (Str×T)):Prop where
 at_:∃ (d:Addr) (es:Array DictEntry) (ep:Nat),mg x=some (.ref d)/\K.lookup d=some ⟨.type "dict",none,.dict es ep,#[]⟩/\(d==sysModules)=false/\Ents K w es.toList tab
def Ents.keys {P:Program}:∀ {es:List DictEntry} {tab:List (Str×T)},Ents K w es tab->∀ e∈es,∃ k,(PySem.strKind P w).is k e.key=true/\e.hash=(PySem.strKind P w).hash k
 |_,_,.nil,e,h=>by cases h
 |_,_,.cons (x:=x) a b t,e,h=>by
  rcases mem_cons.mp h with rfl|h
  ·exact ⟨x,by show (x==x)=true;simp,rfl⟩
  ·exact Ents.keys t e h
def Ents.find:∀ {es:List DictEntry} {tab:List (Str×T)} (x:Str),Ents K w es tab ->
    (match js tab x with
     |some t=>∃ (u:Value) (v:V),(es.find? λe=>Value.isStrOf x e.key).map (·.val)=some u/\zT v u/\∀ H,Rp K H t v
     |none=>(es.find? λe=>Value.isStrOf x e.key).map (·.val)=none)
  |_,_,x,.nil=>by simp [js]
  |_,_,x,.cons (x:=y) (tk:=tk) (u:=u) (v:=v) (t:=t) (es:=es) (tab:=tab) a b r=>by
    by_cases e:y=x
    · have:Value.isStrOf x (Value.str y tk)=true:=by show (y==x)=true;simp [e]
      simp only [js,e,if_true,List.find?_cons,this];subst e;simp only [this];exact ⟨u,v,rfl,a,b⟩
    · have:Value.isStrOf x (Value.str y tk)=false:=by show (y==x)=false;simp [e]
      have ih:=Ents.find x r;simp only [js,e,if_false,List.find?_cons,this];exact ih
def Ents.map {P:Program} {h:Heap} {d:Addr} {es:Array DictEntry} {ep:Nat} {tab:List (Str×T)} (hd:h.get? d=some ⟨.type "dict",none,.dict es ep,#[]⟩) (en:Ents K w es.toList tab) :
  Heap.MapOf (PySem.strKind P w) h d (λx=>findBy Value.isStrOf es x):=
 ⟨_,es,ep,hd,⟨rfl,rfl,rfl⟩,rfl,λe he=>en.keys e (by simpa using he),λ_=>rfl⟩
def KZ {d:Addr} {es:Array DictEntry} {ep:Nat} {tab:List (Str×T)} (hk:X.K.lookup d=some ⟨.type "dict",none,.dict es ep,#[]⟩) (hn:(d==sysModules)=false) (en:Ents X.K X.w es.toList tab):OpR X (compareOp .In) (λx y H Q=>y=.ref d/\∃ s,x=.str s/\Q (.bl (js tab s).isSome) H):=by
 intro pins s σ H x y v u Q I rx ry h;obtain ⟨rfl,z,rfl,q⟩:=h;cases ry;obtain ⟨tk,rfl⟩:=rx;have hd:=I.kIn _ _ hk;refine wpAny_in_of (knd:=PySem.strKind X.prog X.w) (k:=z) (by show (z==z)=true;simp) hn (en.map hd) ?_;have f:=en.find z;have e:(findBy Value.isStrOf es z).isSome=(js tab z).isSome:=by
  unfold findBy;rw [← Array.find?_toList];split at f
  ·rename_i t ht;obtain ⟨u,v,hf,_⟩:=f;rw [hf,ht];rfl
  ·rename_i ht;rw [f,ht];rfl
 rw [e];exact ⟨.bl _,H,I.tok _,rfl,q⟩
def qeL (tab:List (Str×T)) (te:TE3):TE3:=λτ G q=>te τ G λx G1=>match x with|.str s=>q (.bl (js tab s).isSome) G1|_=>False
def KF {x:Str} {e:Expr} {te:TE3} {tab:List (Str×T)} {p1 pos:Pos} (tb:Tb X.K X.mg X.w x tab) (hg:Gl X x) (he:jE3 X e te) (hm2:behindInMarks .In (.Name x p1)=false:=by with_unfolding_all rfl) (hd:(x==("__debug__" : Str))=false:=by decide):jC3 X (.Compare e [.In] [.Name x p1] pos) (tb3 (qeL tab te)):=by
 obtain ⟨d,es,ep,hm,hk,hn,en⟩:=tb.at_;refine ⟨qeO (C6 (KZ hk hn en) he.h (qbk hg hm (v:=.ref d) rfl hd) hm2) λ_ _ _ h=>qbf (t:=qeL tab te) (λ_ _ _ h'=>?_) h⟩;obtain ⟨τ,G,q,rl,h,af⟩:=h';refine zp rl h λy G1 h1 v H1 rx hr1 k1 rl1=>?_;cases y<;>try exact h1.elim
 case str z=>
  cases rx;exact ⟨rfl,z,rfl,af.back k1 _ _ h1 _ _ (.bl _) hr1 Kp.refl⟩
end
section
variable {X:Cx}
end
def WA {K:Frg} {p:Addr} {od:Option Addr} {n:Nat} {sl:Array (Option Value)} {i j:Int} {ti tj:Tok} (h:K.lookup p=some ⟨.type "tuple",od,.seq #[.int i ti,.int j tj] n,sl⟩):∀ H,Rp K H (.tup [.int i,.int j]) (.ref p):=λH=>
 .tup (vs:=[.int i,.int j]) (.inr ⟨_,_,_,h,rfl,rfl,by show 2<=sizeLine;decide,.cons ⟨_,rfl⟩ (.cons ⟨_,rfl⟩ .nil)⟩) (.cons (.int _) (.cons (.int _) .nil))
def jq:List (Str×T):=[("row",.tup [.int 0,.int 1]),("column",.tup [.int 1,.int 0]),("slant",.tup [.int 1,.int 1]),("back",.tup [.int 1,.int (-1)])]
open PySem.SeqAt
def EZ (dx:PyData):List PyData->Option Bool
 |[]=>some false
 |d::ds=>(match jv d dx,EZ dx ds with|some b,some c=>some (b||c)|_,_=>none)
def WH {dx:PyData}:∀ {ds:List PyData} {b:Bool},EZ dx ds=some b->∃ bs:List Bool,bs.length=ds.length/\(∀ (j:Nat) d,ds[j]?=some d->∃ c,bs[j]?=some c/\jv d dx=some c)/\b=bs.any id
 |[],b,h=>by simp [EZ] at h;subst h;exact ⟨[],rfl,λj d hd=>by simp at hd,rfl⟩
 |d::ds,b,h=>by
  unfold EZ at h;split at h
  ·rename_i b1 c1 e1 e2;cases h;obtain ⟨bs,hl,ha,hb⟩:=WH e2;refine ⟨b1::bs,by simp [hl],λj d' hd=>?_,by simp [hb]⟩;cases j with
   |zero=>simp at hd;subst hd;exact ⟨b1,rfl,e1⟩
   |succ j=>simpa using ha j d' (by simpa using hd)
  ·cases h
section
variable {X:Cx} {pins:List (Addr×Obj)} {σ:L2.St} {H:Hp} {s:Shared}
def UQ (I:Inv X pins σ H s) {x:V} {dx:PyData} {v:Value} {xs:List V} {ds:List PyData} {its:List Value} {b:Bool} (hu:X.A.units+64<cLine) (hx:DV X.K H x dx) (rx:zT x v) (hs:DVs X.K H xs ds) (rs:zn xs its) (hb:EZ dx ds=some b) (hd:∀ d∈ds,dpt d<=40) :
  ∃ e:Value->Bool,(∀ y∈its,EqAt X.A.in1 s y v (e y))/\its.any e=b:=by
 obtain ⟨bs,hl,ha,rfl⟩:=WH hb;have un:X.A.in1.units+40<cLine:=by
  have:X.A.in1.units<=X.A.units+8:=by first|(show X.A.units+1<=_;omega)|(show X.A.units<=_;omega)|(simp [Around.in1];omega)
  omega
 have at_:∀ (j:Nat) y,its[j]?=some y->∃ c,bs[j]?=some c/\EqAt X.A.in1 s y v c:=λj y hj=>by
  obtain ⟨hj1,_⟩:=List.getElem?_eq_some_iff.mp hj;have hxl:j<xs.length:=by rw [rs.length];exact hj1
  obtain ⟨u,hu',ru⟩:=rs.get (getElem?_eq_getElem hxl);rw [hj] at hu';cases hu';obtain ⟨d,hd1,hd2⟩:=hs.get (getElem?_eq_getElem hxl);obtain ⟨c,hc1,hc2⟩:=ha j d hd1;exact ⟨c,hc1,(UO I 40 hd2 hx hc2 (hd d (mem_of_getElem? hd1)) un ru rx).2⟩
 classical
 refine ⟨λy=>decide (∃ j:Nat,its[j]?=some y/\bs[j]?=some true),λy hy=>?_,?_⟩
 ·by_cases he:∃ j:Nat,its[j]?=some y/\bs[j]?=some true
  ·obtain ⟨j,h1,h2⟩:=id he;obtain ⟨c,hc,eq⟩:=at_ j y h1;rw [h2] at hc;cases hc;simpa [he] using eq
  ·obtain ⟨j,hj,e⟩:=List.mem_iff_getElem.mp hy;have hj':its[j]?=some y:=by rw [getElem?_eq_getElem hj,e]
   obtain ⟨c,hc,eq⟩:=at_ j y hj';cases c with
   |true=>exact absurd ⟨j,hj',hc⟩ he
   |false=>simpa [he] using eq
 ·rw [Bool.eq_iff_iff,List.any_eq_true,List.any_eq_true];constructor
  ·rintro ⟨y,_,hy⟩;obtain ⟨j,_,h2⟩:=of_decide_eq_true hy;exact ⟨true,mem_of_getElem? h2,rfl⟩
  ·rintro ⟨c,hc,e⟩;have:c=true:=e;subst this;obtain ⟨j,hj,ej⟩:=List.mem_iff_getElem.mp hc;have hl2:its.length=bs.length:=by rw [← rs.length,hs.length,hl]
   have hj2:j<its.length:=by omega
   exact ⟨its[j],List.getElem_mem hj2,decide_eq_true ⟨j,getElem?_eq_getElem hj2,by rw [getElem?_eq_getElem hj,ej]⟩⟩
def qfb (K:Frg) (neg:Bool):R2:=λx y H Q=>∃ p xs dx ds b,y=.ref p/\(SqL K H p xs\/SqT K H p xs)/\DV K H x dx/\DVs K H xs ds/\EZ dx ds=some b/\(∀ d∈ds,dpt d<=40)/\Q (.bl (if neg then !b else b)) H
def NZ (hu:X.A.units+64<cLine):OpR X (compareOp .In) (qfb X.K false):=by
 intro pins s σ H x y v u Q I rx ry h;obtain ⟨p,xs,dx,ds,b,rfl,hq,hx,hs,hb,hd,q⟩:=h;cases ry;rcases hq with hq|hq
 ·obtain ⟨its,r,pl,hz⟩:=I.list hq;obtain ⟨e,he,ha⟩:=UQ I hu hx rx hs r hb hd;refine SeqAt.in_listAt e pl.isList (λw hw=>he w (by simpa using hw)) ⟨.bl _,H,I,rfl,?_⟩;rw [show its.toArray.any e=its.any e by simp,ha];exact q
 ·obtain ⟨its,r,pl,hz⟩:=I.tuple hq;obtain ⟨e,he,ha⟩:=UQ I hu hx rx hs r hb hd;refine SeqAt.in_tupleAt e pl (λw hw=>he w (by simpa using hw)) ⟨.bl _,H,I,rfl,?_⟩;rw [show its.toArray.any e=its.any e by simp,ha];exact q
def RC (hu:X.A.units+64<cLine):OpR X (compareOp .NotIn) (qfb X.K true):=by
 intro pins s σ H x y v u Q I rx ry h;obtain ⟨p,xs,dx,ds,b,rfl,hq,hx,hs,hb,hd,q⟩:=h;cases ry;rcases hq with hq|hq
 ·obtain ⟨its,r,pl,hz⟩:=I.list hq;obtain ⟨e,he,ha⟩:=UQ I hu hx rx hs r hb hd;refine SeqAt.notIn_listAt e pl.isList (λw hw=>he w (by simpa using hw)) ⟨.bl _,H,I,rfl,?_⟩;rw [show its.toArray.any e=its.any e by simp,ha];exact q
 ·obtain ⟨its,r,pl,hz⟩:=I.tuple hq;obtain ⟨e,he,ha⟩:=UQ I hu hx rx hs r hb hd;refine SeqAt.notIn_tupleAt e pl (λw hw=>he w (by simpa using hw)) ⟨.bl _,H,I,rfl,?_⟩;rw [show its.toArray.any e=its.any e by simp,ha];exact q
end
def qc9 (neg:Bool):R3:=λx y G q=>∃ ys dx ds b,Z0 G y=some ys/\Dp G x dx/\Dps G ys ds/\EZ dx ds=some b/\(∀ d∈ds,dpt d<=40)/\q (.bl (if neg then !b else b)) G
def D6 {K:Frg} {neg:Bool}:DK K (qc9 neg) (qfb K neg):=λx y v u G H q Q hr rx ry h af=>by
 obtain ⟨ys,dx,ds,b,h1,h2,h3,h4,h5,h6⟩:=h;cases y with
 |tup zs=>
  simp [Z0] at h1;subst h1;cases ry with
  |tup hs rs=>exact ⟨_,_,dx,ds,b,rfl,.inr hs,h2.dv hr rx,h3.dv hr rs,h4,h5,af _ G h6 _ H (.bl _) hr Kp.refl⟩
 |ref p=>
  simp [Z0] at h1;cases ry;obtain ⟨us,hs,rs⟩:=zA hr h1;exact ⟨_,_,dx,ds,b,rfl,.inl hs,h2.dv hr rx,h3.dv hr rs,h4,h5,af _ G h6 _ H (.bl _) hr Kp.refl⟩
 |_=>simp [Z0] at h1
end L3
namespace HT
open PySem PySem.Spec PyProof.Rows L2
section
open PySem.SeqAt
open PySem.MeetsSeq PySem.MeetsSeq2 PySem.MeetsSeq3
end
section
variable {prog:Program} {w:World} {A:Around} {E:Value->Shared->Prop} {s:Shared}
end
end HT
namespace L3
open PySem PySem.Spec PyProof.Rows L2
section
variable {X:Cx}
end
end L3
namespace HT
open PySem PyProof.Rows
section
variable {prog:Program} {w:World} {A:Around} {R:Result->Shared->Prop} {I:Addr} {fp wr:List Addr} {n:Nat} {P:Nat->Value->Prop} {St:Nat->Heap->Prop}
end
section
variable {prog:Program} {w:World} {A:Around} {E:Value->Shared->Prop} {s:Shared}
end
end HT
namespace L3
open PySem PySem.Spec PyProof.Rows L2
section
variable {X:Cx}
end
section
variable {X:Cx}
def SM (hc:X.calm=true):QB X (.builtin "min") (λxs H Q=>∃ (p:Addr) (ns:List Int),xs=[.ref p]/\SqT X.K H p (ns.map V.int)/\ns≠[]/\∀ m∈ns,(∀ a∈ns,m<=a)->Q (.int m) H):=by
 intro pins s σ H xs us Q I r h;obtain ⟨p,ns,rfl,hq,hne,q⟩:=h;obtain ⟨u,rfl,rp⟩:=YE r;cases (show u=Value.ref p from rp);obtain ⟨its,rv,pl,hz⟩:=I.tuple hq;have hlen:its.length=ns.length:=by have:=rv.length;simp at this;omega
 have hpos:0<ns.length:=List.length_pos_iff.mpr hne;have hp:p<s.heap.objs.size:=by obtain ⟨o,e,_⟩:=id pl;exact Heap.lt_size e
 have ia:=VR rv;have vals:∀ (i:Nat) (v:Value),its.toArray[i]?=some v->∃ t,v=Value.int (ns.getD i 0) t:=λi v hv=>ia.int_at i v (by simpa using hv);refine call_min_walk (wpAny_pyIter_tuple pl ⟨s.heap.objs.size,_,_,_,_,_,_,rfl,Walks.tuple (A:=X.A.in1) (show X.A.in1.handled=none from I.ok.hd hc) s.heap.objs.size p (Nat.ne_of_lt hp) its.toArray,⟨⟨_,Heap.get?_push_size _ rfl,rfl,rfl⟩,?_⟩,λb hb=>?_,by rw [size_toArray];omega,CmpOf.ints_lt (λi=>ns.getD i 0) vals,λv h' tk hP hk=>?_⟩)
 ·exact Heap.IsTuple.push pl _
 ·rw [show (({ s with heap:=s.heap.push _ }:Shared).heap.objs.size)=s.heap.objs.size+1 from Heap.size_push ..];simp only [mem_cons,not_mem_nil,or_false] at hb;rcases hb with rfl|rfl
  ·exact Nat.lt_succ_self _
  ·exact Nat.lt_succ_of_lt hp
 ·obtain ⟨b1,b2⟩:=argBest_lt (λi=>ns.getD i 0) (its.toArray.size-1);obtain ⟨t,rfl⟩:=vals _ _ hP;rw [size_toArray] at b1 b2 ⊢;have gd:∀ j,(hj:j<ns.length)->ns.getD j 0=ns[j]:=λj hj=>by rw [getD_eq_getElem?_getD,getElem?_eq_getElem hj];rfl
  refine ⟨.int _,H,I.kept (h':=h') (t':=tk) λb o e=>hk b o (by simp;exact Nat.ne_of_lt (Heap.lt_size e)) (Heap.get?_push_of_some _ e),⟨_,rfl⟩,q _ ?_ λa ha=>?_⟩
  ·rw [gd _ (by omega)];exact List.getElem_mem _
  ·obtain ⟨j,hj,rfl⟩:=List.mem_iff_getElem.mp ha;have:=b2 j (by omega);simp only [gd j hj] at this;exact this
def RX:List T->Gp->Q3->Prop:=λxs G q=>match xs with
 |[.tup ys]=>(match U3 ys with|some ns=>ns≠[]/\∀ m∈ns,(∀ a∈ns,m<=a)->q (.int m) G|none=>False)
 |_=>False
def KA {K:Frg}:W8 K RX (λxs H Q=>∃ (p:Addr) (ns:List Int),xs=[.ref p]/\SqT K H p (ns.map V.int)/\ns≠[]/\∀ m∈ns,(∀ a∈ns,m<=a)->Q (.int m) H):=λxs vs G H q Q hr rs h af=>by
 unfold RX at h;split at h
 ·rename_i ys;obtain ⟨v,rfl,r⟩:=EY rs;split at h
  ·rename_i ns e1;have:=UM e1;subst this;cases r with
   |tup hs r2=>
    have:=UA r2;subst this;exact ⟨_,ns,rfl,hs,h.1,λm hm ha=>af _ _ (h.2 m hm ha) _ _ (.int _) hr Kp.refl⟩
  ·exact h.elim
 ·exact h.elim
end
def ixR (p:Addr) (i:Int) (G:Gp) (q:Q3):ix3 (.ref p) (.int i) G q=(match getL G p with|some xs=>(match L2.atI xs i with|some z=>q z G|none=>False)|none=>False):=rfl
def D9 {α:Type} {xs:List α} {i:Int} (h0:0<=i) (h1:i<(xs.length:Int)):L2.atI xs i=xs[i.toNat]?:=by
 unfold L2.atI ixN;have e1:i.toNat<xs.length:=by omega
 simp [h0,e1,h1]
def cm {i j:Int} (h1:-1000000<j) (h2:j<1000000):EQ i j:=.inr ⟨by omega,by omega⟩
def SO {lo:Int} {n i:Nat} {x:T} (h:(XZ lo n)[i]?=some x):i<n/\x=T.int (lo+(i:Int)):=by
 unfold XZ at h;rw [getElem?_map] at h;cases e:(List.range n)[i]? with
 |none=>rw [e] at h;cases h
 |some k=>
  rw [e] at h;obtain ⟨hi,hk⟩:=List.getElem?_eq_some_iff.mp e;simp at hi hk;subst hk;exact ⟨hi,by simpa using h.symm⟩
def qa8 (lo:Int) (n:Nat):(XZ lo n).length=n:=by simp [XZ]
end L3
namespace Bk
open PySem L2 L3
def zh:TS3:=(zw (jc (DT (λt=>ja t "int") (v3 0)) (L0 (DT (λt=>ja t "bool") (v3 0)))))
def ZH (S_is_number:Sp3):TS3:=(zw (jc (DT (λt=>ja t "tuple") (v3 0)) (jc (o3 (jk false) (cb3 YT (qc (v3 0) qp)) (c3 (.int 2))) (jc (cb3 S_is_number (qc (o3 ix3 (v3 0) (c3 (.int 0))) qp)) (cb3 S_is_number (qc (o3 ix3 (v3 0) (c3 (.int 1))) qp))))))
def ZK:TS3:=(zi (jo (o3 (iC (λ_ j=>0<j) (·%·)) (o3 (iC EQ (·*·)) (o3 j3 (o3 j3 (o3 (iC (λ_ j=>0<j) (·%·)) (v3 0) (c3 (.int 2147483629))) (o3 (iC EQ (·*·)) (o3 (iC EQ (·*·)) (v3 1) (v3 1)) (c3 (.int 7919)))) (c3 (.int 11))) (c3 (.int 48271))) (c3 (.int 2147483647))) (gn3 2)) (zw (o3 (iC (λ_ j=>0<j) (·%·)) (o3 (iC EQ (·*·)) (v3 2) (v3 2)) (c3 (.int 1999999973)))))
def QU:TS3:=(zi (jo (if3 (tb3 (o3 (iB λi j=>decide (i<j)) (v3 1) (cb3 YT (qc (v3 0) qp)))) (o3 ix3 (v3 0) (v3 1)) (c3 (.int 0))) (gn3 2)) (zi (jo (if3 (tb3 (o3 (iB λi j=>decide (j<=i)) (cb3 qcU (qc (v3 2) qp)) (o3 (iC KY (λi j=>i ^ j.toNat)) (c3 (.int 10)) (c3 (.int 18))))) (cb3 qcU (qc (v3 2) qp)) (c3 (.int 0))) (gn3 3)) (zw (VF (qc (v3 3) (qc (o3 j3 (v3 2) (o3 (iC EQ (·*·)) (c3 (.int 1000003)) (v3 1))) (qc (c3 (.int 0)) qp)))))))
def QH (S_law_mix:Sp3):TS3:=(zi (jo (o3 j3 (o3 ix3 (v3 0) (c3 (.int 2))) (c3 (.int 1))) (V5 (v3 0) (c3 (.int 2)))) (zi (jI (tb3 (o3 (iB λi j=>decide (j<i)) (o3 ix3 (v3 0) (c3 (.int 0))) (c3 (.int 0)))) (zi (jo (o3 (iC (λ_ j=>0<j) (·%·)) (o3 ix3 (v3 0) (c3 (.int 0))) (v3 1)) (gn3 2)) (zi (jo (o3 (iC qbE (·/·)) (o3 ix3 (v3 0) (c3 (.int 0))) (v3 1)) (V5 (v3 0) (c3 (.int 0)))) (zw (v3 2)))) qV) (zw (o3 (iC (λ_ j=>0<j) (·%·)) (o3 (iC qbE (·/·)) (cb3 S_law_mix (qc (cb3 S_law_mix (qc (o3 ix3 (v3 0) (c3 (.int 1))) (qc (o3 ix3 (v3 0) (c3 (.int 2))) qp))) (qc (o3 j3 (o3 ix3 (v3 0) (c3 (.int 2))) (c3 (.int 64))) qp))) (c3 (.int 64))) (v3 1)))))
def p2 (n:Nat):((2:Int) ^ n)=((2 ^ n:Nat):Int):=by simp
abbrev qen (q:Q3):Ends3:={ nx:=λ_ G'=>q .non G',rt:=q }
def JK {A B:TS3} {d:Ends3} {τ:St3} {G:Gp} (h:∀ nx,nx=B d->A { d with nx:=nx } τ G):zi A B d τ G:=h _ rfl
def Lf (G:Gp) (a:Addr) (n:Int):Prop:=∃ o c m,G a=some (.lst [.int o,.int c,.int m])/\0<=o/\0<=m/\m<=n
def Ext (a:Addr) (G G':Gp):Prop:=∀ b o,b≠a->G b=some o->G' b=some o
def Lf.ne {G:Gp} {a p:Addr} {n:Int} (h:Lf G a n) (hp:G p=none):p≠a:=by
 rintro rfl;obtain ⟨o,c,m,e,_⟩:=h;rw [hp] at e;cases e
def Lf.new {G:Gp} {a p:Addr} {n:Int} {ob:O} (h:Lf G a n) (hp:p≠a):Lf (gu G p ob) a n:=by
 obtain ⟨o,c,m,e,r⟩:=h;exact ⟨o,c,m,by rw [j7 (Ne.symm hp)];exact e,r⟩
def Lf.mono {G:Gp} {a:Addr} {n k:Int} (h:Lf G a n) (hk:n<=k):Lf G a k:=by
 obtain ⟨o,c,m,e,h1,h2,h3⟩:=h;exact ⟨o,c,m,e,h1,h2,by omega⟩
def Lf.ex {G G':Gp} {a:Addr} {n:Int} (h:Lf G a n) (e:Ex G G'):Lf G' a n:=by
 obtain ⟨o,c,m,e1,h1⟩:=h;exact ⟨o,c,m,e _ _ e1,h1⟩
def Ext.refl {a:Addr} {G:Gp}:Ext a G G:=λ_ _ _ e=>e
def Ext.trans {a:Addr} {G G1 G2:Gp} (x:Ext a G G1) (y:Ext a G1 G2):Ext a G G2:=λb o hb e=>y b o hb (x b o hb e)
def J7 {a p:Addr} {G:Gp} {ob:O} (hp:G p=none):Ext a G (gu G p ob):=λb o _ e=>by
 rw [j7 (by rintro rfl;rw [hp] at e;cases e)];exact e
def VY {a:Addr} {G G':Gp} (h:Ex G G'):Ext a G G':=λb o _ e=>h b o e
def VZ:Sp3:=λts G q=>∃ c k,ts=[.int c,.int k]/\0<=k/\k<4294967296/\∀ m,0<=m->m<1999999973->q (.int m) G
def jJ:Sp3:=λts G q=>∃ (a:Addr) (k:Int) (ns:List Int),ts=[.ref a,.int k]/\G a=some (.frz (ns.map T.int))/\ns.length<=63/\0<=k/\k<=63/\∀ p o c,G p=none->0<=o->q (.ref p) (gu G p (.lst [.int o,.int c,.int 0]))
def qP:Sp3:=λts G q=>∃ a n many,ts=[.ref a,.int many]/\1<=many/\many<1073741824/\Lf G a n/\n<1073741824/\∀ d G',0<=d->d<many->Lf G' a (n+1)->Ext a G G'->q (.int d) G'
def jF {a:Addr} {n many:Int} {G:Gp} {q:Q3} (hL:Lf G a n) (h1:1<=many) (h2:many<1073741824) (hn:n<1073741824) (h:∀ d G',0<=d->d<many->Lf G' a (n+1)->Ext a G G'->q (.int d) G'):qP [.ref a,.int many] G q:=⟨a,n,many,rfl,h1,h2,hL,hn,h⟩
def XT:∀ ts G q,VZ ts G q->ts.length=2/\ZK (qen q) (qx ["_law_cell","_law_k","_law_m"] ts) G:=by
 rintro ts G q ⟨c,k,rfl,h1,h2,h⟩;refine ⟨rfl,?_⟩;simp only [ZK,zi,jo,o3,v3,qx,map_cons,List.map_nil,length_cons,length_nil,Nat.zero_add,Nat.reduceAdd,Nat.reduceSub,List.replicate_one,cons_append,List.nil_append,Nat.zero_lt_succ,getElem?_pos,getElem_cons_zero,c3,iC,Int.reduceLT,Nat.reduceLT,getElem_cons_succ,j3,gn3,zw,set_cons_succ,set_cons_zero,Nat.lt_add_one,true_and];exact ⟨.inl ⟨by omega,by omega⟩,cm (by omega) (by omega),cm (by omega) (by omega),.inl ⟨by omega,by omega⟩,h _ (Int.emod_nonneg _ (by omega)) (Int.emod_lt_of_pos _ (by omega))⟩
def cp:KY 10 18:=⟨by decide,by decide,by decide⟩
def D7:∀ ts G q,jJ ts G q->ts.length=2/\QU (qen q) (qx ["_law_script","_law_k","_law_cell","_law_own"] ts) G:=by
 rintro ts G q ⟨a,k,ns,rfl,hG,hl,h1,h2,h⟩;refine ⟨rfl,?_⟩;simp only [QU,zi,jo,if3,tb3,o3,v3,qx,map_cons,List.map_nil,length_cons,length_nil,Nat.zero_add,Nat.reduceAdd,Nat.reduceSub,List.reduceReplicate,cons_append,List.nil_append,Nat.reduceLT,getElem?_pos,getElem_cons_succ,getElem_cons_zero,cb3,qc,Nat.zero_lt_succ,qp,YT,getL,hG,iB,length_map,decide_eq_true_eq,gn3,set_cons_succ,set_cons_zero,qcU,c3,iC,Int.reduceToNat,Int.reducePow,zw,VF,Nat.lt_add_one,j3,ne_eq,sizeLine_eq,Nat.reduceLeDiff,true_and,gu,ixR,atI,ixN,getElem?_map,Int.lt_irrefl,↓reduceIte,Int.reduceLE,decide_false,Bool.false_eq_true,Int.zero_add];have ck:EQ 1000003 k:=cm (by omega) (by omega);by_cases hk:k<ns.length
 ·have hk':k.toNat<ns.length:=by omega
  simp [hk,h1,hk',cp,ck];split
  ·split
   ·exact λp hp=>h p (-ns[k.toNat]) _ hp (by omega)
   ·exact λp hp=>h p 0 _ hp (by omega)
  ·split
   ·exact λp hp=>h p ns[k.toNat] _ hp (by omega)
   ·exact λp hp=>h p 0 _ hp (by omega)
 ·simp [hk,cp,ck];exact λp hp=>h p 0 _ hp (by omega)
def DN:∀ ts G q,qP ts G q->ts.length=2/\QH VZ (qen q) (qx ["_law_left_here","_law_many","_law_digit"] ts) G:=by
 rintro ts G q ⟨a,n,many,rfl,m1,m2,⟨o,c,m,hG,ho,hm,hn⟩,h3,h⟩;refine ⟨rfl,?_⟩;unfold QH;refine JK λnx1 q1=>?_;simp only [jo,o3,v3,qx,map_cons,List.map_nil,length_cons,length_nil,Nat.zero_add,Nat.reduceAdd,Nat.reduceSub,List.replicate_one,cons_append,List.nil_append,Nat.zero_lt_succ,getElem?_pos,getElem_cons_zero,c3,j3,ne_eq,sizeLine_eq,V5,qaS,ixN,Int.zero_le_ofNat,↓reduceIte,Int.reduceToNat,tb3,iB,decide_eq_true_eq,Nat.reduceLT,getElem_cons_succ,iC,gn3,set_cons_succ,set_cons_zero,Std.le_refl,Int.natCast_pos,Int.toNat_zero,zw,Nat.lt_add_one,ixR,getL,atI,qV,cb3,qc,qp,Int.toNat_one,List.length_set,hG,Int.cast_ofNat_Int,Int.reduceLT,Option.bind_some,qL];rw [q1];clear q1;refine JK λnx2 q2=>?_;simp only [jI,jo,o3,v3,qx,map_cons,List.map_nil,length_cons,length_nil,Nat.zero_add,Nat.reduceAdd,Nat.reduceSub,List.replicate_one,cons_append,List.nil_append,Nat.zero_lt_succ,getElem?_pos,getElem_cons_zero,c3,j3,ne_eq,sizeLine_eq,V5,qaS,ixN,Int.zero_le_ofNat,↓reduceIte,Int.reduceToNat,tb3,iB,decide_eq_true_eq,Nat.reduceLT,getElem_cons_succ,iC,gn3,set_cons_succ,set_cons_zero,Std.le_refl,Int.natCast_pos,Int.toNat_zero,zw,Nat.lt_add_one,ixR,getL,atI,qV,cb3,qc,qp,Int.toNat_one,List.length_set,hG,Int.cast_ofNat_Int,Int.reduceLT,Option.bind_some,qL];split
 ·simp only [zi,jo,o3,v3,length_cons,length_nil,Nat.zero_add,Nat.reduceAdd,Nat.zero_lt_succ,getElem?_pos,getElem_cons_zero,c3,Nat.reduceLT,getElem_cons_succ,iC,gn3,set_cons_succ,set_cons_zero,V5,qaS,ixN,Std.le_refl,↓reduceIte,Int.natCast_pos,Int.toNat_zero,zw,Nat.lt_add_one,ixR,getL,atI,qL,Int.cast_ofNat_Int,Int.reduceLT,Option.bind_some];refine ⟨by omega,⟨by omega,m2⟩,h _ _ (Int.emod_nonneg _ (by omega)) (Int.emod_lt_of_pos _ (by omega)) ⟨o/many,c,m+1,qL,Int.ediv_nonneg ho (by omega),by omega,by omega⟩ λb ob hb e=>?_⟩;rw [j7 hb,j7 hb];exact e
 ·rw [q2];clear q2;simp only [jo,o3,v3,qx,map_cons,List.map_nil,length_cons,length_nil,Nat.zero_add,Nat.reduceAdd,Nat.reduceSub,List.replicate_one,cons_append,List.nil_append,Nat.zero_lt_succ,getElem?_pos,getElem_cons_zero,c3,j3,ne_eq,sizeLine_eq,V5,qaS,ixN,Int.zero_le_ofNat,↓reduceIte,Int.reduceToNat,tb3,iB,decide_eq_true_eq,Nat.reduceLT,getElem_cons_succ,iC,gn3,set_cons_succ,set_cons_zero,Std.le_refl,Int.natCast_pos,Int.toNat_zero,zw,Nat.lt_add_one,ixR,getL,atI,qV,cb3,qc,qp,Int.toNat_one,List.length_set,hG,Int.cast_ofNat_Int,Int.reduceLT,Option.bind_some,qL];refine ⟨c,m+1,rfl,by omega,by omega,λu u1 u2=>?_⟩;simp only [jo,o3,v3,qx,map_cons,List.map_nil,length_cons,length_nil,Nat.zero_add,Nat.reduceAdd,Nat.reduceSub,List.replicate_one,cons_append,List.nil_append,Nat.zero_lt_succ,getElem?_pos,getElem_cons_zero,c3,j3,ne_eq,sizeLine_eq,V5,qaS,ixN,Int.zero_le_ofNat,↓reduceIte,Int.reduceToNat,tb3,iB,decide_eq_true_eq,Nat.reduceLT,getElem_cons_succ,iC,gn3,set_cons_succ,set_cons_zero,Std.le_refl,Int.natCast_pos,Int.toNat_zero,zw,Nat.lt_add_one,ixR,getL,atI,qV,cb3,qc,qp,Int.toNat_one,List.length_set,hG,Int.cast_ofNat_Int,Int.reduceLT,Option.bind_some,qL];refine ⟨u,m+1+64,rfl,by omega,by omega,λv v1 v2=>?_⟩;refine ⟨⟨by omega,by omega⟩,by omega,h _ _ (Int.emod_nonneg _ (by omega)) (Int.emod_lt_of_pos _ (by omega)) ⟨o,c,m+1,qL,ho,by omega,by omega⟩ λb ob hb e=>?_⟩;rw [j7 hb];exact e
def qf1 {α:Type} {x:α} {xs:List α}:L2.atI (x::xs) 0=some x:=by simp [L2.atI,ixN]
def qe3 {α:Type} {x y:α} {xs:List α}:L2.atI (x::y::xs) 1=some y:=by
 rw [D9 (by omega) (by simp;omega)];rfl
structure SD (k n:Nat) (d:PyData):Prop where
 sh:d.showable=true
 nd:d.hasDict=false
 dp:d.depth<=k
 lv:d.leavesShort 13=true
 bk:d.bulk<=n
def MK (k n:Nat) {i:Int} (h:-1000000<=i/\i<=1000000):SD k n (.int i):=by
 refine ⟨?_,rfl,Nat.zero_le _,?_,Nat.zero_le _⟩
 ·simp only [PyData.showable];have:i.natAbs<2 ^ 20:=by omega
  have h2:i.natAbs.log2<20\/i.natAbs=0:=by
   rcases Nat.eq_zero_or_pos i.natAbs with z|z
   ·exact .inr z
   ·exact .inl ((Nat.log2_lt (by omega)).mpr this)
  rcases h2 with h2|h2
  ·simp;omega
  ·simp [h2]
 ·have:=PyProof.Rows.intsShortAll_ints2 [i] (by intro n hn;simp at hn;subst hn;omega);simpa [PyData.intsShortAll,PyData.intsShort,PyData.leavesShort] using this
def _root_.L3.Dps.append {G:Gp}:∀ {xs ys:List T} {ds es:List PyData},Dps G xs ds->Dps G ys es->Dps G (xs++ys) (ds++es)
 |_,_,_,_,.nil,b=>b
 |_,_,_,_,.cons a t,b=>.cons a (L3.Dps.append t b)
def _root_.L3.Dps.take {G:Gp}:∀ {xs:List T} {ds:List PyData} (i:Nat),Dps G xs ds->Dps G (xs.take i) (ds.take i)
 |_,_,0,_=>.nil
 |_,_,_+1,.nil=>.nil
 |_,_,i+1,.cons a t=>.cons a (L3.Dps.take i t)
def _root_.L3.Dps.drop {G:Gp}:∀ {xs:List T} {ds:List PyData} (i:Nat),Dps G xs ds->Dps G (xs.drop i) (ds.drop i)
 |_,_,0,h=>h
 |_,_,_+1,.nil=>.nil
 |_,_,i+1,.cons a t=>L3.Dps.drop i t
def QS (S_law_pick:Sp3):TS3:=(zw (o3 j3 (c3 (.int 1)) (cb3 S_law_pick (qc (v3 0) (qc (o3 ix3 (VF (qc (c3 (.int 5)) (qc (c3 (.int 5)) (qc (c3 (.int 5)) (qc (c3 (.int 5)) (qc (c3 (.int 5)) (qc (c3 (.int 5)) (qc (c3 (.int 8)) (qc (c3 (.int 16)) qp))))))))) (cb3 S_law_pick (qc (v3 0) (qc (c3 (.int 8)) qp)))) qp)))))
def QV (S_law_pick:Sp3) (S_law_many:Sp3):TS3:=(zi (jo (cb3 S_law_pick (qc (v3 0) (qc (c3 (.int 9)) qp))) (gn3 1)) (zi (jI (tb3 (o3 (iB λi j=>decide (i<j)) (v3 1) (c3 (.int 4)))) (zw (j0 (qc (o3 ix3 (VF (qc (c3 (.str "row")) (qc (c3 (.str "column")) (qc (c3 (.str "slant")) (qc (c3 (.str "back")) qp))))) (v3 1)) (qc (cb3 S_law_many (qc (v3 0) qp)) qp)))) qV) (zi (jI (tb3 (o3 (iB λi j=>decide (i<j)) (v3 1) (c3 (.int 6)))) (zi (CO 2 3 (qc (cb3 S_law_pick (qc (v3 0) (qc (c3 (.int 2)) qp))) (qc (o3 j3 (c3 (.int 1)) (cb3 S_law_pick (qc (v3 0) (qc (c3 (.int 4)) qp)))) qp))) (zi (jo (o3 j3 (c3 (.int 1)) (cb3 S_law_pick (qc (v3 0) (qc (o3 (iC qbE (·/·)) (c3 (.int 16)) (v3 3)) qp)))) (gn3 4)) (zw (o3 ix3 (VF (qc (j0 (qc (c3 (.str "block")) (qc (v3 3) (qc (v3 4) qp)))) (qc (j0 (qc (c3 (.str "block")) (qc (v3 4) (qc (v3 3) qp)))) qp))) (v3 2))))) qV) (zi (jI (tb3 (o3 (iB λi j=>decide (i<j)) (v3 1) (c3 (.int 8)))) (zi (CO 5 6 (qc (o3 (iI (·-·)) (cb3 S_law_pick (qc (v3 0) (qc (c3 (.int 7)) qp))) (c3 (.int 3))) (qc (o3 (iI (·-·)) (cb3 S_law_pick (qc (v3 0) (qc (c3 (.int 9)) qp))) (c3 (.int 4))) qp))) (zi (jI (tb3 (o3 (jk false) (cb3 S_law_pick (qc (v3 0) (qc (c3 (.int 6)) qp))) (c3 (.int 0)))) (zw (j0 (qc (c3 (.str "step")) (qc (o3 (iC EQ (·*·)) (c3 (.int 5)) (v3 5)) (qc (o3 j3 (o3 (iC EQ (·*·)) (c3 (.int 3)) (v3 6)) (cb3 T9 (qc (jc (o3 (jk false) (v3 5) (c3 (.int 0))) (o3 (jk false) (v3 6) (c3 (.int 0)))) qp))) (qc (o3 j3 (c3 (.int 1)) (cb3 S_law_pick (qc (v3 0) (qc (c3 (.int 4)) qp)))) qp)))))) qV) (zw (j0 (qc (c3 (.str "step")) (qc (v3 5) (qc (o3 j3 (v3 6) (cb3 T9 (qc (jc (o3 (jk false) (v3 5) (c3 (.int 0))) (o3 (jk false) (v3 6) (c3 (.int 0)))) qp))) (qc (cb3 S_law_many (qc (v3 0) qp)) qp)))))))) qV) (zi (CO 7 8 (qc (VF qp) (qc (o3 j3 (c3 (.int 1)) (o3 (iC EQ (·*·)) (c3 (.int 4)) (cb3 T9 (qc (o3 (jk false) (cb3 S_law_pick (qc (v3 0) (qc (c3 (.int 5)) qp))) (c3 (.int 0))) qp)))) qp))) (zi (CM (VC (qc (cb3 S_law_many (qc (v3 0) qp)) qp)) (gn3 9) (zi (jo (j0 (qc (o3 (iC EQ (·*·)) (v3 8) (o3 (iI (·-·)) (cb3 S_law_pick (qc (v3 0) (qc (c3 (.int 6)) qp))) (c3 (.int 2)))) (qc (o3 (iC EQ (·*·)) (v3 8) (o3 (iI (·-·)) (cb3 S_law_pick (qc (v3 0) (qc (c3 (.int 6)) qp))) (c3 (.int 2)))) qp))) (gn3 10)) (jI (tb3 (o3 (qc9 true) (v3 10) (v3 7))) (LK (bm3 qbz (v3 7) (qc (v3 10) qp))) qV))) (zw (j0 (qc (c3 (.str "cells")) (qc (cb3 WD (qc (v3 7) qp)) qp))))))))))
def jK {G:Gp} {p:Addr} {xs:List T} (h:G p=some (.lst xs)):getL G p=some xs:=by unfold getL;rw [h]
def qaz {xs:List T} {d:Int} (h0:0<=d) (h1:d<(xs.length:Int)):∃ z,L2.atI xs d=some z/\z∈xs:=by
 rw [D9 h0 h1];have:d.toNat<xs.length:=by omega
 exact ⟨xs[d.toNat],getElem?_eq_getElem this,List.getElem_mem this⟩
inductive Wk where
 |line (k m:Nat)
 |block (h w:Nat)
 |step (d a:Int) (m:Nat)
 |cells (ps:List (Int×Int))
def jg:Nat->Str
 |0=>"row" |1=>"column" |2=>"slant" |_=>"back"
def pT (p:Int×Int):T:=.tup [.int p.1,.int p.2]
def Wk.t:Wk->T
 |.line k m=>.tup [.str (jg k),.int m]
 |.block h w=>.tup [.str "block",.int h,.int w]
 |.step d a m=>.tup [.str "step",.int d,.int a,.int m]
 |.cells ps=>.tup [.str "cells",.tup (ps.map pT)]
def Wk.Ok:Wk->Prop
 |.line k m=>k<4/\1<=m/\m<=16
 |.block h w=>1<=h/\1<=w/\h<=16/\w<=16/\h*w<=16
 |.step d a m=>(-16<=d/\d<=16)/\(-16<=a/\a<=16)/\1<=m/\m<=16
 |.cells ps=>1<=ps.length/\ps.length<=16/\ps.Nodup/\∀ p∈ps,(-16<=p.1/\p.1<=16)/\(-16<=p.2/\p.2<=16)
def Q7:Sp3:=λts G q=>∃ a n,ts=[.ref a]/\Lf G a n/\n<10000000/\∀ (m:Nat) G',1<=m->m<=16->Lf G' a (n+2)->Ext a G G'->q (.int m) G'
def DP:∀ ts G q,Q7 ts G q->ts.length=1/\QS qP (qen q) (qx ["_law_left_here"] ts) G:=by
 rintro ts G q ⟨a,n,rfl,hL,hn,h⟩;refine ⟨rfl,?_⟩;simp only [QS,zw,o3,c3,cb3,qc,v3,qx,map_cons,List.map_nil,length_cons,length_nil,Nat.zero_add,Nat.sub_self,List.replicate_zero,List.append_nil,Nat.lt_add_one,getElem?_pos,getElem_cons_zero,VF,qp,Nat.reduceAdd,sizeLine_eq,Nat.reduceLeDiff,j3,ne_eq,true_and];intro p hp;have np:=hL.ne hp;refine jF (hL.new np) (by omega) (by omega) (by omega) λd G1 d0 d1 L1 E1=>?_;have g:=jK (E1 _ _ np qL);obtain ⟨z,hz,hm⟩:=qaz (xs:=[T.int 5,.int 5,.int 5,.int 5,.int 5,.int 5,.int 8,.int 16]) d0 (by simpa using d1);simp only [L3.ixR,g,hz];have:∃ k:Int,z=.int k/\1<=k/\k<=16:=by
  simp only [mem_cons,not_mem_nil,or_false] at hm;rcases hm with rfl|rfl|rfl|rfl|rfl|rfl|rfl|rfl<;>exact ⟨_,rfl,by omega,by omega⟩
 obtain ⟨k,rfl,k1,k2⟩:=this;refine jF L1 (by omega) (by omega) (by omega) λe G2 e0 e1 L2' E2=>?_;simp;obtain ⟨e',rfl⟩:=Int.eq_ofNat_of_zero_le e0;have:=h (e'+1) G2 (by omega) (by omega) (L2'.mono (by omega)) ((J7 hp).trans (E1.trans E2));rw [show (1:Int)+(e':Int)=((e'+1:Nat):Int) by omega];exact this
def pD (p:Int×Int):PyData:=.tuple [.int p.1,.int p.2]
def qeB (G:Gp) (p:Int×Int):Dp G (pT p) (pD p):=.tup (.cons (.int _) (.cons (.int _) .nil))
def qac (G:Gp):∀ ps:List (Int×Int),Dps G (ps.map pT) (ps.map pD)
 |[]=>.nil
 |p::ps=>.cons (qeB G p) (qac G ps)
def qe6 (p r:Int×Int):jv (pD p) (pD r)=some (decide (p=r)):=by
 obtain ⟨a,b⟩:=p;obtain ⟨c,d⟩:=r;simp only [pD,jv,QX];by_cases h:a=c<;>by_cases h':b=d<;>simp [h,h']
def pIn (r:Int×Int):∀ ps:List (Int×Int),EZ (pD r) (ps.map pD)=some (decide (r∈ps))
 |[]=>by simp [EZ]
 |p::ps=>by
  simp only [map_cons,EZ,qe6,pIn r ps];by_cases h:p=r
  ·subst h;simp
  ·have h':¬ r=p:=λz=>h z.symm;simp [h,h']
def qbS (p:Int×Int):dpt (pD p)<=40:=by simp [pD,dpt,KO]
def al (cs:List (Int×Int)):List Int:=cs.map (·.2)
end Bk
namespace Pu
open PySem L2 L3
def cif {α:Type} (P:Prop) (a b:α):α:=@ite α P (Classical.propDecidable P) a b
def zd {α:Type} {P:Prop} {a b:α} (h:P):cif P a b=a:=@if_pos P (Classical.propDecidable P) h α a b
def D4 {α:Type} {P:Prop} {a b:α} (h:¬ P):cif P a b=b:=@if_neg P (Classical.propDecidable P) h α a b
structure Tru (b:Bool):Prop where
 h:b=true
mutual
inductive Dq (G:Gp):T->PyData->Prop
 |non:Dq G .non .none
 |bl (b:Bool):Dq G (.bl b) (.bool b)
 |int (i:Int):Dq G (.int i) (.int i)
 |str (x:Str):Dq G (.str x) (.str x)
 |tup {xs:List T} {ds:List PyData}:Dqs G xs ds->Dq G (.tup xs) (.tuple ds)
 |lst {p:Addr} {xs:List T} {ds:List PyData}:G p=some (.lst xs)->Dqs G xs ds->Dq G (.ref p) (.list ds)
inductive Dqs (G:Gp):List T->List PyData->Prop
 |nil:Dqs G [] []
 |cons {x:T} {d:PyData} {xs:List T} {ds:List PyData}:Dq G x d->Dqs G xs ds->Dqs G (x::xs) (d::ds)
end
mutual
def Dq.up {G G':Gp} (e:Ex G G'):∀ {x:T} {d:PyData},Dq G x d->Dq G' x d
 |_,_,.non=>.non
 |_,_,.bl b=>.bl b
 |_,_,.int i=>.int i
 |_,_,.str x=>.str x
 |_,_,.tup h=>.tup (Dqs.up e h)
 |_,_,.lst h1 h2=>.lst (e _ _ h1) (Dqs.up e h2)
def Dqs.up {G G':Gp} (e:Ex G G'):∀ {x:List T} {d:List PyData},Dqs G x d->Dqs G' x d
 |_,_,.nil=>.nil
 |_,_,.cons a b=>.cons (Dq.up e a) (Dqs.up e b)
end
def zY {G:Gp} {p:Addr} {xs:List T} (h:G p=some (.lst xs)):getL G p=some xs:=by unfold getL;rw [h]
mutual
def Dq.dp {G:Gp}:∀ {x:T} {d:PyData},Dq G x d->Dp G x d
 |_,_,.non=>.non
 |_,_,.bl b=>.bl b
 |_,_,.int i=>.int i
 |_,_,.str x=>.str x
 |_,_,.tup h=>.tup (Dqs.dp h)
 |_,_,.lst h1 h2=>.lst (zY h1) (Dqs.dp h2)
def Dqs.dp {G:Gp}:∀ {x:List T} {d:List PyData},Dqs G x d->Dps G x d
 |_,_,.nil=>.nil
 |_,_,.cons a b=>.cons (Dq.dp a) (Dqs.dp b)
end
def Dqs.length {G:Gp}:∀ {xs:List T} {ds:List PyData},Dqs G xs ds->xs.length=ds.length
 |_,_,.nil=>rfl
 |_,_,.cons _ b=>by simp [Dqs.length b]
def Dqs.get {G:Gp}:∀ {xs:List T} {ds:List PyData} {i:Nat} {d:PyData},Dqs G xs ds->ds[i]?=some d->∃ x,xs[i]?=some x/\Dq G x d
 |_,_,_,_,.nil,e=>by simp at e
 |_,_,0,_,.cons r _,e=>by simp at e;subst e;exact ⟨_,rfl,r⟩
 |_,_,i+1,d,.cons _ t,e=>by
  obtain ⟨u,h1,h2⟩:=Dqs.get (i:=i) (d:=d) t (by simpa using e);exact ⟨u,by simpa using h1,h2⟩
def Dqs.append {G:Gp}:∀ {xs:List T} {ds:List PyData} {ys:List T} {es:List PyData},Dqs G xs ds->Dqs G ys es->Dqs G (xs++ys) (ds++es)
 |_,_,_,_,.nil,h=>h
 |_,_,_,_,.cons a b,h=>.cons a (Dqs.append b h)
def Dqs.drop {G:Gp}:∀ {xs:List T} {ds:List PyData} (n:Nat),Dqs G xs ds->Dqs G (xs.drop n) (ds.drop n)
 |_,_,0,h=>h
 |_,_,_+1,.nil=>.nil
 |_,_,n+1,.cons _ b=>Dqs.drop n b
def Dqs.take {G:Gp}:∀ {xs:List T} {ds:List PyData} (n:Nat),Dqs G xs ds->Dqs G (xs.take n) (ds.take n)
 |_,_,0,h=>by simp;exact .nil
 |_,_,_+1,.nil=>.nil
 |_,_,n+1,.cons a b=>.cons a (Dqs.take n b)
def Dqs.ints {G:Gp}:∀ {ns:List Int} {xs:List T},Dqs G xs (ns.map PyData.int)->xs=ns.map T.int
 |[],_,.nil=>rfl
 |n::ns,_,.cons a b=>by cases a;rw [Dqs.ints b];rfl
def Dqs.ofInts {G:Gp}:∀ (ns:List Int),Dqs G (ns.map T.int) (ns.map PyData.int)
 |[]=>.nil
 |n::r=>.cons (.int n) (Dqs.ofInts r)
def rs (D:Addr->Prop) (G:Gp):Gp:=λb=>cif (D b) none (G b)
def qE {D:Addr->Prop} {G:Gp} {b:Addr} {o:O} (h:rs D G b=some o):¬ D b/\G b=some o:=by
 unfold rs cif at h;split at h
 ·cases h
 ·rename_i n;exact ⟨n,h⟩
def jD {D:Addr->Prop} {G:Gp} {b:Addr} (n:¬ D b):rs D G b=G b:=by unfold rs;exact D4 n
def Q5 {D:Addr->Prop} {G:Gp}:Ex (rs D G) G:=λb o h=>(qE h).2
def Q9 {D:Addr->Prop} {G G':Gp} (e:Ex G G'):Ex (rs D G) (rs D G'):=λb o h=>by
 obtain ⟨n,h⟩:=qE h;rw [jD n];exact e _ _ h
def jB {D D':Addr->Prop} {G:Gp} (h:∀ b,D' b->D b):Ex (rs D G) (rs D' G):=λb o e=>by
 obtain ⟨n,e⟩:=qE e;rw [jD λz=>n (h b z)];exact e
def Dom (D:Addr->Prop) (G:Gp):Prop:=∀ b,D b->G b≠none
def Dom.up {D:Addr->Prop} {G G':Gp} (h:Dom D G) (e:Ex G G'):Dom D G':=λb d z=>by
 cases g:G b with
 |none=>exact h b d g
 |some o=>rw [e _ _ g] at z;cases z
def qcs {D:Addr->Prop} {G:Gp} {p:Addr} {o:O} (hd:Dom D G) (hp:G p=none):rs D (gu G p o) p=some o:=by
 rw [jD λz=>hd p z hp,qL]
inductive Sl where
 |un|sh (d:PyData)|ow (ds:List PyData)
abbrev Rho:=List Sl
def Sl.d:Sl->Option PyData
 |.un=>none|.sh d=>some d|.ow ds=>some (.list ds)
def vw (ρ:Rho) (i:Nat):Option PyData:=(ρ[i]?).bind Sl.d
def YY (fv:List Nat) (D:Addr->Prop) (G:Gp) (τ:St3) (ρ:Rho):Prop:=∀ i∈fv,∀ d,vw ρ i=some d->∃ t,τ[i]?=some (some t)/\Dq (rs D G) t d
def YY.up {fv:List Nat} {D:Addr->Prop} {G G':Gp} {τ:St3} {ρ:Rho} (h:YY fv D G τ ρ) (e:Ex G G'):YY fv D G' τ ρ:=λi hi d hd=>
 let ⟨t,a,b⟩:=h i hi d hd;⟨t,a,b.up (Q9 e)⟩
def YY.l {fv gv:List Nat} {D:Addr->Prop} {G:Gp} {τ:St3} {ρ:Rho} (h:YY (fv++gv) D G τ ρ):YY fv D G τ ρ:=λi hi=>h i (by simp [hi])
def YY.r {fv gv:List Nat} {D:Addr->Prop} {G:Gp} {τ:St3} {ρ:Rho} (h:YY (fv++gv) D G τ ρ):YY gv D G τ ρ:=λi hi=>h i (by simp [hi])
def Nw (D:Addr->Prop) (G G':Gp) (x:T) (d:PyData):Prop:=d=.none\/∃ p xs ds,x=.ref p/\d=.list ds/\G p=none/\G' p=some (.lst xs)/\Dqs (rs (λb=>D b\/b=p) G') xs ds
def Nw.back {D:Addr->Prop} {G0 G G':Gp} {x:T} {d:PyData} (h:Nw D G G' x d) (e:Ex G0 G):Nw D G0 G' x d:=by
 rcases h with h|⟨p,xs,ds,a,b,c,r⟩
 ·exact .inl h
 refine .inr ⟨p,xs,ds,a,b,?_,r⟩;cases z:G0 p with
 |none=>rfl
 |some o=>rw [e _ _ z] at c;cases c
structure PuE (t:TE3) where
 f:Rho->Option PyData
 fv:List Nat
 nw:Bool
 ok:∀ {D τ ρ G} {q:Q3} {d},YY fv D G τ ρ->Dom D G->f ρ=some d->(∀ x G',Ex G G'->Dq (rs D G') x d->(nw=true->Nw D G G' x d)->q x G')->t τ G q
structure PuC (t:TT3) where
 f:Rho->Option Bool
 fv:List Nat
 ok:∀ {D τ ρ G} {q:Bool->Gp->Prop} {k},YY fv D G τ ρ->Dom D G->f ρ=some k->(∀ G',Ex G G'->q k G')->t τ G q
structure PuA (t:TA3) where
 f:Rho->Option (List PyData)
 fv:List Nat
 n:Nat
 ln:∀ {ρ d},f ρ=some d->d.length=n
 ok:∀ {D τ ρ G} {q:List T->Gp->Prop} {d},YY fv D G τ ρ->Dom D G->f ρ=some d->(∀ x G',Ex G G'->Dqs (rs D G') x d->q x G')->t τ G q
structure PuO (t:TO3) where
 f:Rho->Option (Option Int)
 fv:List Nat
 ok:∀ {D τ ρ G} {q:Option Int->Gp->Prop} {k},YY fv D G τ ρ->Dom D G->f ρ=some k->(∀ G',Ex G G'->q k G')->t τ G q
structure PuI (t:TI3) where
 f:Rho->Option (List PyData)
 fv:List Nat
 /-- numbers alone -/
 nm:Bool
 ok:∀ {D τ ρ G} {r:List T->(Gp->Prop)->Gp->Prop} {ds},YY fv D G τ ρ->Dom D G->f ρ=some ds ->
  (∀ items stay G',Ex G G'->Dqs (rs D G') items ds->(∀ G'',(nm=true\/Ex (rs D G') G'')->stay G'')->(nm=true->∃ ns:List Int,ds=ns.map PyData.int)->r items stay G')->t τ G r
structure OpD (r:R3) where
 f:PyData->PyData->Option PyData
 nw:Bool
 ok:∀ {D G x y d e v} {q:Q3},Dq (rs D G) x d->Dq (rs D G) y e->Dom D G->f d e=some v->(∀ z G',Ex G G'->Dq (rs D G') z v->(nw=true->Nw D G G' z v)->q z G')->r x y G q
structure FnD (r:List T->Gp->Q3->Prop) where
 f:List PyData->Option PyData
 nw:Bool
 ok:∀ {D G xs ds v} {q:Q3},Dqs (rs D G) xs ds->Dom D G->f ds=some v->(∀ z G',Ex G G'->Dq (rs D G') z v->(nw=true->Nw D G G' z v)->q z G')->r xs G q
def bV (i:Nat):PuE (v3 i):=⟨λρ=>vw ρ i,[i],false,λhv hd hf k=>by
 obtain ⟨t,e,h⟩:=hv i (by simp) _ hf;unfold v3;rw [e];exact k t _ Ex.refl h (λz=>by cases z)⟩
def qJ (i:Int):PuE (c3 (.int i)):=⟨λ_=>some (.int i),[],false,λhv hd hf k=>by cases hf;exact k _ _ Ex.refl (.int i) (λz=>by cases z)⟩
def bBl (i:Bool):PuE (c3 (.bl i)):=⟨λ_=>some (.bool i),[],false,λhv hd hf k=>by cases hf;exact k _ _ Ex.refl (.bl i) (λz=>by cases z)⟩
def JQ (i:Str):PuE (c3 (.str i)):=⟨λ_=>some (.str i),[],false,λhv hd hf k=>by cases hf;exact k _ _ Ex.refl (.str i) (λz=>by cases z)⟩
def qfp:PuE (c3 .non):=⟨λ_=>some .none,[],false,λhv hd hf k=>by cases hf;exact k _ _ Ex.refl .non (λz=>by cases z)⟩
def bO {r:R3} {ta tb:TE3} (R:OpD r) (a:PuE ta) (b:PuE tb):PuE (o3 r ta tb):=
 ⟨λρ=>(a.f ρ).bind λx=>(b.f ρ).bind λy=>R.f x y,a.fv++b.fv,R.nw,λhv hd hf k=>by
  obtain ⟨x,e1,hf⟩:=obb hf;obtain ⟨y,e2,hf⟩:=obb hf;exact a.ok hv.l hd e1 λx' G1 E1 D1 _=>b.ok (hv.r.up E1) (hd.up E1) e2 λy' G2 E2 D2 _=>R.ok (D1.up (Q9 E2)) D2 ((hd.up E1).up E2) hf λz G3 E3 D3 N3=>k z G3 ((E1.trans E2).trans E3) D3 λh=>(N3 h).back (E1.trans E2)⟩
def qR:PuA qp:=⟨λ_=>some [],[],0,(λh=>by cases h;rfl),λhv hd hf k=>by cases hf;exact k _ _ Ex.refl .nil⟩
def qg {ta:TE3} {tr:TA3} (a:PuE ta) (r:PuA tr):PuA (qc ta tr):=
 ⟨λρ=>(a.f ρ).bind λx=>(r.f ρ).bind λxs=>some (x::xs),a.fv++r.fv,r.n+1,(λhf=>by
  obtain ⟨x,e1,hf⟩:=obb hf;obtain ⟨xs,e2,hf⟩:=obb hf;cases hf;simp [r.ln e2]),λhv hd hf k=>by
  obtain ⟨x,e1,hf⟩:=obb hf;obtain ⟨xs,e2,hf⟩:=obb hf;cases hf;exact a.ok hv.l hd e1 λx' G1 E1 D1 _=>r.ok (hv.r.up E1) (hd.up E1) e2 λy' G2 E2 D2=>k _ G2 (E1.trans E2) (.cons (D1.up (Q9 E2)) D2)⟩
def few {n:Nat} (h:Tru (Nat.ble n 1000)):n<=sizeLine:=Nat.le_trans (Nat.le_of_ble_eq_true h.h) (by rw [sizeLine_eq];omega)
def VH {t:TA3} (a:PuA t) (hn:Tru (Nat.ble a.n 1000)):PuE (j0 t):=⟨λρ=>(a.f ρ).map .tuple,a.fv,false,λhv hd hf k=>by
 obtain ⟨xs,e1,rfl⟩:=Option.map_eq_some_iff.mp hf;exact a.ok hv hd e1 λx G1 E1 D1=>⟨by rw [D1.length,a.ln e1];exact few hn,k _ _ E1 (.tup D1) (λz=>by cases z)⟩⟩
def VN {D:Addr->Prop} {G:Gp} {p:Addr} {xs:List T} {ds:List PyData} (hp:G p=none) (h:Dqs (rs D G) xs ds):Nw D G (gu G p (.lst xs)) (.ref p) (.list ds):=
 .inr ⟨p,xs,ds,rfl,rfl,hp,qL,h.up λb o e=>by
  obtain ⟨n,e⟩:=qE e;have:b≠p:=by rintro rfl;rw [hp] at e;cases e
  rw [jD (by rintro (z|z);exact n z;exact this z),j7 this];exact e⟩
def ZI {D:Addr->Prop} {G:Gp} {p:Addr} {xs:List T} {ds:List PyData} (hd:Dom D G) (hp:G p=none) (h:Dqs (rs D G) xs ds):Dq (rs D (gu G p (.lst xs))) (.ref p) (.list ds):=
 .lst (qcs hd hp) (h.up (Q9 (jZ hp)))
def LH {t:TA3} (a:PuA t) (hn:Tru (Nat.ble a.n 1000)):PuE (VF t):=⟨λρ=>(a.f ρ).map .list,a.fv,true,λhv hd hf k=>by
 obtain ⟨xs,e1,rfl⟩:=Option.map_eq_some_iff.mp hf;exact a.ok hv hd e1 λx G1 E1 D1=>⟨by rw [D1.length,a.ln e1];exact few hn,λp hp=>k _ _ (E1.trans (jZ hp)) (ZI (hd.up E1) hp D1) λ_=>(VN hp D1).back E1⟩⟩
def qO {r:List T->Gp->Q3->Prop} {t:TA3} (R:FnD r) (a:PuA t):PuE (cb3 r t):=
 ⟨λρ=>(a.f ρ).bind R.f,a.fv,R.nw,λhv hd hf k=>by
  obtain ⟨x,e1,hf⟩:=obb hf;exact a.ok hv hd e1 λx' G1 E1 D1=>R.ok D1 (hd.up E1) hf λz G3 E3 D3 N3=>k z G3 (E1.trans E3) D3 λh=>(N3 h).back E1⟩
def asB:PyData->Option Bool
 |.bool b=>some b
 |_=>none
def asI:PyData->Option Int
 |.int b=>some b
 |_=>none
def WV {d:PyData} {b:Bool} (h:asB d=some b):d=.bool b:=by cases d<;>simp [asB] at h;subst h;rfl
def M7 {d:PyData} {b:Int} (h:asI d=some b):d=.int b:=by cases d<;>simp [asI] at h;subst h;rfl
def bTb {t:TE3} (a:PuE t):PuC (tb3 t):=⟨λρ=>(a.f ρ).bind asB,a.fv,λhv hd hf k=>by
 obtain ⟨x,e1,hf⟩:=obb hf;have:=WV hf;subst this;exact a.ok hv hd e1 λx' G1 E1 D1 _=>by cases D1;exact k G1 E1⟩
def bOr {t u:TT3} (a:PuC t) (b:PuC u):PuC (or3 t u):=⟨λρ=>(a.f ρ).bind λk=>if k then some true else b.f ρ,a.fv++b.fv,λhv hd hf k=>by
 obtain ⟨x,e1,hf⟩:=obb hf;refine a.ok hv.l hd e1 λG1 E1=>?_;cases x with
 |false=>exact b.ok (hv.r.up E1) (hd.up E1) hf λG2 E2=>k G2 (E1.trans E2)
 |true=>cases hf;exact k G1 E1⟩
def CJ {t:TT3} (a:PuC t):PuC (EI t):=⟨λρ=>(a.f ρ).map (! ·),a.fv,λhv hd hf k=>by
 obtain ⟨x,e1,hf⟩:=Option.map_eq_some_iff.mp hf;subst hf;exact a.ok hv hd e1 λG1 E1=>k G1 E1⟩
def bTt:PuC tt3:=⟨λ_=>some true,[],λhv hd hf k=>by cases hf;exact k _ Ex.refl⟩
def j5 {ta tb:TE3} (a:PuE ta) (b:PuE tb):PuE (jc ta tb):=⟨λρ=>((a.f ρ).bind asB).bind λk=>if k then b.f ρ else some (.bool false),a.fv++b.fv,false,λhv hd hf k=>by
 obtain ⟨x,e1,hf⟩:=obb hf;obtain ⟨y,e1,e2⟩:=obb e1;have:=WV e2;subst this;refine a.ok hv.l hd e1 λx' G1 E1 D1 _=>?_;cases D1;cases x with
 |true=>exact b.ok (hv.r.up E1) (hd.up E1) hf λz G2 E2 D2 _=>k z G2 (E1.trans E2) D2 (λz=>by cases z)
 |false=>cases hf;exact k _ G1 E1 (.bl false) (λz=>by cases z)⟩
def qeY {ta tb:TE3} (a:PuE ta) (b:PuE tb):PuE (qcX ta tb):=⟨λρ=>((a.f ρ).bind asB).bind λk=>if k then some (.bool true) else b.f ρ,a.fv++b.fv,false,λhv hd hf k=>by
 obtain ⟨x,e1,hf⟩:=obb hf;obtain ⟨y,e1,e2⟩:=obb e1;have:=WV e2;subst this;refine a.ok hv.l hd e1 λx' G1 E1 D1 _=>?_;cases D1;cases x with
 |false=>exact b.ok (hv.r.up E1) (hd.up E1) hf λz G2 E2 D2 _=>k z G2 (E1.trans E2) D2 (λz=>by cases z)
 |true=>cases hf;exact k _ G1 E1 (.bl true) (λz=>by cases z)⟩
def qbr {ta:TE3} (a:PuE ta):PuE (L0 ta):=⟨λρ=>((a.f ρ).bind asB).map λk=>.bool (!k),a.fv,false,λhv hd hf k=>by
 obtain ⟨x,e1,hf⟩:=Option.map_eq_some_iff.mp hf;obtain ⟨y,e1,e2⟩:=obb e1;have:=WV e2;subst this;subst hf;refine a.ok hv hd e1 λx' G1 E1 D1 _=>?_;cases D1;exact k _ G1 E1 (.bl _) (λz=>by cases z)⟩
def qeV {ta:TE3} (a:PuE ta):PuE (u3 qbe ta):=⟨λρ=>((a.f ρ).bind asI).map λi=>.int (-i),a.fv,false,λhv hd hf k=>by
 obtain ⟨x,e1,hf⟩:=Option.map_eq_some_iff.mp hf;obtain ⟨y,e1,e2⟩:=obb e1;have:=M7 e2;subst this;subst hf;refine a.ok hv hd e1 λx' G1 E1 D1 _=>?_;cases D1;exact k _ G1 E1 (.int _) (λz=>by cases z)⟩
def tyD:PyData->Option String
 |.none=>some "NoneType" |.bool _=>some "bool" |.int _=>some "int" |.str _=>some "str" |.tuple _=>some "tuple" |.list _=>some "list" |.dict _=>none
def W5 {ta:TE3} (g:String->Bool) (a:PuE ta):PuE (DT g ta):=⟨λρ=>(a.f ρ).bind λd=>(tyD d).map λt=>.bool (g t),a.fv,false,λhv hd hf k=>by
 obtain ⟨x,e1,hf⟩:=obb hf;obtain ⟨y,e2,hf⟩:=Option.map_eq_some_iff.mp hf;subst hf;refine a.ok hv hd e1 λx' G1 E1 D1 _=>?_;have:tyT G1 x'=some y:=by
  cases D1 with
  |lst h _=>have g:=zY (qE h).2;simp [tyT,g];simpa [tyD] using e2
  |_=>simpa [tyT,tyD] using e2
 simp only [this];exact k _ G1 E1 (.bl _) (λz=>by cases z)⟩
def bNp:PuO np3:=⟨λ_=>some none,[],λhv hd hf k=>by cases hf;exact k _ Ex.refl⟩
def bSp {t:TE3} (a:PuE t):PuO (sp3 t):=⟨λρ=>((a.f ρ).bind asI).map some,a.fv,λhv hd hf k=>by
 obtain ⟨x,e1,hf⟩:=Option.map_eq_some_iff.mp hf;obtain ⟨y,e1,e2⟩:=obb e1;have:=M7 e2;subst this;subst hf;refine a.ok hv hd e1 λx' G1 E1 D1 _=>?_;cases D1;exact k G1 E1⟩
def Dqs.cut {G:Gp} {xs:List T} {ds:List PyData} (h:Dqs G xs ds) (lo hi:Option Int):Dqs G (JB xs lo hi) (JB ds lo hi):=by
 unfold JB;rw [h.length];exact (h.drop _).take _
def slD (d:PyData) (lo hi:Option Int):Option PyData:=match d with
 |.tuple xs=>cif (HT.sIx xs.length 0 lo=0/\HT.sIx xs.length xs.length hi=xs.length) none (some (.tuple (JB xs lo hi)))
 |.list xs=>some (.list (JB xs lo hi))
 |_=>none
def bSl {te:TE3} {tl th:TO3} (a:PuE te) (l:PuO tl) (h:PuO th):PuE (LM te tl th):=⟨λρ=>(a.f ρ).bind λd=>(l.f ρ).bind λlo=>(h.f ρ).bind λhi=>slD d lo hi,a.fv++(l.fv++h.fv),false,λhv hd hf k=>by
 obtain ⟨d,e1,hf⟩:=obb hf;obtain ⟨lo,e2,hf⟩:=obb hf;obtain ⟨hi,e3,hf⟩:=obb hf;refine a.ok hv.l hd e1 λx' G1 E1 D1 _=>l.ok (hv.r.l.up E1) (hd.up E1) e2 λG2 E2=>h.ok (hv.r.r.up (E1.trans E2)) (hd.up (E1.trans E2)) e3 λG3 E3=>?_;have E:=(E1.trans E2).trans E3;have D3:=(D1.up (Q9 E2)).up (Q9 E3);unfold slD at hf;cases D3 with
 |tup hs=>
  simp only [cif] at hf;split at hf
  ·cases hf
  ·rename_i n;cases hf;exact ⟨by rw [hs.length];exact n,k _ _ E (.tup (hs.cut _ _)) (λz=>by cases z)⟩
 |lst g hs=>
  simp only at hf;cases hf;simp only [sl3,zY (qE g).2];intro p hp;exact k _ _ (E.trans (jZ hp)) (ZI (hd.up E) hp (hs.cut _ _)) (λz=>by cases z)
 |_=>simp at hf⟩
def ZB:List PyData->Option (List Int)
 |[]=>some []
 |.int i::r=>(ZB r).map (i::·)
 |_=>none
def SQ (ns:List Int):ZB (ns.map PyData.int)=some ns:=by
 induction ns with
 |nil=>rfl
 |cons n r ih=>simp [ZB,ih]
def UH:∀ {xs:List PyData} {ns:List Int},ZB xs=some ns->xs=ns.map PyData.int
 |[],_,h=>by simp [ZB] at h;subst h;rfl
 |.int i::r,ns,h=>by
  simp only [ZB] at h;obtain ⟨ms,e,rfl⟩:=Option.map_eq_some_iff.mp h;rw [UH e];rfl
 |.none::r,ns,h=>by simp [ZB] at h
 |.bool _::r,ns,h=>by simp [ZB] at h
 |.str _::r,ns,h=>by simp [ZB] at h
 |.list _::r,ns,h=>by simp [ZB] at h
 |.tuple _::r,ns,h=>by simp [ZB] at h
 |.dict _::r,ns,h=>by simp [ZB] at h
def opI (g:Int->Int->Int):OpD (iI g):=⟨λd e=>match d,e with|.int i,.int j=>some (.int (g i j))|_,_=>none,false,λ{D G x y d e v q} hx hy hd hf k=>by
 cases hx<;>try (simp at hf;done)
 cases hy<;>try (simp at hf;done)
 cases hf;exact k _ _ Ex.refl (.int _) (λz=>by cases z)⟩
def cI (C:Int->Int->Prop) (g:Int->Int->Int) (d e:PyData):Option PyData:=match d,e with|.int i,.int j=>cif (C i j) (some (.int (g i j))) none|_,_=>none
def opC (C:Int->Int->Prop) (g:Int->Int->Int):OpD (iC C g):=⟨cI C g,false,λ{D G x y d e v q} hx hy hd hf k=>by
 unfold cI at hf;cases hx<;>try (simp at hf;done)
 cases hy<;>try (simp at hf;done)
 simp only [cif] at hf;split at hf
 ·rename_i c;cases hf;exact ⟨c,k _ _ Ex.refl (.int _) (λz=>by cases z)⟩
 ·cases hf⟩
def opB (g:Int->Int->Bool):OpD (iB g):=⟨λd e=>match d,e with|.int i,.int j=>some (.bool (g i j))|_,_=>none,false,λ{D G x y d e v q} hx hy hd hf k=>by
 cases hx<;>try (simp at hf;done)
 cases hy<;>try (simp at hf;done)
 cases hf;exact k _ _ Ex.refl (.bl _) (λz=>by cases z)⟩
def K9:PyData->PyData->Option Bool
 |.none,.none=>some true|.none,.int _=>some false|.int _,.none=>some false|.none,.bool _=>some false|.bool _,.none=>some false|.none,.str _=>some false|.str _,.none=>some false
 |.int i,.int j=>some (decide (i=j))|.bool i,.bool j=>some (decide (i=j))|.str i,.str j=>some (decide (i=j))
 |.int _,.str _=>some false|.str _,.int _=>some false|.bool _,.str _=>some false|.str _,.bool _=>some false
 |_,_=>none
def TC {G:Gp} {x y:T} {d e:PyData} (hx:Dq G x d) (hy:Dq G y e):UP x y=K9 d e:=by
 cases hx<;>cases hy<;>rfl
def eqD (neg:Bool) (d e:PyData):Option PyData:=match K9 d e with
 |some k=>some (.bool (if neg then !k else k))
 |none=>cif (dpt d<=40/\dpt d≠0) ((jv d e).map λb=>.bool (if neg then !b else b)) none
def ZJ (neg:Bool):OpD (jk neg):=⟨eqD neg,false,λ{D G x y d e v q} hx hy hd hf k=>by
 unfold jk;rw [TC hx hy];unfold eqD at hf;cases h:K9 d e with
 |some b=>rw [h] at hf;cases hf;exact k _ _ Ex.refl (.bl _) (λz=>by cases z)
 |none=>
  rw [h] at hf;simp only [cif] at hf ⊢;split at hf
  ·rename_i c;obtain ⟨b,e1,rfl⟩:=Option.map_eq_some_iff.mp hf;exact ⟨d,e,b,(hx.up Q5).dp,(hy.up Q5).dp,e1,c.1,c.2,k _ _ Ex.refl (.bl _) (λz=>by cases z)⟩
  ·cases hf⟩
def ixD (d e:PyData):Option PyData:=match d,e with
 |.tuple xs,.int i=>atI xs i
 |.list xs,.int i=>atI xs i
 |_,_=>none
def Dqs.atI {G:Gp} {xs:List T} {ds:List PyData} {i:Int} {d:PyData} (h:Dqs G xs ds) (e:L2.atI ds i=some d):∃ x,L2.atI xs i=some x/\Dq G x d:=by
 unfold L2.atI at e ⊢;rw [h.length];obtain ⟨j,e1,e2⟩:=obb e;obtain ⟨x,hx,r⟩:=h.get e2;exact ⟨x,by rw [e1];exact hx,r⟩
def jm:OpD ix3:=⟨ixD,false,λ{D G x y d e v q} hx hy hd hf k=>by
 unfold ixD at hf;cases hx with
 |tup hs=>
  cases hy<;>try (simp at hf;done)
  obtain ⟨x,e1,r⟩:=hs.atI hf;simp only [ix3,e1];exact k _ _ Ex.refl r (λz=>by cases z)
 |lst g hs=>
  cases hy<;>try (simp at hf;done)
  obtain ⟨x,e1,r⟩:=hs.atI hf;simp only [ix3,zY (qE g).2,e1];exact k _ _ Ex.refl r (λz=>by cases z)
 |_=>simp at hf⟩
def qce (d e:PyData):Option PyData:=match d,e with
 |.list xs,.list ys=>cif (xs.length+ys.length<=sizeLine) (some (.list (xs++ys))) none
 |_,_=>none
def SY:OpD j3:=⟨qce,true,λ{D G x y d e v q} hx hy hd hf k=>by
 unfold qce at hf;cases hx with
 |lst g hs=>
  cases hy<;>try (simp at hf;done)
  rename_i g2 hs2;simp only [cif] at hf;split at hf
  ·rename_i c;cases hf;simp only [j3,(qE g).2,(qE g2).2];exact ⟨by rw [hs.length,hs2.length];exact c,λp hp=>k _ _ (jZ hp) (ZI hd hp (hs.append hs2)) λ_=>VN hp (hs.append hs2)⟩
  ·cases hf
 |_=>simp at hf⟩
def qdC (neg:Bool) (d e:PyData):Option PyData:=match e with
 |.tuple ys=>cif (∀ y∈ys,dpt y<=40) ((EZ d ys).map λb=>.bool (if neg then !b else b)) none
 |.list ys=>cif (∀ y∈ys,dpt y<=40) ((EZ d ys).map λb=>.bool (if neg then !b else b)) none
 |_=>none
def qaQ (neg:Bool):OpD (qc9 neg):=⟨qdC neg,false,λ{D G x y d e v q} hx hy hd hf k=>by
 unfold qdC at hf;cases hy with
 |tup hs=>
  simp only [cif] at hf;split at hf
  ·rename_i c;obtain ⟨b,e1,rfl⟩:=Option.map_eq_some_iff.mp hf;exact ⟨_,d,_,b,rfl,(hx.up Q5).dp,(hs.up Q5).dp,e1,c,k _ _ Ex.refl (.bl _) (λz=>by cases z)⟩
  ·cases hf
 |lst g hs=>
  simp only [cif] at hf;split at hf
  ·rename_i c;obtain ⟨b,e1,rfl⟩:=Option.map_eq_some_iff.mp hf;exact ⟨_,d,_,b,zY (qE g).2,(hx.up Q5).dp,(hs.up Q5).dp,e1,c,k _ _ Ex.refl (.bl _) (λz=>by cases z)⟩
  ·cases hf
 |_=>simp at hf⟩
def qev:List PyData->Option PyData
 |[.tuple xs]=>some (.int xs.length)
 |[.list xs]=>some (.int xs.length)
 |_=>none
def X9:FnD YT:=⟨qev,false,λ{D G xs ds v q} hx hd hf k=>by
 unfold qev at hf;split at hf
 ·cases hx with
  |cons a b=>cases b;cases a;rename_i hs;cases hf;simp only [YT];rw [hs.length];exact k _ _ Ex.refl (.int _) (λz=>by cases z)
 ·cases hx with
  |cons a b=>cases b;cases a;rename_i g hs;cases hf;simp only [YT,zY (qE g).2];rw [hs.length];exact k _ _ Ex.refl (.int _) (λz=>by cases z)
 ·cases hf⟩
def qeR:List PyData->Option PyData
 |[.tuple xs]=>some (.list xs)
 |[.list xs]=>some (.list xs)
 |_=>none
def qeP:FnD D0:=⟨qeR,true,λ{D G xs ds v q} hx hd hf k=>by
 unfold qeR at hf;split at hf
 ·cases hx with
  |cons a b=>cases b;cases a;rename_i hs;cases hf;exact λp hp=>k _ _ (jZ hp) (ZI hd hp hs) λ_=>VN hp hs
 ·cases hx with
  |cons a b=>cases b;cases a;rename_i g hs;cases hf;simp only [D0,zY (qE g).2];exact λp hp=>k _ _ (jZ hp) (ZI hd hp hs) λ_=>VN hp hs
 ·cases hf⟩
def CB:List PyData->Option (List Bool)
 |[]=>some []
 |.bool i::r=>(CB r).map (i::·)
 |_=>none
def KQ (ns:List Bool):CB (ns.map PyData.bool)=some ns:=by
 induction ns with
 |nil=>rfl
 |cons n r ih=>simp [CB,ih]
def R8 {G:Gp}:∀ {xs:List T} {ds:List PyData} {ns:List Bool},Dqs G xs ds->CB ds=some ns->qbC xs=some (ns.all id)/\qgx xs=some (ns.any id)
 |_,_,_,.nil,h=>by simp [CB] at h;subst h;exact ⟨rfl,rfl⟩
 |_,.bool i::r,ns,.cons a b,h=>by
  simp only [CB] at h;obtain ⟨ms,e,rfl⟩:=Option.map_eq_some_iff.mp h;obtain ⟨h1,h2⟩:=R8 b e;cases a;simp [qbC,qgx,h1,h2]
 |_,.int _::r,ns,_,h=>by simp [CB] at h
 |_,.none::r,ns,_,h=>by simp [CB] at h
 |_,.str _::r,ns,_,h=>by simp [CB] at h
 |_,.list _::r,ns,_,h=>by simp [CB] at h
 |_,.tuple _::r,ns,_,h=>by simp [CB] at h
 |_,.dict _::r,ns,_,h=>by simp [CB] at h
def qbJ:List PyData->Option PyData
 |[.list xs]=>(CB xs).map λns=>.bool (ns.all id)
 |_=>none
def qc2:FnD qa0:=⟨qbJ,false,λ{D G xs ds v q} hx hd hf k=>by
 unfold qbJ at hf;split at hf
 ·obtain ⟨ns,e,rfl⟩:=Option.map_eq_some_iff.mp hf;cases hx with
  |cons a b=>cases b;cases a;rename_i g hs;simp only [qa0,zY (qE g).2,(R8 hs e).1];exact k _ _ Ex.refl (.bl _) (λz=>by cases z)
 ·cases hf⟩
def mn:List Int->Int
 |[]=>0|[a]=>a|a::b::r=>min a (mn (b::r))
def qcA:∀ {ns:List Int} {m:Int},m∈ns->mn ns<=m
 |[a],m,h=>by simp at h;subst h;exact Int.le_refl _
 |a::b::r,m,h=>by
  unfold mn;rcases mem_cons.mp h with rfl|h
  ·omega
  ·have:=qcA h;omega
def NS:∀ {ns:List Int},ns≠[]->mn ns∈ns
 |[a],_=>by simp [mn]
 |a::b::r,_=>by
  unfold mn;have:=NS (ns:=b::r) (by simp);rcases Int.le_total a (mn (b::r)) with h|h
  ·rw [Int.min_eq_left h];simp
  ·rw [Int.min_eq_right h];exact List.mem_cons_of_mem _ this
def PSp (F:List PyData->Option PyData) (fr:Bool):Sp3:=λts G q=>∃ (D:Addr->Prop) (ds:List PyData) (d:PyData),Dqs (rs D G) ts ds/\Dom D G/\F ds=some d/\∀ x G',Ex G G'->Dq (rs D G') x d->(fr=true->Nw D G G' x d)->q x G'
def jp (F:List PyData->Option PyData) (fr:Bool):FnD (PSp F fr):=⟨F,fr,λ{D G xs ds v q} hx hd hf k=>⟨D,ds,v,hx,hd,hf,k⟩⟩
def SB:PyData->Option (List PyData)
 |.tuple xs=>some xs
 |.list xs=>some xs
 |_=>none
def qbA {t:TE3} (a:PuE t):PuI (U4 t):=⟨λρ=>(a.f ρ).bind SB,a.fv,false,λ{D τ ρ G r ds} hv hd hf k=>by
 obtain ⟨d,e1,hf⟩:=obb hf;refine a.ok hv hd e1 λx G1 E1 D1 _=>?_;unfold SB at hf;cases D1 with
 |tup hs=>cases hf;exact k _ _ _ E1 hs (λ_ _=>trivial) (λz=>by cases z)
 |lst g hs=>
  cases hf;simp only [zY (qE g).2];refine k _ _ _ E1 hs (λG2 h=>?_) (λz=>by cases z);rcases h with h|h
  ·cases h
  ·exact zY (h _ _ g)
 |_=>simp at hf⟩
def T5 (lo:Int) (n:Nat):List Int:=(List.range n).map λ(i:Nat)=>lo+(i:Int)
def NE (lo:Int) (n:Nat):XZ lo n=(T5 lo n).map T.int:=by simp [XZ,T5,map_map,Function.comp_def]
def qdq:List PyData->Option (List PyData)
 |[.int j]=>cif (-(2 ^ 62)<=j/\j<2 ^ 62) (some ((T5 0 j.toNat).map PyData.int)) none
 |[.int i,.int j]=>cif (-(2 ^ 62)<=i/\i<2 ^ 62/\-(2 ^ 62)<=j/\j<2 ^ 62) (some ((T5 i (j-i).toNat).map PyData.int)) none
 |_=>none
def qgH {t:TA3} (a:PuA t):PuI (VC t):=⟨λρ=>(a.f ρ).bind qdq,a.fv,true,λ{D τ ρ G r ds} hv hd hf k=>by
 obtain ⟨d,e1,hf⟩:=obb hf;refine a.ok hv hd e1 λx G1 E1 D1=>?_;unfold qdq at hf;split at hf
 ·unfold cif at hf;split at hf
  ·rename_i c;cases hf;cases D1 with
   |cons a b=>cases b;cases a;simp only;rw [NE];exact ⟨c,k _ _ _ E1 (Dqs.ofInts _) (λ_ _=>trivial) λ_=>⟨_,rfl⟩⟩
  ·cases hf
 ·unfold cif at hf;split at hf
  ·rename_i c;cases hf;cases D1 with
   |cons a b=>cases b with
    |cons b c'=>cases c';cases a;cases b;simp only;rw [NE];exact ⟨c,k _ _ _ E1 (Dqs.ofInts _) (λ_ _=>trivial) λ_=>⟨_,rfl⟩⟩
  ·cases hf
 ·cases hf⟩
def qe9 (us vs:List PyData):List PyData:=(us.zip vs).map λp=>.tuple [p.1,p.2]
def Dqs.zip {G:Gp}:∀ {xs:List T} {ds:List PyData} {ys:List T} {es:List PyData},Dqs G xs ds->Dqs G ys es->Dqs G (qfW xs ys) (qe9 ds es)
 |_,_,_,_,.nil,_=>by simp [qfW,qe9];exact .nil
 |_,_,_,_,.cons _ _,.nil=>by simp [qfW,qe9];exact .nil
 |_,_,_,_,.cons a b,.cons c d=>.cons (.tup (.cons a (.cons c .nil))) (Dqs.zip b d)
def LZ {G:Gp} {x:T} {d:PyData} {ds:List PyData} (h:Dq G x d) (e:SB d=some ds):∃ us,Z0 G x=some us/\Dqs G us ds:=by
 unfold SB at e;cases h with
 |tup hs=>cases e;exact ⟨_,rfl,hs⟩
 |lst g hs=>cases e;exact ⟨_,zY g,hs⟩
 |_=>simp at e
def MN {G G':Gp} {x:T} {us:List T} (e:Ex G G') (h:Z0 G x=some us):Z0 G' x=some us:=by
 cases x with
 |tup xs=>exact h
 |ref p=>exact e.getL h
 |_=>cases h
def enD (k:Nat):List PyData->List PyData
 |[]=>[]
 |x::r=>.tuple [.int (k:Int),x]::enD (k+1) r
def Dqs.enum {G:Gp}:∀ {xs:List T} {ds:List PyData} (k:Nat),Dqs G xs ds->Dqs G (jd k xs) (enD k ds)
 |_,_,_,.nil=>.nil
 |_,_,k,.cons a b=>.cons (.tup (.cons (.int _) (.cons a .nil))) (Dqs.enum (k+1) b)
def qbx {t:TA3} (a:PuA t):PuI (WN t):=⟨λρ=>(a.f ρ).bind λds=>match ds with|[d]=>(SB d).map λus=>enD 0 us|_=>none,a.fv,false,λ{D τ ρ G r ds} hv hd hf k=>by
 obtain ⟨d,e1,hf⟩:=obb hf;refine a.ok hv hd e1 λx G1 E1 D1=>?_;split at hf
 ·obtain ⟨us,e2,rfl⟩:=Option.map_eq_some_iff.mp hf;cases D1 with
  |cons a b=>
   cases b;obtain ⟨us',h1,h2⟩:=LZ a e2;simp only [MN Q5 h1];refine k _ _ _ E1 (h2.enum 0) (λG2 h=>?_) (λz=>by cases z);rcases h with h|h
   ·cases h
   ·exact MN h h1
 ·cases hf⟩
inductive Bd (H:Gp):List (Nat×T)->List (Nat×PyData)->Prop
 |nil:Bd H [] []
 |cons {i:Nat} {x:T} {d:PyData} {ts:List (Nat×T)} {bs:List (Nat×PyData)}:Dq H x d->Bd H ts bs->Bd H ((i,x)::ts) ((i,d)::bs)
def Bd.append {H:Gp}:∀ {ts:List (Nat×T)} {bs:List (Nat×PyData)} {us:List (Nat×T)} {cs:List (Nat×PyData)},Bd H ts bs->Bd H us cs->Bd H (ts++us) (bs++cs)
 |_,_,_,_,.nil,h=>h
 |_,_,_,_,.cons a b,h=>.cons a (Bd.append b h)
def Bd.up {H H':Gp} (e:Ex H H'):∀ {ts:List (Nat×T)} {bs:List (Nat×PyData)},Bd H ts bs->Bd H' ts bs
 |_,_,.nil=>.nil
 |_,_,.cons a b=>.cons (a.up e) (Bd.up e b)
def sets:St3->List (Nat×T)->St3
 |τ,[]=>τ
 |τ,p::r=>sets (τ.set p.1 (some p.2)) r
def ZY:Rho->List (Nat×PyData)->Rho
 |ρ,[]=>ρ
 |ρ,p::r=>ZY (ρ.set p.1 (.sh p.2)) r
def D8:∀ (τ:St3) (a b:List (Nat×T)),sets τ (a++b)=sets (sets τ a) b
 |τ,[],b=>rfl
 |τ,p::a,b=>by simp only [cons_append,sets];exact D8 _ a b
structure PuG (g:TG3) where
 f:PyData->Option (List (Nat×PyData))
 tg:List Nat
 at':∀ {d bs},f d=some bs->∀ p∈bs,p.1∈tg
 ok:∀ {H x d bs},Dq H x d->f d=some bs->∃ ts,Bd H ts bs/\∀ τ G (q:St3->Gp->Prop),q (sets τ ts) G->g x τ G q
structure PuGs (g:EW) where
 f:List PyData->Option (List (Nat×PyData))
 tg:List Nat
 at':∀ {d bs},f d=some bs->∀ p∈bs,p.1∈tg
 ok:∀ {H x d bs},Dqs H x d->f d=some bs->∃ ts,Bd H ts bs/\∀ τ G (q:St3->Gp->Prop),q (sets τ ts) G->g x τ G q
def gN (i:Nat):PuG (gn3 i):=⟨λd=>some [(i,d)],[i],λh p hp=>by cases h;simp at hp;subst hp;simp,λhx h=>by cases h;exact ⟨_,.cons hx .nil,λτ G q hq=>hq⟩⟩
def qeX:PuGs K7:=⟨λds=>match ds with|[]=>some []|_=>none,[],(λh p hp=>by split at h;cases h;cases hp;cases h),λhx h=>by
 split at h
 ·cases h;cases hx;exact ⟨[],.nil,λτ G q hq=>hq⟩
 ·cases h⟩
def TW {t:TG3} {u:EW} (a:PuG t) (b:PuGs u):PuGs (UY t u):=⟨λds=>match ds with|d::r=>(a.f d).bind λx=>(b.f r).map λy=>x++y|[]=>none,a.tg++b.tg,(λh p hp=>by
 split at h
 ·obtain ⟨x,e1,h⟩:=obb h;obtain ⟨y,e2,rfl⟩:=Option.map_eq_some_iff.mp h;rcases List.mem_append.mp hp with z|z
  ·exact List.mem_append.mpr (.inl (a.at' e1 p z))
  ·exact List.mem_append.mpr (.inr (b.at' e2 p z))
 ·cases h),λhx h=>by
 split at h
 ·obtain ⟨x,e1,h⟩:=obb h;obtain ⟨y,e2,rfl⟩:=Option.map_eq_some_iff.mp h;cases hx with
  |cons hx hr=>
   obtain ⟨ts,b1,k1⟩:=a.ok hx e1;obtain ⟨us,b2,k2⟩:=b.ok hr e2;refine ⟨ts++us,b1.append b2,λτ G q hq=>k1 τ G _ (k2 _ G q ?_)⟩;rw [← D8];exact hq
 ·cases h⟩
def qeM {u:EW} (n:Nat) (b:PuGs u):PuG (LA n u):=⟨λd=>match d with|.tuple ds=>if ds.length=n then b.f ds else none|_=>none,b.tg,(λh p hp=>by
 split at h
 ·split at h
  ·exact b.at' h p hp
  ·cases h
 ·cases h),λhx h=>by
 split at h
 ·split at h
  ·rename_i c;cases hx with
   |tup hs=>
    obtain ⟨ts,b1,k1⟩:=b.ok hs h;exact ⟨ts,b1,λτ G q hq=>⟨by rw [hs.length];exact c,k1 τ G q hq⟩⟩
  ·cases h
 ·cases h⟩
structure VA (D:Addr->Prop) (G:Gp) (τ:St3) (ρ:Rho):Prop where
 len:ρ.length=τ.length
 vw:∀ i d,vw ρ i=some d->∃ t,τ[i]?=some (some t)/\Dq (rs D G) t d
def VA.view {D:Addr->Prop} {G:Gp} {τ:St3} {ρ:Rho} (h:VA D G τ ρ) (fv:List Nat):YY fv D G τ ρ:=λi _ d e=>h.vw i d e
def VA.upx {D:Addr->Prop} {G G':Gp} {τ:St3} {ρ:Rho} (h:VA D G τ ρ) (e:Ex (rs D G) (rs D G')):VA D G' τ ρ:=⟨h.len,λi d hd=>let ⟨t,a,b⟩:=h.vw i d hd;⟨t,a,b.up e⟩⟩
def VA.up {D:Addr->Prop} {G G':Gp} {τ:St3} {ρ:Rho} (h:VA D G τ ρ) (e:Ex G G'):VA D G' τ ρ:=h.upx (Q9 e)
def N0 {ρ:Rho} {i j:Nat} {s:Sl}:vw (ρ.set i s) j=if i=j then (if i<ρ.length then s.d else none) else vw ρ j:=by
 unfold vw;rw [getElem?_set];split
 ·subst j;split
  ·rfl
  ·rfl
 ·rfl
def VA.set {D:Addr->Prop} {G:Gp} {τ:St3} {ρ:Rho} (h:VA D G τ ρ) {i:Nat} {x:T} {d:PyData} (hx:Dq (rs D G) x d):VA D G (τ.set i (some x)) (ρ.set i (.sh d)):=by
 refine ⟨by simp [h.len],λj e he=>?_⟩;rw [N0] at he;split at he
 ·subst j;split at he
  ·rename_i l;cases he;refine ⟨x,?_,hx⟩;rw [getElem?_set,if_pos rfl,if_pos (by rw [← h.len];exact l)]
  ·cases he
 ·rename_i n;obtain ⟨t,a,b⟩:=h.vw j e he;exact ⟨t,by rw [getElem?_set,if_neg n];exact a,b⟩
def VA.sets {D:Addr->Prop} {G:Gp}:∀ {ts:List (Nat×T)} {bs:List (Nat×PyData)} {τ:St3} {ρ:Rho},VA D G τ ρ->Bd (rs D G) ts bs->VA D G (Pu.sets τ ts) (ZY ρ bs)
 |_,_,_,_,h,.nil=>h
 |_,_,_,_,h,.cons a b=>by unfold Pu.sets ZY;exact VA.sets (h.set a) b
def VA.keep {D:Addr->Prop} {G:Gp} {ρ:Rho}:∀ {ts:List (Nat×T)} {τ:St3},VA D G τ ρ->(∀ p∈ts,Pu.vw ρ p.1=none)->VA D G (Pu.sets τ ts) ρ
 |[],_,h,_=>h
 |p::r,τ,h,hn=>VA.keep (ts:=r) ⟨by rw [List.length_set];exact h.len,λj d hd=>by
   have:p.1≠j:=by rintro rfl;rw [hn p (by simp)] at hd;cases hd
   obtain ⟨t,a,b⟩:=h.vw j d hd;exact ⟨t,by rw [getElem?_set,if_neg this];exact a,b⟩⟩ λq hq=>hn q (by simp [hq])
def EK (m:List (Option Nat)) (ρ:Rho):Rho:=m.map λo=>match o with|some j=>(match vw ρ j with|some d=>.sh d|none=>.un)|none=>.un
def VA.cap {m:List (Option Nat)} {D:Addr->Prop} {G:Gp} {τ:St3} {ρ:Rho} (h:YY (m.filterMap id) D G τ ρ):VA D G (L3.cap m τ) (EK m ρ):=by
 refine ⟨by simp [EK,L3.cap],λi d hd=>?_⟩;unfold Pu.vw EK at hd;rw [getElem?_map] at hd;cases e:m[i]? with
 |none=>rw [e] at hd;cases hd
 |some o=>
  rw [e] at hd;cases o with
  |none=>cases hd
  |some j=>
   simp only [Option.map_some,Option.bind_some] at hd;cases e2:Pu.vw ρ j with
   |none=>rw [e2] at hd;cases hd
   |some d'=>
    rw [e2] at hd;have hd':d'=d:=by simpa [Sl.d] using hd
    subst hd';obtain ⟨t,a,b⟩:=h j (List.mem_filterMap.mpr ⟨some j,mem_of_getElem? e,rfl⟩) d' e2;refine ⟨t,?_,b⟩;unfold L3.cap;rw [getElem?_map,e];simp [a]
def SV {m:List (Option Nat)} {ρ:Rho} {i:Nat} (h:m[i]?=some none):vw (EK m ρ) i=none:=by
 unfold vw EK;rw [getElem?_map,h];rfl
def lcP (h:PyData->Option (Option PyData)):List PyData->Option (List PyData)
 |[]=>some []
 |d::r=>(h d).bind λo=>(lcP h r).bind λys=>some (match o with|some y=>y::ys|none=>ys)
def lcH (gf:PyData->Option (List (Nat×PyData))) (cf:Rho->Option Bool) (ef:Rho->Option PyData) (ρ:Rho) (d:PyData):Option (Option PyData):=
 (gf d).bind λbs=>(cf (ZY ρ bs)).bind λk=>if k then (ef (ZY ρ bs)).map some else some none
def qa9 {h:PyData->Option (Option PyData)} {α:Type} {g:α->PyData} {k:α->PyData} {xs:List α} (hh:∀ a∈xs,h (g a)=some (some (k a))):lcP h (xs.map g)=some (xs.map k):=by
 induction xs with
 |nil=>rfl
 |cons a r ih=>simp only [map_cons,lcP,hh a (by simp),Option.bind_some,ih λb hb=>hh b (by simp [hb])]
def qat {H:Gp}:∀ {ts:List (Nat×T)} {bs:List (Nat×PyData)},Bd H ts bs->∀ p∈ts,∃ q∈bs,q.1=p.1
 |_,_,.nil,p,hp=>by cases hp
 |_,_,.cons a b,p,hp=>by
  rcases mem_cons.mp hp with rfl|hp
  ·exact ⟨_,List.mem_cons_self,rfl⟩
  ·obtain ⟨q,hq,e⟩:=qat b p hp;exact ⟨q,by simp [hq],e⟩
def qbu {stay:Gp->Prop} {g:TG3} {tif:TT3} {te:TE3} {q:Q3} (pg:PuG g) (pc:PuC tif) (pe:PuE te) {D:Addr->Prop} {ρ0:Rho} {G0:Gp} (hs:∀ G,Ex G0 G->stay G) (hm:∀ i∈pg.tg,vw ρ0 i=none) (fin:List PyData) (hfin:fin.length<=sizeLine)
  (k:∀ G ys,Ex G0 G->Dqs (rs D G) ys fin->∀ p,G p=none->q (.ref p) (gu G p (.lst ys))) :
  ∀ (ds:List PyData) (items ys:List T) (es fs:List PyData) (τ:St3) (G:Gp),Dqs (rs D G0) items ds->VA D G τ ρ0->Ex G0 G->Dom D G->Dqs (rs D G) ys es->lcP (lcH pg.f pc.f pe.f ρ0) ds=some fs->es++fs=fin->qao stay g tif te q items ys τ G
 |_,_,ys,es,fs,τ,G,.nil,va,E,hd,hy,hf,hl=>by
  cases hf;rw [List.append_nil] at hl;subst hl;exact ⟨hs G E,k G ys E hy⟩
 |d::ds,x::items,ys,es,fs,τ,G,.cons hx hr,va,E,hd,hy,hf,hl=>by
  unfold lcP at hf;obtain ⟨o,e1,hf⟩:=obb hf;obtain ⟨je,e2,hf⟩:=obb hf;unfold lcH at e1;obtain ⟨bs,e3,e1⟩:=obb e1;obtain ⟨c,e4,e1⟩:=obb e1;obtain ⟨ts,bd,kg⟩:=pg.ok (hx.up (Q9 E)) e3;refine ⟨hs G E,kg τ G _ ?_⟩;have va1:=va.sets bd;have va2:=va.keep (ts:=ts) λp hp=>by
   obtain ⟨q,hq,e⟩:=qat bd p hp;rw [← e];exact hm _ (pg.at' e3 q hq)
  refine pc.ok (va1.view _) hd e4 λG1 E1=>?_;cases c with
  |true=>
   rw [if_pos rfl];rw [if_pos rfl] at e1;obtain ⟨y,e5,rfl⟩:=Option.map_eq_some_iff.mp e1;simp only [Option.some.injEq] at hf;subst hf;refine pe.ok ((va1.up E1).view _) (hd.up E1) e5 λz G2 E2 D2 _=>⟨?_,?_⟩
   ·rw [hy.length];rw [← hl] at hfin;simp at hfin;omega
   ·refine qbu pg pc pe hs hm fin hfin k ds items (ys++[z]) (es++[y]) je _ G2 hr ((va2.up E1).up E2) (E.trans (E1.trans E2)) ((hd.up E1).up E2) (((hy.up (Q9 E1)).up (Q9 E2)).append (.cons D2 .nil)) e2 ?_;rw [← hl];simp
  |false=>
   rw [if_neg Bool.false_ne_true];simp at e1;subst e1;simp only [Option.some.injEq] at hf;subst hf;exact qbu pg pc pe hs hm fin hfin k ds items ys es je _ G1 hr (va2.up E1) (E.trans E1) (hd.up E1) (hy.up (Q9 E1)) e2 hl
def lcF (pi:Rho->Option (List PyData)) (h:Rho->PyData->Option (Option PyData)) (m:List (Option Nat)) (ρ:Rho):Option PyData:=
 (pi ρ).bind λds=>(lcP (h (EK m ρ)) ds).bind λfs=>cif (fs.length<=sizeLine) (some (.list fs)) none
def bLc {wi:TI3} {g:TG3} {tif:TT3} {te:TE3} (pi:PuI wi) (pg:PuG g) (pc:PuC tif) (pe:PuE te) (m:List (Option Nat)) (hm:Tru (pg.tg.all λi=>m[i]?==some none)):PuE (lc3 wi g tif te m):=
 ⟨lcF pi.f (lcH pg.f pc.f pe.f) m,pi.fv++m.filterMap id,true,λ{D τ ρ G q d} hv hd hf k=>by
  unfold lcF at hf;obtain ⟨ds,e1,hf⟩:=obb hf;obtain ⟨fs,e2,hf⟩:=obb hf;unfold cif at hf;split at hf
  ·rename_i hl;cases hf;refine pi.ok hv.l hd e1 λitems stay G1 E1 D1 hs _=>?_;have va:=(VA.cap (m:=m) hv.r).up E1;refine qbu pg pc pe (D:=D) (ρ0:=EK m ρ) (G0:=G1) (λG2 E2=>hs G2 (.inr (Q5.trans E2))) (λi hi=>SV ?_) fs hl (λG2 ys E2 D2 p hp=>?_) ds items [] [] fs _ G1 D1 va Ex.refl (hd.up E1) .nil e2 (by simp)
   ·have:=List.all_eq_true.mp hm.h i hi;simpa using this
   ·exact k _ _ ((E1.trans E2).trans (jZ hp)) (ZI ((hd.up E1).up E2) hp D2) λ_=>(VN hp D2).back (E1.trans E2)
  ·cases hf⟩
def R5:∀ {bs:List (Nat×PyData)} {ρ:Rho} {i:Nat},(∀ p∈bs,p.1≠i)->vw (ZY ρ bs) i=vw ρ i
 |[],_,_,_=>rfl
 |p::r,ρ,i,h=>by
  unfold ZY;rw [R5 (λq hq=>h q (by simp [hq])),N0,if_neg (h p (by simp))]
def AD (D:Addr->Prop) (A:Nat->Option Addr) (b:Addr):Prop:=D b\/∃ i,A i=some b
structure RS (D:Addr->Prop) (G0:Gp) (A:Nat->Option Addr) (τ:St3) (ρ:Rho) (G:Gp):Prop where
 ex:Ex G0 G
 dm:Dom D G0
 fr:∀ i p,A i=some p->G0 p=none
 da:∀ i p,A i=some p->G p≠none
 inj:∀ i j p,A i=some p->A j=some p->i=j
 len:ρ.length=τ.length
 sh:∀ (i:Nat) (d:PyData),ρ[i]?=some (Sl.sh d)->∃ t,τ[i]?=some (some t)/\Dq (rs (AD D A) G) t d
 ow:∀ (i:Nat) (ds:List PyData),ρ[i]?=some (Sl.ow ds)->∃ p xs,A i=some p/\τ[i]?=some (some (.ref p))/\G p=some (.lst xs)/\Dqs (rs (AD D A) G) xs ds
section
variable {D:Addr->Prop} {G0 G G':Gp} {A A':Nat->Option Addr} {τ:St3} {ρ:Rho}
def RS.nd (h:RS D G0 A τ ρ G) {i:Nat} {p:Addr} (e:A i=some p):¬ D p:=λz=>h.dm p z (h.fr i p e)
def RS.dom (h:RS D G0 A τ ρ G):Dom (AD D A) G:=λb hb=>by
 rcases hb with hb|⟨i,hi⟩
 ·exact (h.dm.up h.ex) b hb
 ·exact h.da i b hi
def RS.domD (h:RS D G0 A τ ρ G):Dom D G:=h.dm.up h.ex
def RS.up (h:RS D G0 A τ ρ G) (e:Ex G G'):RS D G0 A τ ρ G':=
 ⟨h.ex.trans e,h.dm,h.fr,λi p a z=>(h.da i p a) (by
  cases g:G p with
  |none=>rfl
  |some o=>rw [e _ _ g] at z;cases z),h.inj,h.len,λi d a=>let ⟨t,b,c⟩:=h.sh i d a;⟨t,b,c.up (Q9 e)⟩,λi ds a=>let ⟨p,xs,b,c,d,f⟩:=h.ow i ds a;⟨p,xs,b,c,e _ _ d,f.up (Q9 e)⟩⟩
def RS.viewAll (h:RS D G0 A τ ρ G) (fv:List Nat):YY fv D G τ ρ:=λi _ d hd=>by
 unfold vw at hd;obtain ⟨s,e,hd⟩:=obb hd;have less:Ex (rs (AD D A) G) (rs D G):=jB λb z=>.inl z;cases s with
 |un=>cases hd
 |sh d'=>
  cases hd;obtain ⟨t,b,c⟩:=h.sh i _ e;exact ⟨t,b,c.up less⟩
 |ow ds=>
  cases hd;obtain ⟨p,xs,b,c,g,f⟩:=h.ow i _ e;exact ⟨_,c,.lst (by rw [jD (h.nd b)];exact g) (f.up less)⟩
def RS.view (h:RS D G0 A τ ρ G) {fv:List Nat} (hn:∀ i∈fv,A i=none):YY fv (AD D A) G τ ρ:=λi hi d hd=>by
 unfold vw at hd;obtain ⟨s,e,hd⟩:=obb hd;cases s with
 |un=>cases hd
 |sh d'=>
  cases hd;exact h.sh i _ e
 |ow ds=>
  obtain ⟨p,xs,b,_⟩:=h.ow i _ e;rw [hn i hi] at b;cases b
def Sl.dem:Sl->Sl
 |.ow ds=>.sh (.list ds)
 |s=>s
def dm:List Bool->Rho->Rho
 |b::m,s::r=>(match b with|true=>s.dem|false=>s)::dm m r
 |_,r=>r
def mkb (m:List Bool) (i:Nat):Bool:=(m[i]?).getD false
def TM:∀ (m:List Bool) (ρ:Rho) (i:Nat),(dm m ρ)[i]?=(ρ[i]?).map λs=>if mkb m i=true then s.dem else s
 |[],ρ,i=>by simp [dm,mkb]
 |b::m,[],i=>by simp [dm]
 |b::m,s::r,0=>by cases b<;>simp [dm,mkb]
 |b::m,s::r,i+1=>by
  have:=TM m r i;simp only [dm,getElem?_cons_succ,mkb] at this ⊢;exact this
def qfC (s:Sl):s.dem.d=s.d:=by cases s<;>rfl
def qgz (m:List Bool) (ρ:Rho) (i:Nat):vw (dm m ρ) i=vw ρ i:=by
 unfold vw;rw [TM];cases ρ[i]? with
 |none=>rfl
 |some s=>
  simp only [Option.map_some,Option.bind_some];split
  ·exact qfC s
  ·rfl
def MQ:∀ (m:List Bool) (ρ:Rho),(dm m ρ).length=ρ.length
 |[],ρ=>rfl
 |b::m,[]=>rfl
 |b::m,s::r=>by simp [dm,MQ m r]
def Ad (m:List Bool) (A:Nat->Option Addr):Nat->Option Addr:=λi=>if mkb m i=true then none else A i
def YF {m:List Bool} {i:Nat} {p:Addr} (h:Ad m A i=some p):A i=some p/\mkb m i=false:=by
 unfold Ad at h;split at h
 ·cases h
 ·rename_i n;exact ⟨h,by simpa using n⟩
def RS.dem (h:RS D G0 A τ ρ G) (m:List Bool):RS D G0 (Ad m A) τ (Pu.dm m ρ) G:=by
 have less:Ex (rs (AD D A) G) (rs (AD D (Ad m A)) G):=jB λb z=>by
  rcases z with z|⟨i,z⟩
  ·exact .inl z
  ·exact .inr ⟨i,(YF z).1⟩
 refine ⟨h.ex,h.dm,λi p e=>h.fr i p (YF e).1,λi p e=>h.da i p (YF e).1,λi j p a b=>h.inj i j p (YF a).1 (YF b).1,by rw [MQ];exact h.len,λi d e=>?_,λi ds e=>?_⟩
 ·rw [TM] at e;obtain ⟨s,e1,e2⟩:=Option.map_eq_some_iff.mp e;cases s with
  |un=>split at e2<;>cases e2
  |sh d'=>
   have:d'=d:=by split at e2<;>(cases e2;rfl)
   subst this;obtain ⟨t,b,c⟩:=h.sh i _ e1;exact ⟨t,b,c.up less⟩
  |ow ds=>
   split at e2
   ·rename_i hm;cases e2;obtain ⟨p,xs,b,c,g,f⟩:=h.ow i _ e1;refine ⟨_,c,.lst ?_ (f.up less)⟩;rw [jD]
    ·exact g
    ·rintro (z|⟨j,z⟩)
     ·exact h.nd b z
     ·have:=h.inj i j p b (YF z).1;subst this;rw [(YF z).2] at hm;cases hm
   ·cases e2
 ·rw [TM] at e;obtain ⟨s,e1,e2⟩:=Option.map_eq_some_iff.mp e;cases s with
  |un=>split at e2<;>cases e2
  |sh d'=>split at e2<;>cases e2
  |ow ds'=>
   split at e2
   ·cases e2
   ·rename_i hm;cases e2;obtain ⟨p,xs,b,c,g,f⟩:=h.ow i _ e1;exact ⟨p,xs,by unfold Ad;rw [if_neg hm];exact b,c,g,f.up less⟩
def RS.viewD (h:RS D G0 A τ ρ G) {m:List Bool} {fv:List Nat} (hm:Tru (fv.all (mkb m))):YY fv (AD D (Ad m A)) G τ ρ:=by
 have:=(h.dem m).view (fv:=fv) λi hi=>by unfold Ad;rw [if_pos (List.all_eq_true.mp hm.h i hi)]
 intro i hi d hd;exact this i hi d (by rw [qgz];exact hd)
def Er (A:Nat->Option Addr) (i:Nat):Nat->Option Addr:=λj=>if j=i then none else A j
def YL {i j:Nat} {p:Addr} (h:Er A i j=some p):A j=some p/\j≠i:=by
 unfold Er at h;split at h
 ·cases h
 ·rename_i n;exact ⟨h,n⟩
def RS.put (h:RS D G0 A τ ρ G) (i:Nat) {x:T} {d:PyData} (hx:Dq (rs (AD D A) G) x d):RS D G0 (Er A i) (τ.set i (some x)) (ρ.set i (.sh d)) G:=by
 have less:Ex (rs (AD D A) G) (rs (AD D (Er A i)) G):=jB λb z=>by
  rcases z with z|⟨j,z⟩
  ·exact .inl z
  ·exact .inr ⟨j,(YL z).1⟩
 refine ⟨h.ex,h.dm,λj p e=>h.fr j p (YL e).1,λj p e=>h.da j p (YL e).1,λj k p a b=>h.inj j k p (YL a).1 (YL b).1,by simp [h.len],λj e he=>?_,λj ds e=>?_⟩
 ·rw [getElem?_set] at he ⊢;split at he
  ·rename_i hj;rw [if_pos hj];split at he
   ·rename_i hl;cases he;exact ⟨x,by rw [if_pos (by rw [← h.len];exact hl)],hx.up less⟩
   ·cases he
  ·rename_i hj;rw [if_neg hj];obtain ⟨t,b,c⟩:=h.sh j _ he;exact ⟨t,b,c.up less⟩
 ·rw [getElem?_set] at e ⊢;split at e
  ·split at e<;>cases e
  ·rename_i hj;rw [if_neg hj];obtain ⟨p,xs,b,c,g,f⟩:=h.ow j _ e;exact ⟨p,xs,by unfold Er;rw [if_neg (λz=>hj z.symm)];exact b,c,g,f.up less⟩
def RS.puts:∀ {ts:List (Nat×T)} {bs:List (Nat×PyData)} {A:Nat->Option Addr} {τ:St3} {ρ:Rho},RS D G0 A τ ρ G->Bd (rs (AD D A) G) ts bs->∃ A',RS D G0 A' (sets τ ts) (ZY ρ bs) G
 |_,_,A,_,_,h,.nil=>⟨A,h⟩
 |_,_,A,_,_,h,.cons (i:=i) a b=>by
  unfold sets ZY;exact RS.puts (h.put i a) (b.up (jB λb z=>by
   rcases z with z|⟨j,z⟩
   ·exact .inl z
   ·exact .inr ⟨j,(YL z).1⟩))
def RS.putN (h:RS D G0 A τ ρ G) (i:Nat) {x:T} {d:PyData} {ds:List PyData} (hd:d=.list ds) (E:Ex G G') (hx:Nw (AD D A) G G' x d):RS D G0 (λj=>if j=i then (match x with|.ref p=>some p|_=>none) else A j) (τ.set i (some x)) (ρ.set i (.ow ds)) G':=by
 rcases hx with hx|⟨p,xs,ds',rfl,e',gp,gp',hs⟩
 ·rw [hd] at hx;cases hx
 rw [hd] at e';cases e';have np:∀ {j q},A j=some q->q≠p:=λe=>by rintro rfl;exact h.da _ _ e gp
 have X1:Ex (rs (AD D A) G) (rs (AD D (λj=>if j=i then some p else A j)) G'):=λb o e=>by
  obtain ⟨n,e⟩:=qE e;rw [jD]
  ·exact E _ _ e
  ·rintro (z|⟨j,z⟩)
   ·exact n (.inl z)
   ·simp only at z;split at z
    ·cases z;rw [gp] at e;cases e
    ·exact n (.inr ⟨j,z⟩)
 refine ⟨h.ex.trans E,h.dm,λj q e=>?_,λj q e=>?_,λj k q a b=>?_,by simp [h.len],λj e he=>?_,λj es e=>?_⟩
 ·simp only at e;split at e
  ·cases e;cases z:G0 p with
   |none=>rfl
   |some o=>rw [h.ex _ _ z] at gp;cases gp
  ·exact h.fr j q e
 ·simp only at e;split at e
  ·cases e;rw [gp'];simp
  ·exact (h.up E).da j q e
 ·simp only at a b;split at a
  ·cases a;split at b
   ·rename_i h1 h2;rw [h1,h2]
   ·exact absurd rfl (np b)
  ·split at b
   ·cases b;exact absurd rfl (np a)
   ·exact h.inj j k q a b
 ·rw [getElem?_set] at he ⊢;split at he
  ·split at he<;>cases he
  ·rename_i hj;rw [if_neg hj];obtain ⟨t,b,c⟩:=h.sh j _ he;exact ⟨t,b,c.up X1⟩
 ·rw [getElem?_set] at e ⊢;split at e
  ·rename_i hj;subst hj;split at e
   ·rename_i hl;cases e;refine ⟨p,xs,by simp,by rw [if_pos rfl,if_pos (by rw [← h.len];exact hl)],gp',hs.up (jB λb z=>?_)⟩;rcases z with z|⟨j,z⟩
    ·exact .inl (.inl z)
    ·simp only at z;split at z
     ·cases z;exact .inr rfl
     ·exact .inl (.inr ⟨j,z⟩)
   ·cases e
  ·rename_i hj;rw [if_neg hj];obtain ⟨q,ys,b,c,g,f⟩:=h.ow j _ e;exact ⟨q,ys,by rw [if_neg (λz=>hj z.symm)];exact b,c,E _ _ g,f.up X1⟩
def RS.wr (h:RS D G0 A τ ρ G) {i:Nat} {p:Addr} {xs:List T} {ds:List PyData} (hi:A i=some p) (ht:τ[i]?=some (some (.ref p))) (hs:Dqs (rs (AD D A) G) xs ds):RS D G0 A τ (ρ.set i (.ow ds)) (gu G p (.lst xs)):=by
 have X1:Ex (rs (AD D A) G) (rs (AD D A) (gu G p (.lst xs))):=λb o e=>by
  obtain ⟨n,e⟩:=qE e;rw [jD n,j7 (by rintro rfl;exact n (.inr ⟨i,hi⟩))];exact e
 refine ⟨λb o e=>?_,h.dm,h.fr,λj q e=>?_,h.inj,by simp [h.len],λj e he=>?_,λj es e=>?_⟩
 ·rw [j7 (by rintro rfl;rw [h.fr i _ hi] at e;cases e)];exact h.ex _ _ e
 ·by_cases z:q=p
  ·subst z;rw [qL];simp
  ·rw [j7 z];exact h.da j q e
 ·rw [getElem?_set] at he;split at he
  ·split at he<;>cases he
  ·obtain ⟨t,b,c⟩:=h.sh j _ he;exact ⟨t,b,c.up X1⟩
 ·rw [getElem?_set] at e;split at e
  ·rename_i hj;subst hj;split at e
   ·cases e;exact ⟨p,xs,hi,ht,qL,hs.up X1⟩
   ·cases e
  ·rename_i hj;obtain ⟨q,ys,b,c,g,f⟩:=h.ow j _ e;exact ⟨q,ys,b,c,by rw [j7 (by rintro rfl;exact hj (h.inj i j _ hi b))];exact g,f.up X1⟩
def RS.base {Gb:Gp} (h:RS D Gb A τ ρ G) (e:Ex G0 Gb) (hd:Dom D G0):RS D G0 A τ ρ G:=
 ⟨e.trans h.ex,hd,(λi p a=>by
  cases z:G0 p with
  |none=>rfl
  |some o=>have:=h.fr i p a;rw [e _ _ z] at this;cases this),h.da,h.inj,h.len,h.sh,h.ow⟩
end
inductive Ot where
 |nx (ρ:Rho)|bk (ρ:Rho)|ct (ρ:Rho)|rt (d:PyData) (fr:Bool)
def qci (D:Addr->Prop) (G0:Gp) (e:Ends3):Ot->Prop
 |.nx ρ=>∀ A τ G,RS D G0 A τ ρ G->e.nx τ G
 |.bk ρ=>∀ A τ G,RS D G0 A τ ρ G->e.bk τ G
 |.ct ρ=>∀ A τ G,RS D G0 A τ ρ G->e.ct τ G
 |.rt d fr=>∀ x G,Ex G0 G->Dq (rs D G) x d->(fr=true->Nw D G0 G x d)->e.rt x G
def qci.base {D:Addr->Prop} {G0 Gb:Gp} {e:Ends3} {o:Ot} (h:qci D G0 e o) (x:Ex G0 Gb) (hd:Dom D G0):qci D Gb e o:=by
 cases o with
 |nx ρ=>exact λA τ G r=>h A τ G (r.base x hd)
 |bk ρ=>exact λA τ G r=>h A τ G (r.base x hd)
 |ct ρ=>exact λA τ G r=>h A τ G (r.base x hd)
 |rt d fr=>exact λy G a b c=>h y G (x.trans a) b λz=>(c z).back x
structure PuS (t:TS3) where
 f:Nat->Rho->Option Ot
 ok:∀ {D G0 A τ ρ G n o} {e:Ends3},RS D G0 A τ ρ G->f n ρ=some o->qci D G0 e o->t e τ G
def ZT:PuS qV:=⟨λ_ ρ=>some (.nx ρ),λh hf k=>by cases hf;exact k _ _ _ h⟩
def qeT (a b:Nat->Rho->Option Ot) (n:Nat) (ρ:Rho):Option Ot:=(a n ρ).bind λo=>match o with|.nx ρ'=>b n ρ'|o=>some o
def DZ {t u:TS3} (a:PuS t) (b:PuS u):PuS (zi t u):=⟨qeT a.f b.f,λ{D G0 A τ ρ G n o e} h hf k=>by
 unfold qeT at hf;obtain ⟨o1,e1,hf⟩:=obb hf;refine a.ok h e1 ?_;cases o1 with
 |nx ρ'=>exact λA' τ' G' h'=>b.ok h' hf k
 |bk ρ'=>cases hf;exact k
 |ct ρ'=>cases hf;exact k
 |rt d fr=>cases hf;exact k⟩
def sIf {c:TT3} {t u:TS3} (pc:PuC c) (a:PuS t) (b:PuS u):PuS (jI c t u):=⟨λn ρ=>(pc.f ρ).bind λk=>if k then a.f n ρ else b.f n ρ,λh hf k=>by
 obtain ⟨o1,e1,hf⟩:=obb hf;refine pc.ok (h.viewAll _) h.domD e1 λG1 E1=>?_;cases o1 with
 |true=>exact a.ok (h.up E1) hf k
 |false=>exact b.ok (h.up E1) hf k⟩
def J0 {t:TE3} (a:PuE t):PuS (zw t):=⟨λ_ ρ=>(a.f ρ).map λd=>.rt d a.nw,λh hf k=>by
 obtain ⟨d,e1,rfl⟩:=Option.map_eq_some_iff.mp hf;exact a.ok (h.viewAll _) h.domD e1 λx G1 E1 D1 N1=>k x G1 (h.ex.trans E1) D1 λz=>(N1 z).back h.ex⟩
def T2:PyData->Bool
 |.none=>true|.bool _=>true|.int _=>true|.str _=>true|_=>false
def VX {H H':Gp} {x:T} {d:PyData} (h:Dq H x d) (s:T2 d=true):Dq H' x d:=by
 cases h<;>first|(constructor;done)|(simp [T2] at s;done)
def qhE:PyData->Sl
 |.list ds=>.ow ds
 |d=>.sh d
def U1 (m:List Bool) (nw:Bool) (i:Nat) (d:PyData) (ρ:Rho):Rho:=if T2 d then ρ.set i (.sh d) else (dm m ρ).set i (if nw then qhE d else .sh d)
def qgG {t:TE3} (a:PuE t) (i:Nat) (m:List Bool) (hm:Tru (a.fv.all (mkb m))):PuS (jo t (gn3 i)):=⟨λ_ ρ=>(a.f ρ).map λd=>.nx (U1 m a.nw i d ρ),λ{D G0 A τ ρ G n o e} h hf k=>by
 obtain ⟨d,e1,rfl⟩:=Option.map_eq_some_iff.mp hf;refine a.ok (h.viewD hm) (h.dem m).dom e1 λx G1 E1 D1 N1=>?_;unfold U1 at k;show e.nx (τ.set i (some x)) G1;split at k
 ·rename_i hs;exact k _ _ _ ((h.up E1).put i (VX D1 hs))
 ·split at k
  ·rename_i hn;have N:=N1 hn;rcases id N with h2|⟨p,xs,ds,h1,h2,_⟩
   ·subst h2;rename_i hs;exact absurd rfl hs
   subst h2;exact k _ _ _ ((h.dem m).putN i rfl E1 N)
  ·exact k _ _ _ (((h.dem m).up E1).put i D1)⟩
def qeS (i j:Nat) (m:List Bool) (ds:List PyData) (ρ:Rho):Option Ot:=match ds with
 |[d,e]=>if T2 d&&T2 e then some (.nx ((ρ.set i (.sh d)).set j (.sh e))) else some (.nx (((dm m ρ).set i (.sh d)).set j (.sh e)))
 |_=>none
def qdZ {D:Addr->Prop} {A:Nat->Option Addr} {G:Gp} {i:Nat}:Ex (rs (AD D A) G) (rs (AD D (Er A i)) G):=jB λb z=>by
 rcases z with z|⟨j,z⟩
 ·exact .inl z
 ·exact .inr ⟨j,(YL z).1⟩
def slot (ρ:Rho) (i:Nat):Option (List PyData):=match ρ[i]? with|some (.ow ds)=>some ds|_=>none
def dmS (m:List Bool) (d:PyData) (ρ:Rho):Rho:=if T2 d then ρ else dm m ρ
def RS.evalS {D:Addr->Prop} {G0 G:Gp} {A:Nat->Option Addr} {τ:St3} {ρ:Rho} (h:RS D G0 A τ ρ G) {t:TE3} (a:PuE t) (m:List Bool) (hm:Tru (a.fv.all (mkb m))) {d:PyData} (hf:a.f ρ=some d):∃ A1,RS D G0 A1 τ (dmS m d ρ) G/\∀ q:Q3,(∀ x G',Ex G G'->Dq (rs (AD D A1) G') x d->q x G')->t τ G q:=by
 unfold dmS;by_cases hs:T2 d=true
 ·rw [if_pos hs];exact ⟨A,h,λq k=>a.ok (h.viewAll _) h.domD hf λx G1 E1 D1 _=>k x G1 E1 (VX D1 hs)⟩
 ·rw [if_neg hs];exact ⟨Ad m A,h.dem m,λq k=>a.ok (h.viewD hm) (h.dem m).dom hf λx G1 E1 D1 _=>k x G1 E1 D1⟩
def CL (gf:PyData->Option (List (Nat×PyData))) (bf:Rho->Option Ot):List PyData->Rho->Option Ot
 |[],ρ=>some (.nx ρ)
 |d::r,ρ=>(gf d).bind λbs=>(bf (ZY ρ bs)).bind λo=>match o with
  |.nx ρ'=>CL gf bf r ρ'
  |.ct ρ'=>CL gf bf r ρ'
  |.bk ρ'=>some (.nx ρ')
  |.rt d b=>some (.rt d b)
def WO {stay:Gp->Prop} {g:TG3} {tb:TS3} {e:Ends3} (pg:PuG g) (pb:PuS tb) {D:Addr->Prop} {G0:Gp} {n:Nat} {o:Ot} {items0:List T} (hs:∀ A τ ρ G,RS D G0 A τ ρ G->stay G) (k:qci D G0 e o) :
  ∀ (ds:List PyData) (items:List T),(∀ A τ ρ G,RS D G0 A τ ρ G->Dqs (rs (AD D A) G) items ds)->∀ A τ ρ G,RS D G0 A τ ρ G->CL pg.f (pb.f n) ds ρ=some o->V1 stay g tb e items τ G
 |[],items,hi,A,τ,ρ,G,h,hf=>by
  cases hf;have:=hi _ _ _ _ h;cases this;exact ⟨hs _ _ _ _ h,k _ _ _ h⟩
 |d::ds,items,hi,A,τ,ρ,G,h,hf=>by
  have hh:=hi _ _ _ _ h;cases hh with
  |cons hx hr=>
   rename_i x items;unfold CL at hf;obtain ⟨bs,e1,hf⟩:=obb hf;obtain ⟨o1,e2,hf⟩:=obb hf;obtain ⟨ts,bd,kg⟩:=pg.ok hx e1;refine ⟨hs _ _ _ _ h,kg _ _ _ ?_⟩;obtain ⟨A',h'⟩:=h.puts bd;refine pb.ok h' e2 ?_;have hi':∀ A τ ρ G,RS D G0 A τ ρ G->Dqs (rs (AD D A) G) items ds:=λA τ ρ G h=>by
    have:=hi _ _ _ _ h;cases this with
    |cons a b=>exact b
   cases o1 with
   |nx ρ'=>exact λA2 τ2 G2 h2=>WO (items0:=items0) pg pb hs k ds items hi' _ _ _ _ h2 hf
   |ct ρ'=>exact λA2 τ2 G2 h2=>WO (items0:=items0) pg pb hs k ds items hi' _ _ _ _ h2 hf
   |bk ρ'=>cases hf;exact k
   |rt d fr=>cases hf;exact k
def qeW (pi:Rho->Option (List PyData)) (nm:Bool) (m:List Bool) (gf:PyData->Option (List (Nat×PyData))) (bf:Nat->Rho->Option Ot) (n:Nat) (ρ:Rho):Option Ot:=(pi ρ).bind λds=>CL gf (bf n) ds (if nm then ρ else dm m ρ)
def qgV {wi:TI3} {g:TG3} {tb:TS3} (pi:PuI wi) (pg:PuG g) (pb:PuS tb) (m:List Bool) (hm:Tru (pi.fv.all (mkb m))):PuS (CM wi g tb):=⟨qeW pi.f pi.nm m pg.f pb.f,λ{D G0 A τ ρ G n o e} h hf k=>by
 unfold qeW at hf;obtain ⟨ds,e1,hf⟩:=obb hf;refine pi.ok (h.viewD hm) (h.dem m).dom e1 λitems stay G1 E1 D1 hs hnm=>?_;cases hb:pi.nm with
 |true=>
  rw [hb,if_pos rfl] at hf;obtain ⟨ns,rfl⟩:=hnm hb;have:=D1.ints;subst this;exact WO (items0:=[]) pg pb (λ_ _ _ _ _=>hs _ (.inl hb)) k _ _ (λA τ ρ G _=>Dqs.ofInts _) _ _ _ _ (h.up E1) hf
 |false=>
  rw [hb,if_neg Bool.false_ne_true] at hf;have h1:=(h.dem m).up E1;have b1:Ex G0 (rs (λb=>∃ i,Ad m A i=some b) G1):=λb o e=>by
   rw [jD]
   ·exact h1.ex _ _ e
   ·rintro ⟨i,z⟩;rw [h1.fr i _ z] at e;cases e
  have h2:RS D (rs (λb=>∃ i,Ad m A i=some b) G1) (Ad m A) τ (dm m ρ) G1:=⟨Q5,h.dm.up b1,λi p z=>by unfold rs;exact zd ⟨i,z⟩,h1.da,h1.inj,h1.len,h1.sh,h1.ow⟩
  have X:∀ A2 τ2 ρ2 G2,RS D (rs (λb=>∃ i,Ad m A i=some b) G1) A2 τ2 ρ2 G2->Ex (rs (AD D (Ad m A)) G1) (rs (AD D A2) G2):=λA2 τ2 ρ2 G2 r b o e=>by
   obtain ⟨n1,e⟩:=qE e;have eb:rs (λb=>∃ i,Ad m A i=some b) G1 b=some o:=by rw [jD (λz=>n1 (.inr z))];exact e
   rw [jD]
   ·exact r.ex _ _ eb
   ·rintro (z|⟨i,z⟩)
    ·exact n1 (.inl z)
    ·rw [r.fr i _ z] at eb;cases eb
  exact WO (items0:=[]) pg pb (λA2 τ2 ρ2 G2 r=>hs _ (.inr ((X _ _ _ _ r).trans Q5))) (k.base b1 h.dm) _ _ (λA2 τ2 ρ2 G2 r=>D1.up (X _ _ _ _ r)) _ _ _ _ h2 hf⟩
def DU (fr:Bool):Option Ot->Option PyData
 |some (.rt d b)=>if fr=true/\b=false then (match d with|.none=>some .none|_=>none) else some d
 |some (.nx _)=>if fr then none else some .none
 |_=>none
def st (ds:List PyData) (N:Nat):Rho:=ds.map Sl.sh++List.replicate (N-ds.length) .un
def run (f:Nat->Rho->Option Ot) (k N n:Nat) (fr:Bool) (ds:List PyData):Option PyData:=if ds.length=k then DU fr (f n (st ds N)) else none
def jw {t:TS3} (b:PuS t) (N:List Str) (k n:Nat) (fr:Bool):∀ ts G q,PSp (run b.f k N.length n fr) fr ts G q->ts.length=k/\t { nx:=λ_ G'=>q .non G',rt:=q } (qx N ts) G:=by
 rintro ts G q ⟨D,ds,d,hs,hd,hf,h⟩;unfold run at hf;split at hf
 ·rename_i hk;refine ⟨by rw [hs.length];exact hk,?_⟩;have r:RS D G (λ_=>none) (qx N ts) (st ds N.length) G:=by
   refine ⟨Ex.refl,hd,(λi p e=>by cases e),(λi p e=>by cases e),(λi j p e=>by cases e),(by simp [st,qx,hs.length]),λi d' e=>?_,λi es e=>?_⟩
   ·unfold st at e;unfold qx;by_cases hi:i<ds.length
    ·rw [List.getElem?_append_left (by simpa using hi),getElem?_map] at e;obtain ⟨d2,e3,e4⟩:=Option.map_eq_some_iff.mp e;cases e4;obtain ⟨x,e5,hx⟩:=hs.get e3;refine ⟨x,?_,hx.up (jB λb z=>?_)⟩
     ·rw [List.getElem?_append_left (by simp [hs.length];exact hi),getElem?_map,e5];rfl
     ·rcases z with z|⟨i,z⟩
      ·exact z
      ·cases z
    ·rw [List.getElem?_append_right (by simpa using hi),List.getElem?_replicate] at e;split at e<;>cases e
   ·unfold st at e;by_cases hi:i<ds.length
    ·rw [List.getElem?_append_left (by simpa using hi),getElem?_map] at e;obtain ⟨d2,e3,e4⟩:=Option.map_eq_some_iff.mp e;cases e4
    ·rw [List.getElem?_append_right (by simpa using hi),List.getElem?_replicate] at e;split at e<;>cases e
  unfold DU at hf;split at hf
  ·rename_i d' b' e;split at hf
   ·split at hf
    ·cases hf;exact b.ok r e λx G' a c z=>h x G' a c λ_=>.inl rfl
    ·cases hf
   ·rename_i hb;cases hf;exact b.ok r e λx G' a c z=>h x G' a c λw=>z (by
     cases b' with
     |true=>rfl
     |false=>exact absurd ⟨w,rfl⟩ hb)
  ·rename_i ρ' e;split at hf
   ·cases hf
   ·rename_i hb;cases hf;exact b.ok r e λA τ G' r'=>h .non G' r'.ex .non λw=>absurd w hb
  ·cases hf
 ·cases hf
def asS:PyData->Option Str
 |.str s=>some s
 |_=>none
def qd0 {d:PyData} {b:Str} (h:asS d=some b):d=.str b:=by cases d<;>simp [asS] at h;subst h;rfl
def qg3 (tab:List (Str×T)) {te:TE3} (a:PuE te):PuE (qeL tab te):=⟨λρ=>((a.f ρ).bind asS).map λs=>.bool (js tab s).isSome,a.fv,false,λhv hd hf k=>by
 obtain ⟨s,e1,rfl⟩:=Option.map_eq_some_iff.mp hf;obtain ⟨d,e1,e2⟩:=obb e1;have:=qd0 e2;subst this;refine a.ok hv hd e1 λx' G1 E1 D1 _=>?_;cases D1;exact k _ _ E1 (.bl _) (λz=>by cases z)⟩
def qgQ {i:Nat}:(bV i).f=λρ=>vw ρ i:=id rfl
def MX {i:Int}:(qJ i).f=λ_=>some (.int i):=id rfl
def qd8 {i:Bool}:(bBl i).f=λ_=>some (.bool i):=id rfl
def N6 {i:Str}:(JQ i).f=λ_=>some (.str i):=id rfl
def qab:qfp.f=λ_=>some .none:=id rfl
def qg5 {r:R3} {ta tb:TE3} {R:OpD r} {a:PuE ta} {b:PuE tb}:(bO R a b).f=λρ=>(a.f ρ).bind λx=>(b.f ρ).bind λy=>R.f x y:=id rfl
def N9:qR.f=λ_=>some []:=id rfl
def SI {ta:TE3} {tr:TA3} {a:PuE ta} {r:PuA tr}:(qg a r).f=λρ=>(a.f ρ).bind λx=>(r.f ρ).bind λxs=>some (x::xs):=id rfl
def qap {t:TA3} {a:PuA t} {hn:Tru (Nat.ble a.n 1000)}:(VH a hn).f=λρ=>(a.f ρ).map .tuple:=id rfl
def MI {t:TA3} {a:PuA t} {hn:Tru (Nat.ble a.n 1000)}:(LH a hn).f=λρ=>(a.f ρ).map .list:=id rfl
def C9 {r:List T->Gp->Q3->Prop} {t:TA3} {R:FnD r} {a:PuA t}:(qO R a).f=λρ=>(a.f ρ).bind R.f:=id rfl
def qdc {t:TE3} {a:PuE t}:(bTb a).f=λρ=>(a.f ρ).bind asB:=id rfl
def qdK {t u:TT3} {a:PuC t} {b:PuC u}:(bOr a b).f=λρ=>(a.f ρ).bind λk=>if k then some true else b.f ρ:=id rfl
def qas {t:TT3} {a:PuC t}:(CJ a).f=λρ=>(a.f ρ).map (! ·):=id rfl
def qcG:bTt.f=λ_=>some true:=id rfl
def RH {ta tb:TE3} {a:PuE ta} {b:PuE tb}:(j5 a b).f=λρ=>((a.f ρ).bind asB).bind λk=>if k then b.f ρ else some (.bool false):=id rfl
def M9 {ta tb:TE3} {a:PuE ta} {b:PuE tb}:(qeY a b).f=λρ=>((a.f ρ).bind asB).bind λk=>if k then some (.bool true) else b.f ρ:=id rfl
def TY {ta:TE3} {a:PuE ta}:(qbr a).f=λρ=>((a.f ρ).bind asB).map λk=>.bool (!k):=id rfl
def MM {ta:TE3} {a:PuE ta}:(qeV a).f=λρ=>((a.f ρ).bind asI).map λi=>.int (-i):=id rfl
def MS {ta:TE3} {g:String->Bool} {a:PuE ta}:(W5 g a).f=λρ=>(a.f ρ).bind λd=>(tyD d).map λt=>.bool (g t):=id rfl
def qb4:bNp.f=λ_=>some none:=id rfl
def qeA {t:TE3} {a:PuE t}:(bSp a).f=λρ=>((a.f ρ).bind asI).map some:=id rfl
def qda {te:TE3} {tl th:TO3} {a:PuE te} {l:PuO tl} {h:PuO th}:(bSl a l h).f=λρ=>(a.f ρ).bind λd=>(l.f ρ).bind λlo=>(h.f ρ).bind λhi=>slD d lo hi:=id rfl
def NP {tab:List (Str×T)} {te:TE3} {a:PuE te}:(qg3 tab a).f=λρ=>((a.f ρ).bind asS).map λs=>.bool (js tab s).isSome:=id rfl
def qc6 {wi:TI3} {g:TG3} {tif:TT3} {te:TE3} {pi:PuI wi} {pg:PuG g} {pc:PuC tif} {pe:PuE te} {m:List (Option Nat)} {hm:Tru (pg.tg.all λi=>m[i]?==some none)}:(bLc pi pg pc pe m hm).f=lcF pi.f (lcH pg.f pc.f pe.f) m:=id rfl
def ND:X9.f=qev:=id rfl
def M2:qeP.f=qeR:=id rfl
def qaf:qc2.f=qbJ:=id rfl
def CT {F:List PyData->Option PyData} {fr:Bool}:(jp F fr).f=F:=id rfl
def qb5 {g:Int->Int->Int} {i j:Int}:(opI g).f (.int i) (.int j)=some (.int (g i j)):=id rfl
def qcM {g:Int->Int->Bool} {i j:Int}:(opB g).f (.int i) (.int j)=some (.bool (g i j)):=id rfl
def qbY {C:Int->Int->Prop} {g:Int->Int->Int}:(opC C g).f=cI C g:=id rfl
def M5 {n:Bool}:(ZJ n).f=eqD n:=id rfl
def TQ {n:Bool}:(qaQ n).f=qdC n:=id rfl
def L8:jm.f=ixD:=id rfl
def W9:SY.f=qce:=id rfl
def M8 {t:TE3} {a:PuE t}:(qbA a).f=λρ=>(a.f ρ).bind SB:=id rfl
def qal {t:TA3} {a:PuA t}:(qgH a).f=λρ=>(a.f ρ).bind qdq:=id rfl
def RQ {t:TA3} {a:PuA t}:(qbx a).f=λρ=>(a.f ρ).bind λds=>match ds with|[d]=>(SB d).map λus=>enD 0 us|_=>none:=id rfl
def RF {t:TE3} {a:PuE t}:(qbA a).nm=false:=id rfl
def XB {t:TA3} {a:PuA t}:(qbx a).nm=false:=id rfl
def qg2 {i:Nat}:(gN i).f=λd=>some [(i,d)]:=id rfl
def N4:qeX.f []=some []:=id rfl
def C4 {t:TG3} {u:EW} {a:PuG t} {b:PuGs u} {d:PyData} {r:List PyData}:(TW a b).f (d::r)=(a.f d).bind λx=>(b.f r).map λy=>x++y:=id rfl
def qaq {u:EW} {n:Nat} {b:PuGs u} {ds:List PyData}:(qeM n b).f (.tuple ds)=if ds.length=n then b.f ds else none:=id rfl
def RW:ZT.f=λ_ ρ=>some (.nx ρ):=id rfl
def M6 {t u:TS3} {a:PuS t} {b:PuS u}:(DZ a b).f=qeT a.f b.f:=id rfl
def qbM {c:TT3} {t u:TS3} {pc:PuC c} {a:PuS t} {b:PuS u}:(sIf pc a b).f=λn ρ=>(pc.f ρ).bind λk=>if k then a.f n ρ else b.f n ρ:=id rfl
def N8 {t:TE3} {a:PuE t}:(J0 a).f=λ_ ρ=>(a.f ρ).map λd=>.rt d a.nw:=id rfl
def NG {t:TE3} {a:PuE t} {i:Nat} {m:List Bool} {hm:Tru (a.fv.all (mkb m))}:(qgG a i m hm).f=λ_ ρ=>(a.f ρ).map λd=>.nx (U1 m a.nw i d ρ):=id rfl
def MO {wi:TI3} {g:TG3} {tb:TS3} {pi:PuI wi} {pg:PuG g} {pb:PuS tb} {m:List Bool} {hm:Tru (pi.fv.all (mkb m))}:(qgV pi pg pb m hm).f=qeW pi.f pi.nm m pg.f pb.f:=id rfl
def MR {i:Bool}:(bBl i).nw=false:=id rfl
def qdG {r:R3} {ta tb:TE3} {R:OpD r} {a:PuE ta} {b:PuE tb}:(bO R a b).nw=R.nw:=id rfl
def SG {t:TA3} {a:PuA t} {hn:Tru (Nat.ble a.n 1000)}:(VH a hn).nw=false:=id rfl
def CY {t:TA3} {a:PuA t} {hn:Tru (Nat.ble a.n 1000)}:(LH a hn).nw=true:=id rfl
def WG {r:List T->Gp->Q3->Prop} {t:TA3} {R:FnD r} {a:PuA t}:(qO R a).nw=R.nw:=id rfl
def WC {F:List PyData->Option PyData} {fr:Bool}:(jp F fr).nw=fr:=id rfl
def WP {ta tb:TE3} {a:PuE ta} {b:PuE tb}:(j5 a b).nw=false:=id rfl
def RM:qc2.nw=false:=id rfl
def RO:jm.nw=false:=id rfl
def EM:SY.nw=true:=id rfl
def TV {n:Bool}:(ZJ n).nw=false:=id rfl
def qgM {s:Sl} {r:Rho}:vw (s::r) 0=s.d:=id rfl
def qgP {s:Sl} {r:Rho} {i:Nat}:vw (s::r) (i+1)=vw r i:=id rfl
def qcl {d:PyData}:(Sl.sh d).d=some d:=id rfl
def qcI {ds:List PyData}:(Sl.ow ds).d=some (.list ds):=id rfl
def qeI:Sl.un.d=none:=id rfl
def qcB {xs:List PyData} {i:Int}:ixD (.tuple xs) (.int i)=L2.atI xs i:=id rfl
def qbL {xs:List PyData} {i:Int}:ixD (.list xs) (.int i)=L2.atI xs i:=id rfl
def at0 {α:Type} {a:α} {r:List α}:L2.atI (a::r) 0=some a:=by simp [L2.atI,ixN]
def at1 {α:Type} {a b:α} {r:List α}:L2.atI (a::b::r) 1=some b:=by
 have h:ixN (a::b::r).length 1=some 1:=by unfold ixN;rw [if_pos (by omega),if_pos (by simp;omega)];rfl
 unfold L2.atI;rw [h];rfl
def at2 {α:Type} {a b c:α} {r:List α}:L2.atI (a::b::c::r) 2=some c:=by
 have h:ixN (a::b::c::r).length 2=some 2:=by unfold ixN;rw [if_pos (by omega),if_pos (by simp;omega)];rfl
 unfold L2.atI;rw [h];rfl
def at3 {α:Type} {a b c d:α} {r:List α}:L2.atI (a::b::c::d::r) 3=some d:=by
 have h:ixN (a::b::c::d::r).length 3=some 3:=by unfold ixN;rw [if_pos (by omega),if_pos (by simp;omega)];rfl
 unfold L2.atI;rw [h];rfl
def atN {α:Type} {xs:List α} {k:Nat} (h:k<xs.length):L2.atI xs (k:Int)=xs[k]?:=by
 have e:ixN xs.length (k:Int)=some k:=by unfold ixN;rw [if_pos (by omega),if_pos (by omega)];rfl
 unfold L2.atI;rw [e];rfl
def eqS {n:Bool} {a b:Str}:eqD n (.str a) (.str b)=some (.bool (if n then !decide (a=b) else decide (a=b))):=id rfl
def eqI {n:Bool} {a b:Int}:eqD n (.int a) (.int b)=some (.bool (if n then !decide (a=b) else decide (a=b))):=id rfl
def eqB {n:Bool} {a b:Bool}:eqD n (.bool a) (.bool b)=some (.bool (if n then !decide (a=b) else decide (a=b))):=id rfl
def qhh {j:Int} (h:-1000000000<=j/\j<1000000000):qdq [.int j]=some ((T5 0 j.toNat).map PyData.int):=by simp only [qdq];exact zd ⟨by omega,by omega⟩
def TK {pi:Rho->Option (List PyData)} {h:Rho->PyData->Option (Option PyData)} {m:List (Option Nat)} {ρ:Rho} {ds fs:List PyData} (h1:pi ρ=some ds) (h2:lcP (h (EK m ρ)) ds=some fs) (h3:fs.length<=16777216):lcF pi h m ρ=some (.list fs):=by unfold lcF;rw [h1];simp only [Option.bind_some,h2];exact zd h3
def sqk (b:Nat->Rho->Option Ot) (n:Nat) (o:Ot):Option Ot:=match o with|.nx ρ'=>b n ρ'|o=>some o
def NT {a b:Nat->Rho->Option Ot} {n:Nat} {ρ:Rho}:qeT a b n ρ=(a n ρ).bind (sqk b n):=id rfl
def NJ {b:Nat->Rho->Option Ot} {n:Nat} {ρ:Rho}:sqk b n (.nx ρ)=b n ρ:=id rfl
def qag {b:Nat->Rho->Option Ot} {n:Nat} {d:PyData} {f:Bool}:sqk b n (.rt d f)=some (.rt d f):=id rfl
def MV {d:PyData} {b:Bool}:DU false (some (.rt d b))=some d:=by simp [DU]
def qek {b:Bool}:asB (.bool b)=some b:=id rfl
def qdW {b:Int}:asI (.int b)=some b:=id rfl
def qep {b:Str}:asS (.str b)=some b:=id rfl
def NL {xs:List PyData}:qev [.tuple xs]=some (.int xs.length):=id rfl
def NK {xs:List PyData}:qev [.list xs]=some (.int xs.length):=id rfl
def qam {xs:List PyData}:qeR [.tuple xs]=some (.list xs):=id rfl
def VQ {xs:List Bool}:qbJ [.list (xs.map PyData.bool)]=some (.bool (xs.all id)):=by simp only [qbJ,KQ,Option.map_some]
def MG {xs:List PyData}:SB (.tuple xs)=some xs:=id rfl
def MY {xs:List PyData}:SB (.list xs)=some xs:=id rfl
def qeq {i:Int}:tyD (.int i)=some "int" := id rfl
def qbK {i:Bool}:tyD (.bool i)=some "bool" := id rfl
def qcS:tyD .none=some "NoneType" := id rfl
def qch {i:Str}:tyD (.str i)=some "str" := id rfl
def qcy {i:List PyData}:tyD (.tuple i)=some "tuple" := id rfl
def qcP {i:List PyData}:tyD (.list i)=some "list" := id rfl
def qcp {m:List Bool} {nw:Bool} {i:Nat} {v:Int} {ρ:Rho}:U1 m nw i (.int v) ρ=ρ.set i (.sh (.int v)):=id rfl
def qcb {m:List Bool} {nw:Bool} {i:Nat} {v:Bool} {ρ:Rho}:U1 m nw i (.bool v) ρ=ρ.set i (.sh (.bool v)):=id rfl
def qcR {m:List Bool} {nw:Bool} {i:Nat} {v:Str} {ρ:Rho}:U1 m nw i (.str v) ρ=ρ.set i (.sh (.str v)):=id rfl
def qaF {m:List Bool} {nw:Bool} {i:Nat} {v:List PyData} {ρ:Rho}:U1 m nw i (.tuple v) ρ=(dm m ρ).set i (.sh (.tuple v)):=by cases nw<;>rfl
def M0 {m:List Bool} {i:Nat} {v:List PyData} {ρ:Rho}:U1 m true i (.list v) ρ=(dm m ρ).set i (.ow v):=id rfl
def MU {m:List Bool} {i:Nat} {v:List PyData} {ρ:Rho}:U1 m false i (.list v) ρ=(dm m ρ).set i (.sh (.list v)):=id rfl
def qgF {ρ:Rho}:dm [] ρ=ρ:=id rfl
def qg1 {m:List Bool} {s:Sl} {ρ:Rho}:dm (true::m) (s::ρ)=s.dem::dm m ρ:=id rfl
def qgY {m:List Bool} {s:Sl} {ρ:Rho}:dm (false::m) (s::ρ)=s::dm m ρ:=id rfl
def qcx {ds:List PyData}:(Sl.ow ds).dem=.sh (.list ds):=id rfl
def qc0 {d:PyData}:(Sl.sh d).dem=.sh d:=id rfl
def qdJ {ρ:Rho}:EK [] ρ=[]:=id rfl
def qcj {m:List (Option Nat)} {ρ:Rho}:EK (none::m) ρ=.un::EK m ρ:=id rfl
def cp (o:Option PyData):Sl:=match o with|some d=>.sh d|none=>.un
def qdU {m:List (Option Nat)} {j:Nat} {ρ:Rho}:EK (some j::m) ρ=cp (vw ρ j)::EK m ρ:=id rfl
def qgN {d:PyData}:cp (some d)=.sh d:=id rfl
def qb2 {i j:Nat} {m:List Bool} {x y:Int} {ρ:Rho}:qeS i j m [.int x,.int y] ρ=some (.nx ((ρ.set i (.sh (.int x))).set j (.sh (.int y)))):=id rfl
def NV {pi:Rho->Option (List PyData)} {m:List Bool} {gf:PyData->Option (List (Nat×PyData))} {bf:Nat->Rho->Option Ot} {n:Nat} {ρ:Rho}:qeW pi false m gf bf n ρ=(pi ρ).bind λds=>CL gf (bf n) ds (dm m ρ):=id rfl
def MA {ρ:Rho}:ZY ρ []=ρ:=id rfl
def NR {ρ:Rho} {i:Nat} {d:PyData} {r:List (Nat×PyData)}:ZY ρ ((i,d)::r)=ZY (ρ.set i (.sh d)) r:=id rfl
def qaZ {gf:PyData->Option (List (Nat×PyData))} {cf:Rho->Option Bool} {ef:Rho->Option PyData} {ρ:Rho} {d:PyData}:lcH gf cf ef ρ d=(gf d).bind λbs=>(cf (ZY ρ bs)).bind λk=>if k then (ef (ZY ρ bs)).map some else some none:=id rfl
section
variable {gf:PyData->Option (List (Nat×PyData))} {bf:Rho->Option Ot} {α:Type} {g:α->PyData} {ρ:Rho} {Q:Option Ot->Prop} {F:Ot->Option Ot}
end
def T6 {α:Type} {us:List α} (h:us.length=1):∃ a0,us=[a0]:=List.length_eq_one_iff.mp h
def NN {α:Type} {us:List α} (h:us.length=2):∃ a0 a1,us=[a0,a1]:=by
 obtain ⟨a0,r,rfl⟩:=List.exists_cons_of_length_pos (show 0<us.length by omega);obtain ⟨a1,rfl⟩:=T6 (show r.length=1 by simpa using h);exact ⟨a0,a1,rfl⟩
def ER (d e:PyData):Option PyData:=match d,e with
 |.tuple xs,.tuple ys=>cif (xs.length+ys.length<=sizeLine) (some (.tuple (xs++ys))) none
 |.list xs,.list ys=>cif (xs.length+ys.length<=sizeLine) (some (.list (xs++ys))) none
 |.int i,.int j=>some (.int (i+j))
 |_,_=>none
def qY:OpD zJ:=⟨ER,false,λ{D G x y d e v q} hx hy hd hf k=>by
  unfold ER at hf;cases hx with
  | int i => cases hy <;> try (simp at hf;done)
             cases hf;exact k _ _ Ex.refl (.int _) (λz=>by cases z)
  |tup hs=>
    cases hy<;>try (simp at hf;done)
    rename_i hs2;simp only [cif] at hf;split at hf
    · rename_i c;cases hf;exact ⟨by rw [hs.length,hs2.length];exact c,k _ _ Ex.refl (.tup (hs.append hs2)) (λz=>by cases z)⟩
    · cases hf
  |lst g hs=>
    cases hy<;>try (simp at hf;done)
    rename_i g2 hs2;simp only [cif] at hf;split at hf
    · rename_i c;cases hf;simp only [zJ,(qE g).2,(qE g2).2];exact ⟨by rw [hs.length,hs2.length];exact c,λp hp=>k _ _ (jZ hp) (ZI hd hp (hs.append hs2)) (λz=>by cases z)⟩
    · cases hf
  |_=>simp at hf⟩
def slA (d:PyData) (lo hi:Option Int):Option PyData:=match d with
 |.tuple xs=>some (.tuple (JB xs lo hi))
 |.list xs=>some (.list (JB xs lo hi))
 |_=>none
def EX {te:TE3} {tl th:TO3} (a:PuE te) (l:PuO tl) (h:PuO th):PuE (QY te tl th):=⟨λρ=>(a.f ρ).bind λd=>(l.f ρ).bind λlo=>(h.f ρ).bind λhi=>slA d lo hi,a.fv++(l.fv++h.fv),false,λhv hd hf k=>by
 obtain ⟨d,e1,hf⟩:=obb hf;obtain ⟨lo,e2,hf⟩:=obb hf;obtain ⟨hi,e3,hf⟩:=obb hf;refine a.ok hv.l hd e1 λx' G1 E1 D1 _=>l.ok (hv.r.l.up E1) (hd.up E1) e2 λG2 E2=>h.ok (hv.r.r.up (E1.trans E2)) (hd.up (E1.trans E2)) e3 λG3 E3=>?_;have E:=(E1.trans E2).trans E3;have D3:=(D1.up (Q9 E2)).up (Q9 E3);unfold slA at hf;cases D3 with
 |tup hs=>
  simp only at hf;cases hf;exact k _ _ E (.tup (hs.cut _ _)) (λz=>by cases z)
 |lst g hs=>
  simp only at hf;cases hf;simp only [qf3,zY (qE g).2];intro p hp;exact k _ _ (E.trans (jZ hp)) (ZI (hd.up E) hp (hs.cut _ _)) (λz=>by cases z)
 |_=>simp at hf⟩
def jr:qY.f=ER:=id rfl
def zV:qY.nw=false:=id rfl
def U2 {te:TE3} {tl th:TO3} {a:PuE te} {l:PuO tl} {h:PuO th}:(EX a l h).f=λρ=>(a.f ρ).bind λd=>(l.f ρ).bind λlo=>(h.f ρ).bind λhi=>slA d lo hi:=id rfl
def YQ {te:TE3} {tl th:TO3} {a:PuE te} {l:PuO tl} {h:PuO th}:(EX a l h).nw=false:=id rfl
def TF {xs:List PyData} {lo hi:Option Int}:slA (.tuple xs) lo hi=some (.tuple (JB xs lo hi)):=id rfl
def ZN {xs ys:List PyData} (h:xs.length+ys.length<=16777216):ER (.tuple xs) (.tuple ys)=some (.tuple (xs++ys)):=zd h
end Pu
namespace Pv
open PySem L2 L3 Pu
open Bk (Wk jg)
def pD (p:Int×Int):PyData:=.tuple [.int p.1,.int p.2]
def Wk.d:Wk->PyData
 |.line k m=>.tuple [.str (jg k),.int m]
 |.block h w=>.tuple [.str "block",.int h,.int w]
 |.step d a m=>.tuple [.str "step",.int d,.int a,.int m]
 |.cells ps=>.tuple [.str "cells",.tuple (ps.map pD)]
def WZ (G:Gp):∀ (cs:List (Int×Int)),Dqs G (cs.map Bk.pT) (cs.map pD)
 |[]=>.nil
 |p::cs=>.cons (.tup (.cons (.int _) (.cons (.int _) .nil))) (WZ G cs)
def qfI (G:Gp):∀ (w:Wk),Dq G w.t (Wk.d w)
 |.line k m=>.tup (.cons (.str _) (.cons (.int _) .nil))
 |.block h v=>.tup (.cons (.str _) (.cons (.int _) (.cons (.int _) .nil)))
 |.step d a m=>.tup (.cons (.str _) (.cons (.int _) (.cons (.int _) (.cons (.int _) .nil))))
 |.cells ps=>.tup (.cons (.str _) (.cons (.tup (WZ G ps)) .nil))
end Pv
namespace Pu
open PySem L2 L3
open Bk (Lf Ext)
section
variable {D:Addr->Prop} {a:Addr} {G G' G0:Gp} {n n':Nat} {fv gv:List Nat} {l:Nat} {τ:St3} {ρ:Rho}
def QZ (e:Ext a G G') (h:D a):Ex (rs D G) (rs D G'):=λb o x=>by
 obtain ⟨n,x⟩:=qE x;rw [jD n];exact e b o (by rintro rfl;exact n h) x
def YH {k:Int} (h:Lf G a k):G a≠none:=by
 obtain ⟨o,c,m,e,_⟩:=h;rw [e];simp
def ji {k:Int} (hd:Dom D G) (e:Ext a G G') (lf:Lf G' a k):Dom D G':=λb hb z=>by
 by_cases h:b=a
 ·subst h;exact YH lf z
 ·cases g:G b with
  |none=>exact hd b hb g
  |some o=>rw [e b o h g] at z;cases z
def Nw.backx {x:T} {d:PyData} {k:Int} (h:Nw D G G' x d) (e:Ext a G0 G) (lf:Lf G a k):Nw D G0 G' x d:=by
 rcases h with h|⟨p,xs,ds,h1,h2,c,r⟩
 ·exact .inl h
 refine .inr ⟨p,xs,ds,h1,h2,?_,r⟩;cases z:G0 p with
 |none=>rfl
 |some o=>
  by_cases hp:p=a
  ·subst hp;exact absurd c (YH lf)
  ·rw [e p o hp z] at c;cases c
structure Ln (fv:List Nat) (l:Nat) (D:Addr->Prop) (G:Gp) (τ:St3) (ρ:Rho) (a:Addr) (n:Nat):Prop where
 v:YY fv D G τ ρ
 d:Dom D G
 da:D a
 tl:τ[l]?=some (some (.ref a))
 ul:vw ρ l=none
 lf:Lf G a n
def Ln.up (h:Ln fv l D G τ ρ a n) (e:Ext a G G') (lf:Lf G' a n'):Ln fv l D G' τ ρ a n':=
 ⟨λi hi d hd=>let ⟨t,x,y⟩:=h.v i hi d hd;⟨t,x,y.up (QZ e h.da)⟩,ji h.d e lf,h.da,h.tl,h.ul,lf⟩
def Ln.fst (h:Ln (fv++gv) l D G τ ρ a n):Ln fv l D G τ ρ a n:=⟨h.v.l,h.d,h.da,h.tl,h.ul,h.lf⟩
def Ln.snd (h:Ln (fv++gv) l D G τ ρ a n):Ln gv l D G τ ρ a n:=⟨h.v.r,h.d,h.da,h.tl,h.ul,h.lf⟩
end
abbrev QD:=PyData->Nat->Prop
structure PwE (l:Nat) (t:TE3) where
 w:Rho->Nat->QD->Prop
 fv:List Nat
 nw:Bool
 mono:∀ {ρ n} {Q Q':QD},w ρ n Q->(∀ d m,Q d m->Q' d m)->w ρ n Q'
 ok:∀ {D τ ρ G a n} {q:Q3} {Q:QD},Ln fv l D G τ ρ a n->w ρ n Q->(∀ x d G' n',Q d n'->Ext a G G'->Lf G' a n'->Dq (rs D G') x d->(nw=true->Nw D G G' x d)->q x G')->t τ G q
structure PwC (l:Nat) (t:TT3) where
 w:Rho->Nat->(Bool->Nat->Prop)->Prop
 fv:List Nat
 mono:∀ {ρ n} {Q Q':Bool->Nat->Prop},w ρ n Q->(∀ d m,Q d m->Q' d m)->w ρ n Q'
 ok:∀ {D τ ρ G a n} {q:Bool->Gp->Prop} {Q:Bool->Nat->Prop},Ln fv l D G τ ρ a n->w ρ n Q->(∀ k G' n',Q k n'->Ext a G G'->Lf G' a n'->q k G')->t τ G q
structure PwA (l:Nat) (t:TA3) where
 w:Rho->Nat->(List PyData->Nat->Prop)->Prop
 fv:List Nat
 k:Nat
 mono:∀ {ρ n} {Q Q':List PyData->Nat->Prop},w ρ n Q->(∀ d m,Q d m->Q' d m)->w ρ n Q'
 ok:∀ {D τ ρ G a n} {q:List T->Gp->Prop} {Q:List PyData->Nat->Prop},Ln fv l D G τ ρ a n->w ρ n Q->(∀ x d G' n',Q d n'->d.length=k->Ext a G G'->Lf G' a n'->Dqs (rs D G') x d->q x G')->t τ G q
structure PwI (l:Nat) (t:TI3) where
 w:Rho->Nat->(List PyData->Nat->Prop)->Prop
 fv:List Nat
 nm:Bool
 mono:∀ {ρ n} {Q Q':List PyData->Nat->Prop},w ρ n Q->(∀ d m,Q d m->Q' d m)->w ρ n Q'
 ok:∀ {D τ ρ G a n} {r:List T->(Gp->Prop)->Gp->Prop} {Q:List PyData->Nat->Prop},Ln fv l D G τ ρ a n->w ρ n Q ->
  (∀ items stay ds G' n',Q ds n'->Ext a G G'->Lf G' a n'->Dqs (rs D G') items ds->(∀ G'',(nm=true\/Ex (rs D G') G'')->stay G'')->(nm=true->∃ ns:List Int,ds=ns.map PyData.int)->r items stay G')->t τ G r
structure DrD (r:List T->Gp->Q3->Prop) where
 W:List PyData->Nat->QD->Prop
 nw:Bool
 mono:∀ {ds n} {Q Q':QD},W ds n Q->(∀ d m,Q d m->Q' d m)->W ds n Q'
 ok:∀ {D:Addr->Prop} {G:Gp} {a:Addr} {n:Nat} {ts:List T} {ds:List PyData} {q:Q3} {Q:QD},Lf G a n->D a->Dom D G->Dqs (rs D G) ts ds->W ds n Q->(∀ x d G' n',Q d n'->Ext a G G'->Lf G' a n'->Dq (rs D G') x d->(nw=true->Nw D G G' x d)->q x G')->r (.ref a::ts) G q
section
variable {l:Nat}
def eOf {t:TE3} (b:PuE t):PwE l t:=⟨λρ n Q=>∃ d,b.f ρ=some d/\Q d n,b.fv,b.nw,λ⟨d,h1,h2⟩ h=>⟨d,h1,h _ _ h2⟩,λh ⟨d,h1,h2⟩ k=>
 b.ok h.v h.d h1 λx G1 E1 D1 N1=>k x d G1 _ h2 (Bk.VY E1) (h.lf.ex E1) D1 N1⟩
def cOf {t:TT3} (b:PuC t):PwC l t:=⟨λρ n Q=>∃ d,b.f ρ=some d/\Q d n,b.fv,λ⟨d,h1,h2⟩ h=>⟨d,h1,h _ _ h2⟩,λh ⟨d,h1,h2⟩ k=>
 b.ok h.v h.d h1 λG1 E1=>k d G1 _ h2 (Bk.VY E1) (h.lf.ex E1)⟩
def aOf {t:TA3} (b:PuA t):PwA l t:=⟨λρ n Q=>∃ d,b.f ρ=some d/\Q d n,b.fv,b.n,λ⟨d,h1,h2⟩ h=>⟨d,h1,h _ _ h2⟩,λh ⟨d,h1,h2⟩ k=>
 b.ok h.v h.d h1 λx G1 E1 D1=>k x d G1 _ h2 (b.ln h1) (Bk.VY E1) (h.lf.ex E1) D1⟩
def iOf {t:TI3} (b:PuI t):PwI l t:=⟨λρ n Q=>∃ d,b.f ρ=some d/\Q d n,b.fv,b.nm,λ⟨d,h1,h2⟩ h=>⟨d,h1,h _ _ h2⟩,λh ⟨d,h1,h2⟩ k=>
 b.ok h.v h.d h1 λitems stay G1 E1 D1 s nm=>k items stay d G1 _ h2 (Bk.VY E1) (h.lf.ex E1) D1 s nm⟩
def eO {r:R3} {ta tb:TE3} (R:OpD r) (a:PwE l ta) (b:PwE l tb):PwE l (o3 r ta tb):=
 ⟨λρ n Q=>a.w ρ n λx n1=>b.w ρ n1 λy n2=>∃ v,R.f x y=some v/\Q v n2,a.fv++b.fv,R.nw,λh k=>a.mono h λx n1 h=>b.mono h λy n2 ⟨v,h1,h2⟩=>⟨v,h1,k _ _ h2⟩,λh hw k=>
  a.ok h.fst hw λx dx G1 n1 h1 E1 L1 D1 _=>b.ok (h.snd.up E1 L1) h1 λy dy G2 n2 ⟨v,e,hq⟩ E2 L2 D2 _=>R.ok (D1.up (QZ E2 h.da)) D2 (ji (ji h.d E1 L1) E2 L2) e λz G3 E3 D3 N3=>k z v G3 n2 hq ((E1.trans E2).trans (Bk.VY E3)) (L2.ex E3) D3 λz=>(N3 z).backx (E1.trans E2) L2⟩
def SN {ta:TE3} {tr:TA3} (a:PwE l ta) (r:PwA l tr):PwA l (qc ta tr):=
 ⟨λρ n Q=>a.w ρ n λx n1=>r.w ρ n1 λxs n2=>Q (x::xs) n2,a.fv++r.fv,r.k+1,λh k=>a.mono h λx n1 h=>r.mono h λxs n2 h=>k _ _ h,λh hw k=>
  a.ok h.fst hw λx dx G1 n1 h1 E1 L1 D1 _=>r.ok (h.snd.up E1 L1) h1 λy dy G2 n2 hq hl E2 L2 D2=>k _ _ G2 n2 hq (by simp [hl]) (E1.trans E2) L2 (.cons (D1.up (QZ E2 h.da)) D2)⟩
def eDr {r:List T->Gp->Q3->Prop} {t:TA3} (R:DrD r) (b:PwA l t):PwE l (cb3 r (qc (v3 l) t)):=⟨λρ n Q=>b.w ρ n λxs n1=>R.W xs n1 Q,b.fv,R.nw,λh k=>b.mono h λxs n1 h=>R.mono h k,λ{D τ ρ G a n q Q} h hw k=>by
 simp only [cb3,qc,v3,h.tl];exact b.ok h hw λx dx G1 n1 hW hl E1 L1 D1=>R.ok L1 h.da (ji h.d E1 L1) D1 hW λz d G3 n3 hq E3 L3 D3 N3=>k z d G3 n3 hq (E1.trans E3) L3 D3 λz=>(N3 z).backx E1 L1⟩
end
def lcW (gf:PyData->Option (List (Nat×PyData))) (cw:Rho->Nat->(Bool->Nat->Prop)->Prop) (ew:Rho->Nat->QD->Prop) (ρ:Rho):List PyData->Nat->(List PyData->Nat->Prop)->Prop
 |[],n,Q=>Q [] n
 |d::r,n,Q=>∃ bs,gf d=some bs/\cw (ZY ρ bs) n λk n1=>if k then ew (ZY ρ bs) n1 λy n2=>lcW gf cw ew ρ r n2 λys n3=>Q (y::ys) n3 else lcW gf cw ew ρ r n1 Q
def ZF {l:Nat} {g:TG3} {tif:TT3} {te:TE3} (pg:PuG g) (pc:PwC l tif) (pe:PwE l te) {ρ:Rho}:∀ {ds:List PyData} {n:Nat} {Q Q':List PyData->Nat->Prop},lcW pg.f pc.w pe.w ρ ds n Q->(∀ d m,Q d m->Q' d m)->lcW pg.f pc.w pe.w ρ ds n Q'
 |[],n,Q,Q',h,k=>k _ _ h
 |d::r,n,Q,Q',⟨bs,e,h⟩,k=>⟨bs,e,pc.mono h λj m h=>by
   cases j with
   |true=>rw [if_pos rfl] at h ⊢;exact pe.mono h λy m2 h=>ZF pg pc pe h λys m3 h=>k _ _ h
   |false=>exact ZF pg pc pe h k⟩
def VA.ext {D:Addr->Prop} {a:Addr} {G G':Gp} {τ:St3} {ρ:Rho} (h:VA D G τ ρ) (e:Ext a G G') (da:D a):VA D G' τ ρ:=h.upx (QZ e da)
def SA:∀ {ts:List (Nat×T)} {τ:St3} {i:Nat},(∀ p∈ts,p.1≠i)->(sets τ ts)[i]?=τ[i]?
 |[],_,_,_=>rfl
 |p::r,τ,i,h=>by
  unfold sets;rw [SA λq hq=>h q (by simp [hq]),getElem?_set,if_neg (h p (by simp))]
def TJ {l:Nat} {stay:Gp->Prop} {g:TG3} {tif:TT3} {te:TE3} {q:Q3} (pg:PuG g) (pc:PwC l tif) (pe:PwE l te) {D:Addr->Prop} {a:Addr} {ρ0:Rho} {G0:Gp} (da:D a) (hs:∀ G,Ext a G0 G->stay G) (hm:∀ i∈pg.tg,vw ρ0 i=none) (hl:∀ i∈pg.tg,i≠l) {Q:List PyData->Nat->Prop}
  (k:∀ G ys fs n,Q fs n->fs.length<=sizeLine->Ext a G0 G->Lf G a n->Dqs (rs D G) ys fs->∀ p,G p=none->q (.ref p) (gu G p (.lst ys))) :
  vw ρ0 l=none->∀ (ds:List PyData) (items ys:List T) (es:List PyData) (τ:St3) (G:Gp) (n:Nat),Dqs (rs D G0) items ds->VA D G τ ρ0->τ[l]?=some (some (.ref a))->Ext a G0 G->Dom D G->Lf G a n->Dqs (rs D G) ys es->lcW pg.f pc.w pe.w ρ0 ds n (λfs n=>(es++fs).length<=sizeLine/\Q (es++fs) n)->ds.length+es.length<=sizeLine->qao stay g tif te q items ys τ G
 |_,_,_,ys,es,τ,G,n,.nil,va,tl,E,hd,lf,hy,hw,_=>by
  obtain ⟨h1,h2⟩:=hw;rw [List.append_nil] at h1 h2;exact ⟨hs G E,k G ys es n h2 h1 E lf hy⟩
 |ul,d::ds,x::items,ys,es,τ,G,n,.cons hx hr,va,tl,E,hd,lf,hy,⟨bs,e3,hw⟩,hz=>by
  obtain ⟨ts,bd,kg⟩:=pg.ok (hx.up (QZ E da)) e3;refine ⟨hs G E,kg τ G _ ?_⟩;have va1:=va.sets bd;have at1:∀ p∈ts,p.1∈pg.tg:=λp hp=>by
   obtain ⟨q,hq,e⟩:=qat bd p hp;rw [← e];exact pg.at' e3 q hq
  have va2:=va.keep (ts:=ts) λp hp=>hm _ (at1 p hp);have tl1:(sets τ ts)[l]?=some (some (.ref a)):=by rw [SA λp hp=>hl _ (at1 p hp)];exact tl
  have ul1:vw (ZY ρ0 bs) l=none:=by rw [R5 λp hp=>hl _ (pg.at' e3 p hp)];exact ul
  refine pc.ok ⟨va1.view _,hd,da,tl1,ul1,lf⟩ hw λc G1 n1 hc E1 L1=>?_;cases c with
  |true=>
   rw [if_pos rfl] at hc ⊢;refine pe.ok ⟨(va1.ext E1 da).view _,ji hd E1 L1,da,tl1,ul1,L1⟩ hc λz y G2 n2 hq E2 L2 D2 _=>⟨?_,?_⟩
   ·rw [hy.length];simp at hz;omega
   ·refine TJ pg pc pe da hs hm hl k ul ds items (ys++[z]) (es++[y]) _ G2 n2 hr ((va2.ext E1 da).ext E2 da) tl1 ((E.trans E1).trans E2) (ji (ji hd E1 L1) E2 L2) L2 (((hy.up (QZ E1 da)).up (QZ E2 da)).append (.cons D2 .nil)) ?_ (by simp at hz ⊢;omega);refine ZF pg pc pe hq λfs m h=>?_;rw [List.append_assoc];exact h
  |false=>
   rw [if_neg Bool.false_ne_true] at hc ⊢;exact TJ pg pc pe da hs hm hl k ul ds items ys es _ G1 n1 hr (va2.ext E1 da) tl1 (E.trans E1) (ji hd E1 L1) L1 (hy.up (QZ E1 da)) hc (by simp at hz;omega)
def qhr {l:Nat} (it:Rho->Nat->(List PyData->Nat->Prop)->Prop) (h:Rho->List PyData->Nat->(List PyData->Nat->Prop)->Prop) (m:List (Option Nat)) (ρ:Rho) (n:Nat) (Q:QD):Prop:=
 it ρ n λds n1=>ds.length<=16777216/\h (EK m ρ) ds n1 λfs n2=>fs.length<=16777216/\Q (.list fs) n2
def eLc {l:Nat} {wi:TI3} {g:TG3} {tif:TT3} {te:TE3} (l2:Nat) (pi:PwI l wi) (pg:PuG g) (pc:PwC l2 tif) (pe:PwE l2 te) (m:List (Option Nat)) (hm:Tru (pg.tg.all λi=>m[i]?==some none)) (hl:Tru (m[l2]?==some (some l))):PwE l (lc3 wi g tif te m):=
 ⟨qhr (l:=l) pi.w (lcW pg.f pc.w pe.w) m,pi.fv++(m.filterMap id).filter (· != l),true,λh k=>pi.mono h λds n1 ⟨h1,h⟩=>⟨h1,ZF pg pc pe h λfs n2 ⟨h2,h⟩=>⟨h2,k _ _ h⟩⟩,λ{D τ ρ G a n q Q} h hw k=>by
  have hl':m[l2]?=some (some l):=by simpa using hl.h
  refine pi.ok h.fst hw λitems stay ds G1 n1 ⟨h1,hw1⟩ E1 L1 D1 hs _=>?_;have hv:YY (m.filterMap id) D G τ ρ:=λi hi d hd=>by
   by_cases e:i=l
   ·subst e;rw [h.ul] at hd;cases hd
   ·exact h.snd.v i (List.mem_filter.mpr ⟨hi,by simpa using e⟩) d hd
  have va:=(VA.cap (m:=m) hv).ext E1 h.da;refine TJ pg pc pe (D:=D) (a:=a) (ρ0:=EK m ρ) (G0:=G1) h.da (λG2 E2=>hs G2 (.inr ((QZ E2 h.da).trans Q5))) (λi hi=>SV ?_) (λi hi e=>?_) (Q:=λfs n=>Q (.list fs) n) (λG2 ys fs n2 hq hlen E2 L2 D2 p hp=>?_) ?_ ds items [] [] _ G1 n1 D1 va ?_ Bk.Ext.refl (ji h.d E1 L1) L1 .nil ?_ ?_
  ·simpa using List.all_eq_true.mp hm.h i hi
  ·subst e;have:=List.all_eq_true.mp hm.h i hi;rw [hl'] at this;simp at this
  ·exact k _ _ _ _ hq ((E1.trans E2).trans (Bk.VY (jZ hp))) (L2.ex (jZ hp)) (ZI (ji (ji h.d E1 L1) E2 L2) hp D2) λ_=>(VN hp D2).backx (E1.trans E2) L2
  ·unfold vw EK;rw [getElem?_map,hl'];simp only [Option.map_some,Option.bind_some,h.ul];rfl
  ·unfold L3.cap;rw [getElem?_map,hl'];simp [h.tl]
  ·refine ZF pg pc pe hw1 λfs m ⟨h2,h3⟩=>⟨?_,by simpa using h3⟩
   rw [sizeLine_eq];simpa using h2
  ·rw [sizeLine_eq];simpa using h1⟩
structure RL (l:Nat) (a:Addr) (z0:Option (Option T)×Nat) (D:Addr->Prop) (G0:Gp) (A:Nat->Option Addr) (τ:St3) (ρ:Rho) (G:Gp) (n:Nat):Prop where
 r:RS D G0 A τ ρ G
 al:A l=some a
 tl:τ[l]?=some (some (.ref a))
 ul:ρ[l]?=some Sl.un
 lf:Lf G a n
 tz:τ[0]?=z0.1/\τ.length=z0.2
section
variable {l:Nat} {a:Addr} {z0:Option (Option T)×Nat} {D:Addr->Prop} {G0 G G':Gp} {A:Nat->Option Addr} {τ:St3} {ρ:Rho} {n n':Nat}
def RL.vl (h:RL l a z0 D G0 A τ ρ G n):vw ρ l=none:=by unfold vw;rw [h.ul];rfl
def RL.up (h:RL l a z0 D G0 A τ ρ G n) (e:Ext a G G') (lf:Lf G' a n'):RL l a z0 D G0 A τ ρ G' n':=by
 have X:Ex (rs (AD D A) G) (rs (AD D A) G'):=QZ e (.inr ⟨l,h.al⟩);refine ⟨⟨λb o x=>e b o (by rintro rfl;rw [h.r.fr l _ h.al] at x;cases x) (h.r.ex b o x),h.r.dm,h.r.fr,λi p hp z=>?_,h.r.inj,h.r.len,λi d x=>let ⟨t,y,z⟩:=h.r.sh i d x;⟨t,y,z.up X⟩,λi ds x=>?_⟩,h.al,h.tl,h.ul,lf,h.tz⟩
 ·by_cases c:p=a
  ·subst c;exact YH lf z
  ·cases g:G p with
   |none=>exact h.r.da i p hp g
   |some o=>rw [e p o c g] at z;cases z
 ·obtain ⟨p,xs,y1,y2,y3,y4⟩:=h.r.ow i ds x;refine ⟨p,xs,y1,y2,e p _ ?_ y3,y4.up X⟩;rintro rfl;have:=h.r.inj i l _ y1 h.al;subst this;rw [h.ul] at x;cases x
def RL.all (h:RL l a z0 D G0 A τ ρ G n) (fv:List Nat):Ln fv l (λb=>D b\/b=a) G τ ρ a n:=by
 refine ⟨λi _ d hd=>?_,λb hb=>?_,.inr rfl,h.tl,h.vl,h.lf⟩
 ·unfold vw at hd;obtain ⟨s,e,hd⟩:=obb hd;have less:Ex (rs (AD D A) G) (rs (λb=>D b\/b=a) G):=jB λb z=>by
   rcases z with z|z
   ·exact .inl z
   ·subst z;exact .inr ⟨l,h.al⟩
  cases s with
  |un=>cases hd
  |sh d'=>
   cases hd;obtain ⟨t,b,c⟩:=h.r.sh i _ e;exact ⟨t,b,c.up less⟩
  |ow ds=>
   cases hd;obtain ⟨p,xs,b,c,g,f⟩:=h.r.ow i _ e;refine ⟨_,c,.lst ?_ (f.up less)⟩;rw [jD]
   ·exact g
   ·rintro (z|z)
    ·exact h.r.nd b z
    ·subst z;have:=h.r.inj i l _ b h.al;subst this;rw [h.ul] at e;cases e
 ·rcases hb with hb|hb
  ·exact h.r.domD b hb
  ·subst hb;exact YH h.lf
def qg6 {m:List Bool} (hm:mkb m l=false) (al:A l=some a):Ad m A l=some a:=by unfold Ad;rw [if_neg (by rw [hm];simp)];exact al
def RL.dem (h:RL l a z0 D G0 A τ ρ G n) {m:List Bool} (hm:mkb m l=false):RL l a z0 D G0 (Ad m A) τ (Pu.dm m ρ) G n:=
 ⟨h.r.dem m,qg6 hm h.al,h.tl,by rw [TM,h.ul];simp [hm],h.lf,h.tz⟩
def RL.ln (h:RL l a z0 D G0 A τ ρ G n) {m:List Bool} {fv:List Nat} (hm:mkb m l=false) (hf:Tru (fv.all (mkb m))):Ln fv l (AD D (Ad m A)) G τ ρ a n:=
 ⟨h.r.viewD hf,(h.r.dem m).dom,.inr ⟨l,qg6 hm h.al⟩,h.tl,h.vl,h.lf⟩
def RL.put (h:RL l a z0 D G0 A τ ρ G n) {i:Nat} (hi:i≠l) (h0:i≠0) {x:T} {d:PyData} (hx:Dq (rs (AD D A) G) x d):RL l a z0 D G0 (Er A i) (τ.set i (some x)) (ρ.set i (.sh d)) G n:=
 ⟨h.r.put i hx,by unfold Er;rw [if_neg (λz=>hi z.symm)];exact h.al,by rw [getElem?_set,if_neg hi];exact h.tl,by rw [getElem?_set,if_neg hi];exact h.ul,h.lf,⟨by rw [getElem?_set,if_neg h0];exact h.tz.1,by rw [List.length_set];exact h.tz.2⟩⟩
def RL.puts:∀ {ts:List (Nat×T)} {bs:List (Nat×PyData)} {A:Nat->Option Addr} {τ:St3} {ρ:Rho},RL l a z0 D G0 A τ ρ G n->Bd (rs (AD D A) G) ts bs->(∀ p∈bs,p.1≠l/\p.1≠0)->∃ A',RL l a z0 D G0 A' (sets τ ts) (ZY ρ bs) G n
 |_,_,A,_,_,h,.nil,_=>⟨A,h⟩
 |_,_,A,_,_,h,.cons x b,hn=>by
  unfold sets ZY;exact RL.puts (h.put (hn _ List.mem_cons_self).1 (hn _ List.mem_cons_self).2 x) (b.up qdZ) (λp hp=>hn p (List.mem_cons_of_mem _ hp))
def RL.putN (h:RL l a z0 D G0 A τ ρ G n) {i:Nat} (hi:i≠l) (h0:i≠0) {x:T} {d:PyData} {ds:List PyData} (hd:d=.list ds) (E:Ext a G G') (lf:Lf G' a n') (hx:Nw (AD D A) G G' x d):∃ A',RL l a z0 D G0 A' (τ.set i (some x)) (ρ.set i (.ow ds)) G' n':=by
 have h1:=h.up E lf;rcases hx with hx|⟨p,xs,ds',rfl,e',gp,gp',hs⟩
 ·rw [hd] at hx;cases hx
 rw [hd] at e';cases e';have np:∀ {j q},A j=some q->q≠p:=λe=>by rintro rfl;exact h.r.da _ _ e gp
 have X1:Ex (rs (AD D A) G) (rs (AD D (λj=>if j=i then some p else A j)) G'):=λb o e=>by
  obtain ⟨n,e⟩:=qE e;rw [jD]
  ·exact E b o (by rintro rfl;exact n (.inr ⟨l,h.al⟩)) e
  ·rintro (z|⟨j,z⟩)
   ·exact n (.inl z)
   ·simp only at z;split at z
    ·cases z;rw [gp] at e;cases e
    ·exact n (.inr ⟨j,z⟩)
 refine ⟨λj=>if j=i then some p else A j,⟨h1.r.ex,h.r.dm,λj q e=>?_,λj q e=>?_,λj k q x y=>?_,by simp [h.r.len],λj e he=>?_,λj es e=>?_⟩,by rw [if_neg (λz=>hi z.symm)];exact h.al,by rw [getElem?_set,if_neg hi];exact h.tl,by rw [getElem?_set,if_neg hi];exact h.ul,lf,⟨by rw [getElem?_set,if_neg h0];exact h.tz.1,by rw [List.length_set];exact h.tz.2⟩⟩
 ·split at e
  ·cases e;cases z:G0 p with
   |none=>rfl
   |some o=>rw [h.r.ex _ _ z] at gp;cases gp
  ·exact h.r.fr j q e
 ·split at e
  ·cases e;rw [gp'];simp
  ·exact h1.r.da j q e
 ·split at x
  ·cases x;split at y
   ·rename_i h1 h2;rw [h1,h2]
   ·exact absurd rfl (np y)
  ·split at y
   ·cases y;exact absurd rfl (np x)
   ·exact h.r.inj j k q x y
 ·rw [getElem?_set] at he ⊢;split at he
  ·split at he<;>cases he
  ·rename_i hj;rw [if_neg hj];obtain ⟨t,b,c⟩:=h.r.sh j _ he;exact ⟨t,b,c.up X1⟩
 ·rw [getElem?_set] at e ⊢;split at e
  ·rename_i hj;subst hj;split at e
   ·rename_i hl;cases e;refine ⟨p,xs,by simp,by rw [if_pos rfl,if_pos (by rw [← h.r.len];exact hl)],gp',hs.up (jB λb z=>?_)⟩;rcases z with z|⟨j,z⟩
    ·exact .inl (.inl z)
    ·simp only at z;split at z
     ·cases z;exact .inr rfl
     ·exact .inl (.inr ⟨j,z⟩)
   ·cases e
  ·rename_i hj;rw [if_neg hj];obtain ⟨q,ys,b,c,g,f⟩:=h1.r.ow j _ e;obtain ⟨q',ys',b',c',g',f'⟩:=h.r.ow j _ e;rw [b] at b';cases b';have:G' q=some (.lst ys'):=E q _ (by rintro rfl;have:=h.r.inj j l _ b h.al;subst this;rw [h.ul] at e;cases e) g';exact ⟨q,ys',by rw [if_neg (λz=>hj z.symm)];exact b,c,this,f'.up X1⟩
def RL.wr (h:RL l a z0 D G0 A τ ρ G n) {i:Nat} {p:Addr} {xs:List T} {ds ds0:List PyData} (ho:ρ[i]?=some (Sl.ow ds0)) (hi:A i=some p) (ht:τ[i]?=some (some (.ref p))) (hs:Dqs (rs (AD D A) G) xs ds):RL l a z0 D G0 A τ (ρ.set i (.ow ds)) (gu G p (.lst xs)) n:=by
 have il:i≠l:=by rintro rfl;rw [h.ul] at ho;cases ho
 have pa:p≠a:=by rintro rfl;exact il (h.r.inj i l _ hi h.al)
 exact ⟨h.r.wr hi ht hs,h.al,h.tl,by rw [getElem?_set,if_neg il];exact h.ul,h.lf.new pa,h.tz⟩
end
abbrev QO:=Ot->Nat->Prop
def SR (l:Nat) (a:Addr) (z0:Option (Option T)×Nat) (D:Addr->Prop) (G0:Gp) (e:Ends3):Ot->Nat->Prop
 |.nx ρ,n=>∀ A τ G,RL l a z0 D G0 A τ ρ G n->e.nx τ G
 |.bk ρ,n=>∀ A τ G,RL l a z0 D G0 A τ ρ G n->e.bk τ G
 |.ct ρ,n=>∀ A τ G,RL l a z0 D G0 A τ ρ G n->e.ct τ G
 |.rt d fr,n=>∀ x G,Ex G0 G->Lf G a n->Dq (rs (λb=>D b\/b=a) G) x d->(fr=true->Nw (λb=>D b\/b=a) G0 G x d)->e.rt x G
structure PwS (l:Nat) (t:TS3) where
 w:Rho->Nat->QO->Prop
 mono:∀ {ρ n} {Q Q':QO},w ρ n Q->(∀ o m,Q o m->Q' o m)->w ρ n Q'
 ok:∀ {a z0 D G0 A τ ρ G n} {e:Ends3} {Q:QO},RL l a z0 D G0 A τ ρ G n->w ρ n Q->(∀ o m,Q o m->SR l a z0 D G0 e o m)->t e τ G
section
variable {l:Nat}
def XH:PwS l qV:=⟨λρ n Q=>Q (.nx ρ) n,λh k=>k _ _ h,λh hw k=>k _ _ hw _ _ _ h⟩
def sqw (b:Rho->Nat->QO->Prop) (Q:QO):QO:=λo n=>match o with|.nx ρ'=>b ρ' n Q|o=>Q o n
def VD {t u:TS3} (x:PwS l t) (y:PwS l u):PwS l (zi t u):=⟨λρ n Q=>x.w ρ n (sqw y.w Q),λh k=>x.mono h λo m h=>by
  cases o with
  |nx ρ=>exact y.mono h k
  |bk ρ=>exact k _ _ h
  |ct ρ=>exact k _ _ h
  |rt d f=>exact k _ _ h,λh hw k=>x.ok h hw λo m h=>by
  cases o with
  |nx ρ=>exact λA τ G r=>y.ok r h k
  |bk ρ=>exact k _ _ h
  |ct ρ=>exact k _ _ h
  |rt d f=>exact k _ _ h⟩
def wIf {c:TT3} {t u:TS3} (pc:PwC l c) (x:PwS l t) (y:PwS l u):PwS l (jI c t u):=⟨λρ n Q=>pc.w ρ n λk n1=>if k then x.w ρ n1 Q else y.w ρ n1 Q,λh k=>pc.mono h λj m h=>by
  cases j with
  |true=>rw [if_pos rfl] at h ⊢;exact x.mono h k
  |false=>exact y.mono h k,λh hw k=>pc.ok (h.all _) hw λj G1 n1 hj E1 L1=>by
  cases j with
  |true=>rw [if_pos rfl] at hj ⊢;exact x.ok (h.up E1 L1) hj k
  |false=>exact y.ok (h.up E1 L1) hj k⟩
def qaK {a:Addr} {z0:Option (Option T)×Nat} {D:Addr->Prop} {G0 G G':Gp} {A:Nat->Option Addr} {τ:St3} {ρ:Rho} {n:Nat} (h:RL l a z0 D G0 A τ ρ G n) (e:Ext a G G'):Ex G0 G':=λb o x=>e b o (by rintro rfl;rw [h.r.fr l _ h.al] at x;cases x) (h.r.ex b o x)
def MT {t:TE3} (x:PwE l t):PwS l (zw t):=⟨λρ n Q=>x.w ρ n λd n1=>Q (.rt d x.nw) n1,λh k=>x.mono h λd m h=>k _ _ h,λh hw k=>x.ok (h.all _) hw λy d G1 n1 hq E1 L1 D1 N1=>k _ _ hq y G1 (qaK h E1) L1 D1 λz=>(N1 z).back h.r.ex⟩
def WE {t:TE3} (x:PwE l t) (i:Nat) (m:List Bool) (hm:Tru (x.fv.all (mkb m))) (hl:Tru (!mkb m l&&(i != l&&i != 0))):PwS l (jo t (gn3 i)):=⟨λρ n Q=>x.w ρ n λd n1=>Q (.nx (U1 m x.nw i d ρ)) n1,λh k=>x.mono h λd m h=>k _ _ h,λ{a z0 D G0 A τ ρ G n e Q} h hw k=>by
 have hl':mkb m l=false/\i≠l/\i≠0:=by simpa using hl.h
 refine x.ok (h.ln hl'.1 hm) hw λy d G1 n1 hq E1 L1 D1 N1=>?_;have k:=k _ _ hq;unfold U1 at k;show e.nx (τ.set i (some y)) G1;split at k
 ·rename_i hs;exact k _ _ _ ((h.up E1 L1).put hl'.2.1 hl'.2.2 (VX D1 hs))
 ·split at k
  ·rename_i hn;have N:=N1 hn;rcases id N with h2|⟨p,xs,ds,h1,h2,_⟩
   ·subst h2;rename_i hs;exact absurd rfl hs
   subst h2;obtain ⟨A',r⟩:=(h.dem hl'.1).putN hl'.2.1 hl'.2.2 rfl E1 L1 N;exact k _ _ _ r
  ·exact k _ _ _ (((h.dem hl'.1).up E1 L1).put hl'.2.1 hl'.2.2 D1)⟩
def qfj {t:TA3} (x:PwA l t) (i j:Nat) (m:List Bool) (hm:Tru (x.fv.all (mkb m))) (hl:Tru (!mkb m l&&((i != l&&i != 0)&&(j != l&&j != 0)))):PwS l (CO i j t):=⟨λρ n Q=>x.w ρ n λds n1=>∃ o,qeS i j m ds ρ=some o/\Q o n1,λh k=>x.mono h λd m ⟨bs,h1,h2⟩=>⟨bs,h1,k _ _ h2⟩,λ{a z0 D G0 A τ ρ G n e Q} h hw k=>by
 have hl':mkb m l=false/\(i≠l/\i≠0)/\j≠l/\j≠0:=by simpa using hl.h
 refine x.ok (h.ln hl'.1 hm) hw λy d G1 n1 ⟨o,e2,hq⟩ hlen E1 L1 D1=>?_;unfold qeS at e2;split at e2
 ·cases D1 with
  |cons x1 b=>cases b with
   |cons x2 c=>
    cases c;split at e2
    ·rename_i hs;cases e2;rw [Bool.and_eq_true] at hs;exact k _ _ hq _ _ _ (((h.up E1 L1).put hl'.2.1.1 hl'.2.1.2 (VX x1 hs.1)).put hl'.2.2.1 hl'.2.2.2 (VX x2 hs.2))
    ·cases e2;exact k _ _ hq _ _ _ ((((h.dem hl'.1).up E1 L1).put hl'.2.1.1 hl'.2.1.2 x1).put hl'.2.2.1 hl'.2.2.2 (x2.up qdZ))
 ·cases e2⟩
def RL.evalS {a:Addr} {z0:Option (Option T)×Nat} {D:Addr->Prop} {G0 G:Gp} {A:Nat->Option Addr} {τ:St3} {ρ:Rho} {n:Nat} (h:RL l a z0 D G0 A τ ρ G n) {t:TE3} (x:PwE l t) (m:List Bool) (hm:Tru (x.fv.all (mkb m))) (hl:mkb m l=false) {Q:QD} (hw:x.w ρ n Q) (q:Q3) (k:∀ y d G' n' A1,Q d n'->RL l a z0 D G0 A1 τ (dmS m d ρ) G' n'->Ext a G G'->Dq (rs (AD D A1) G') y d->q y G'):t τ G q:=by
 refine x.ok (h.ln hl hm) hw λy d G1 n1 hq E1 L1 D1 _=>?_;by_cases hs:T2 d=true
 ·exact k y d G1 n1 A hq (by unfold dmS;rw [if_pos hs];exact h.up E1 L1) E1 (VX D1 hs)
 ·exact k y d G1 n1 _ hq (by unfold dmS;rw [if_neg hs];exact (h.dem hl).up E1 L1) E1 D1
def T8 (gf:PyData->Option (List (Nat×PyData))) (bw:Rho->Nat->QO->Prop):List PyData->Rho->Nat->QO->Prop
 |[],ρ,n,Q=>Q (.nx ρ) n
 |d::r,ρ,n,Q=>∃ bs,gf d=some bs/\bw (ZY ρ bs) n λo n1=>match o with
  |.nx ρ'=>T8 gf bw r ρ' n1 Q
  |.ct ρ'=>T8 gf bw r ρ' n1 Q
  |.bk ρ'=>Q (.nx ρ') n1
  |.rt d b=>Q (.rt d b) n1
def J5 {g:TG3} {tb:TS3} (pg:PuG g) (pb:PwS l tb):∀ {ds:List PyData} {ρ:Rho} {n:Nat} {Q Q':QO},T8 pg.f pb.w ds ρ n Q->(∀ o m,Q o m->Q' o m)->T8 pg.f pb.w ds ρ n Q'
 |[],_,_,_,_,h,k=>k _ _ h
 |d::r,_,_,_,_,⟨bs,e,h⟩,k=>⟨bs,e,pb.mono h λo m h=>by
   cases o with
   |nx ρ=>exact J5 pg pb h k
   |ct ρ=>exact J5 pg pb h k
   |bk ρ=>exact k _ _ h
   |rt d b=>exact k _ _ h⟩
def V8 {stay:Gp->Prop} {g:TG3} {tb:TS3} {e:Ends3} (pg:PuG g) (pb:PwS l tb) {a:Addr} {z0:Option (Option T)×Nat} {D:Addr->Prop} {G0:Gp} {Q:QO} (hl:∀ i∈pg.tg,i≠l/\i≠0) (hs:∀ A τ ρ G n,RL l a z0 D G0 A τ ρ G n->stay G) (k:∀ o m,Q o m->SR l a z0 D G0 e o m) :
  ∀ (ds:List PyData) (items:List T),(∀ A τ ρ G n,RL l a z0 D G0 A τ ρ G n->Dqs (rs (AD D A) G) items ds)->∀ A τ ρ G n,RL l a z0 D G0 A τ ρ G n->T8 pg.f pb.w ds ρ n Q->V1 stay g tb e items τ G
 |[],items,hi,A,τ,ρ,G,n,h,hw=>by
  have:=hi _ _ _ _ _ h;cases this;exact ⟨hs _ _ _ _ _ h,k _ _ hw _ _ _ h⟩
 |d::ds,items,hi,A,τ,ρ,G,n,h,⟨bs,e1,hw⟩=>by
  have hh:=hi _ _ _ _ _ h;cases hh with
  |cons hx hr=>
   rename_i x items;obtain ⟨ts,bd,kg⟩:=pg.ok hx e1;refine ⟨hs _ _ _ _ _ h,kg _ _ _ ?_⟩;obtain ⟨A',h'⟩:=h.puts bd λp hp=>hl _ (pg.at' e1 p hp);have hi':∀ A τ ρ G n,RL l a z0 D G0 A τ ρ G n->Dqs (rs (AD D A) G) items ds:=λA τ ρ G n h=>by
    have:=hi _ _ _ _ _ h;cases this with
    |cons a b=>exact b
   refine pb.ok h' hw λo m hq=>?_;cases o with
   |nx ρ'=>exact λA2 τ2 G2 h2=>V8 pg pb hl hs k ds items hi' _ _ _ _ _ h2 hq
   |ct ρ'=>exact λA2 τ2 G2 h2=>V8 pg pb hl hs k ds items hi' _ _ _ _ _ h2 hq
   |bk ρ'=>exact k _ _ hq
   |rt d fr=>exact k _ _ hq
def RL.base {a:Addr} {z0:Option (Option T)×Nat} {D:Addr->Prop} {G0 Gb G:Gp} {A:Nat->Option Addr} {τ:St3} {ρ:Rho} {n:Nat} (h:RL l a z0 D Gb A τ ρ G n) (e:Ex G0 Gb) (hd:Dom D G0):RL l a z0 D G0 A τ ρ G n:=⟨h.r.base e hd,h.al,h.tl,h.ul,h.lf,h.tz⟩
def SR.base {a:Addr} {z0:Option (Option T)×Nat} {D:Addr->Prop} {G0 Gb:Gp} {e:Ends3} {o:Ot} {n:Nat} (h:SR l a z0 D G0 e o n) (x:Ex G0 Gb) (hd:Dom D G0):SR l a z0 D Gb e o n:=by
 cases o with
 |nx ρ=>exact λA τ G r=>h A τ G (r.base x hd)
 |bk ρ=>exact λA τ G r=>h A τ G (r.base x hd)
 |ct ρ=>exact λA τ G r=>h A τ G (r.base x hd)
 |rt d fr=>exact λy G p q r z=>h y G (x.trans p) q r λw=>(z w).back x
def qgJ {wi:TI3} {g:TG3} {tb:TS3} (pi:PwI l wi) (pg:PuG g) (pb:PwS l tb) (m:List Bool) (hm:Tru (pi.fv.all (mkb m))) (hl:Tru (!mkb m l&&pg.tg.all (λi=>i != l&&i != 0))):PwS l (CM wi g tb):=⟨λρ n Q=>pi.w ρ n λds n1=>T8 pg.f pb.w ds (if pi.nm then ρ else dm m ρ) n1 Q,λh k=>pi.mono h λd m h=>J5 pg pb h k,λ{a z0 D G0 A τ ρ G n e Q} h hw k=>by
 have hl':mkb m l=false/\∀ i∈pg.tg,i≠l/\i≠0:=by simpa using hl.h
 refine pi.ok (h.ln hl'.1 hm) hw λitems stay ds G1 n1 hq E1 L1 D1 hs hnm=>?_;cases hb:pi.nm with
 |true=>
  rw [hb,if_pos rfl] at hq;obtain ⟨ns,rfl⟩:=hnm hb;have:=D1.ints;subst this;exact V8 pg pb hl'.2 (λ_ _ _ _ _ _=>hs _ (.inl hb)) k _ _ (λA τ ρ G _ _=>Dqs.ofInts _) _ _ _ _ _ (h.up E1 L1) hq
 |false=>
  rw [hb,if_neg Bool.false_ne_true] at hq;have h1:=(h.dem hl'.1).up E1 L1;have b1:Ex G0 (rs (λb=>∃ i,Ad m A i=some b) G1):=λb o e=>by
   rw [jD]
   ·exact h1.r.ex _ _ e
   ·rintro ⟨i,z⟩;rw [h1.r.fr i _ z] at e;cases e
  have h2:RL l a z0 D (rs (λb=>∃ i,Ad m A i=some b) G1) (Ad m A) τ (dm m ρ) G1 n1:=⟨⟨Q5,h.r.dm.up b1,λi p z=>by unfold rs;exact zd ⟨i,z⟩,h1.r.da,h1.r.inj,h1.r.len,h1.r.sh,h1.r.ow⟩,h1.al,h1.tl,h1.ul,h1.lf,h1.tz⟩
  have X:∀ A2 τ2 ρ2 G2,RS D (rs (λb=>∃ i,Ad m A i=some b) G1) A2 τ2 ρ2 G2->Ex (rs (AD D (Ad m A)) G1) (rs (AD D A2) G2):=λA2 τ2 ρ2 G2 r b o e=>by
   obtain ⟨n1,e⟩:=qE e;have eb:rs (λb=>∃ i,Ad m A i=some b) G1 b=some o:=by rw [jD (λz=>n1 (.inr z))];exact e
   rw [jD]
   ·exact r.ex _ _ eb
   ·rintro (z|⟨i,z⟩)
    ·exact n1 (.inl z)
    ·rw [r.fr i _ z] at eb;cases eb
  exact V8 pg pb hl'.2 (λA2 τ2 ρ2 G2 n2 r=>hs _ (.inr ((X _ _ _ _ r.r).trans Q5))) (λo m hq=>(k o m hq).base b1 h.r.dm) _ _ (λA2 τ2 ρ2 G2 n2 r=>D1.up (X _ _ _ _ r.r)) _ _ _ _ _ h2 hq⟩
end
def DSp (W:List PyData->Nat->QD->Prop) (fr:Bool):Sp3:=λts G q=>∃ (D:Addr->Prop) (a:Addr) (n:Nat) (ts':List T) (ds:List PyData) (Q:QD),ts=.ref a::ts'/\Lf G a n/\D a/\Dom D G/\Dqs (rs D G) ts' ds/\W ds n Q/\∀ x d G' n',Q d n'->Ext a G G'->Lf G' a n'->Dq (rs D G') x d->(fr=true->Nw D G G' x d)->q x G'
structure Wm where
 W:List PyData->Nat->QD->Prop
 mono:∀ {ds n} {Q Q':QD},W ds n Q->(∀ d m,Q d m->Q' d m)->W ds n Q'
def dSp (w:Wm) (fr:Bool):DrD (DSp w.W fr):=⟨w.W,fr,w.mono,λ{D G a n ts ds q Q} lf da hd hs hw k=>⟨D,a,n,ts,ds,Q,rfl,lf,da,hd,hs,hw,k⟩⟩
def qeU (fr:Bool) (Q:QD):QO:=λo n=>match o with
 |.rt d b=>(fr=true->b=true)/\∃ m,n<=m/\Q d m
 |.nx _=>fr=false/\∃ m,n<=m/\Q .none m
 |_=>False
def qgp {t:TS3} (b:PwS 0 t) (k N:Nat) (fr:Bool):Wm:=⟨λds n Q=>ds.length+1=k/\b.w (.un::(ds.map Sl.sh++List.replicate (N-(ds.length+1)) .un)) n (qeU fr Q),λ⟨h1,h2⟩ k=>⟨h1,b.mono h2 λo m h=>by
 cases o with
 |rt d f=>obtain ⟨h1,m,h2,h3⟩:=h;exact ⟨h1,m,h2,k _ _ h3⟩
 |nx ρ=>obtain ⟨h1,m,h2,h3⟩:=h;exact ⟨h1,m,h2,k _ _ h3⟩
 |bk ρ=>exact h
 |ct ρ=>exact h⟩⟩
def S7 {t:TS3} (b:PwS 0 t) (N:List Str) (k:Nat) (fr:Bool):∀ ts G q,DSp (qgp b k N.length fr).W fr ts G q->ts.length=k/\t { nx:=λ_ G'=>q .non G',rt:=q } (qx N ts) G:=by
 rintro ts G q ⟨D,a,n,ts',ds,Q,rfl,lf,da,hd,hs,⟨hk,hw⟩,h⟩;refine ⟨by simp [hs.length];omega,?_⟩;have DD:∀ b,(D b/\b≠a)\/b=a↔D b:=λb=>by
  by_cases e:b=a
  ·subst e;simp [da]
  ·simp [e]
 have rr:∀ H,rs (λb=>(D b/\b≠a)\/b=a) H=rs D H:=λH=>by
  have:(λb=>(D b/\b≠a)\/b=a)=D:=funext λb=>propext (DD b);rw [this]
 have ad:AD (λb=>D b/\b≠a) (λi=>if i=0 then some a else none)=D:=funext λb=>propext ⟨(λz=>by
   rcases z with z|⟨i,z⟩
   ·exact z.1
   ·simp only at z;split at z
    ·cases z;exact da
    ·cases z),(λz=>by
   by_cases e:b=a
   ·subst e;exact .inr ⟨0,rfl⟩
   ·exact .inl ⟨z,e⟩)⟩
 have ga:G a≠none:=YH lf;have r:RL 0 a (some (some (.ref a)),(qx N (.ref a::ts')).length) (λb=>D b/\b≠a) (rs (λb=>b=a) G) (λi=>if i=0 then some a else none) (qx N (.ref a::ts')) (.un::(ds.map Sl.sh++List.replicate (N.length-(ds.length+1)) .un)) G n:=by
  refine ⟨⟨Q5,λb hb=>by rw [jD (D:=λb=>b=a) hb.2];exact hd b hb.1,λi p e=>?_,λi p e=>?_,λi j p e e'=>?_,by simp [qx,hs.length],λi d' e=>?_,λi es e=>?_⟩,rfl,by simp [qx],rfl,lf,⟨by simp [qx],rfl⟩⟩
  ·split at e
   ·cases e;unfold rs;exact zd rfl
   ·cases e
  ·split at e
   ·cases e;exact ga
   ·cases e
  ·split at e
   ·split at e'
    ·rename_i h1 h2;rw [h1,h2]
    ·cases e'
   ·cases e
  ·rw [ad];cases i with
   |zero=>cases e
   |succ i=>
    rw [getElem?_cons_succ] at e;by_cases hi:i<ds.length
    ·rw [List.getElem?_append_left (by simpa using hi),getElem?_map] at e;obtain ⟨d2,e3,e4⟩:=Option.map_eq_some_iff.mp e;cases e4;obtain ⟨x,e5,hx⟩:=hs.get e3;refine ⟨x,?_,hx⟩;unfold qx;rw [List.getElem?_append_left (by simp [hs.length];exact hi),getElem?_map,getElem?_cons_succ,e5];rfl
    ·rw [List.getElem?_append_right (by simpa using hi),List.getElem?_replicate] at e;split at e<;>cases e
  ·cases i with
   |zero=>cases e
   |succ i=>
    rw [getElem?_cons_succ] at e;by_cases hi:i<ds.length
    ·rw [List.getElem?_append_left (by simpa using hi),getElem?_map] at e;obtain ⟨d2,e3,e4⟩:=Option.map_eq_some_iff.mp e;cases e4
    ·rw [List.getElem?_append_right (by simpa using hi),List.getElem?_replicate] at e;split at e<;>cases e
 have xe:∀ {G'},Ex (rs (λb=>b=a) G) G'->Ext a G G':=λe b o n x=>e b o (by rw [jD (D:=λb=>b=a) n];exact x);refine b.ok r hw λo m hq=>?_;cases o with
 |rt d f=>
  intro x G' E L Dx0 N;have Dx:=Dx0;rw [rr] at Dx;obtain ⟨hq1,m2,hm,hq2⟩:=hq;refine h x d G' m2 hq2 (xe E) (L.mono (by omega)) Dx λz=>?_;rcases N (hq1 z) with h2|⟨p,xs,ds',h1,h2,c,g,f'⟩
  ·exact .inl h2
  have np:p≠a:=by
   rintro rfl;rw [h1] at Dx0;cases Dx0 with
   |lst g0 _=>exact (qE g0).1 (.inr rfl)
  refine .inr ⟨p,xs,ds',h1,h2,by rw [jD (D:=λb=>b=a) np] at c;exact c,g,f'.up (jB λb z=>?_)⟩;rcases z with z|z
  ·exact .inl ((DD b).mpr z)
  ·exact .inr z
 |nx ρ=>
  obtain ⟨hq1,m2,hm,hq2⟩:=hq;exact λA τ G' r'=>h .non .none G' m2 hq2 (xe r'.r.ex) (r'.lf.mono (by omega)) .non λz=>by rw [hq1] at z;cases z
 |bk ρ=>exact hq.elim
 |ct ρ=>exact hq.elim
end Pu
namespace Pu
open PySem L2 L3
open Bk (Lf Ext Wk)
def okW:QO:=λo _=>match o with|.nx _=>True|.ct _=>True|_=>False
def qg9 (K:Int):TE3:=o3 j3 (c3 (.int 1)) (cb3 qc7 (qc (c3 (.int K)) (qc (cb3 YT (qc (v3 0) qp)) qp)))
def qdL {i:Nat} {τ:St3} {t:T} {G:Gp} {q:Q3} (h:τ[i]?=some (some t)):v3 i τ G q=q t G:=by unfold v3;rw [h]
def qgE (K:Int) (R:TS3):TS3:=zi (CM (VC (qc (qg9 K) qp)) (gn3 1) (zi (jo (cb3 Bk.jJ (qc (v3 0) (qc (v3 1) qp))) (gn3 2)) R)) (zw (c3 (.bl true)))
def LJ {R:TS3} (b:PwS 2 R) (N:List Str) (K:Int) (M:Nat) (hK:0<=K/\K<=60) (hN:N.length=M+3) (h:∀ k:Nat,k<=60->b.w ([.un,.sh (.int k),.un]++List.replicate M .un) 0 okW):∀ ts G q,VU ts G q->ts.length=1/\qgE K R { nx:=λ_ G'=>q .non G',rt:=q } (qx N ts) G:=by
 rintro ts G q ⟨a,ns,rfl,hG,hl,hq⟩;refine ⟨rfl,?_⟩;have s0:(qx N [T.ref a])[0]?=some (some (.ref a)):=by simp [qx]
 have gl:getL G a=some (ns.map T.int):=by unfold getL;rw [hG]
 simp only [qgE,zi,CM,VC,qg9,qc,qp,o3,c3,cb3,v3,s0,YT,gl,qc7,j3,length_map];have cnt:((1+(if ((ns.length:Nat):Int)<K then ((ns.length:Nat):Int) else K)).toNat)<=61:=by split<;>omega
 refine ⟨⟨by split<;>omega,by split<;>omega⟩,?_⟩;refine EJ _ (λ_ τ G'=>G' a=some (.frz (ns.map T.int))/\τ[0]?=some (some (.ref a))/\τ.length=M+3) ⟨hG,s0,by simp [qx,hN]⟩ (λ_ _ _ _ _=>True.intro) ?_ ?_
 ·rintro i z τ G' nx hz ⟨gA,t0,tl⟩ hn;obtain ⟨hi,rfl⟩:=SO hz;have hi2:i<=60:=by omega
  have t1:(τ.set 1 (some (T.int (0+(i:Int)))))[0]?=some (some (.ref a)):=by rw [getElem?_set,if_neg (by omega)];exact t0
  have t2:(τ.set 1 (some (T.int (0+(i:Int)))))[1]?=some (some (T.int (0+(i:Int)))):=by rw [getElem?_set,if_pos rfl,if_pos (by omega)]
  show v3 0 (τ.set 1 (some (T.int (0+(i:Int))))) G' (λx G1=>v3 1 (τ.set 1 (some (T.int (0+(i:Int))))) G1 λy G2=>Bk.jJ [x,y] G2 λz G3=>R _ ((τ.set 1 (some (T.int (0+(i:Int))))).set 2 (some z)) G3);rw [qdL t1,qdL t2];refine ⟨a,_,ns,rfl,gA,hl,by omega,by omega,λp o c hp ho=>?_⟩;have pa:a≠p:=by rintro rfl;rw [gA] at hp;cases hp
  have r:RL 2 p (some (some (.ref a)),M+3) (λ_=>False) G' (λj=>if j=2 then some p else none) ((τ.set 1 (some (T.int (0+(i:Int))))).set 2 (some (.ref p))) ([.un,.sh (.int i),.un]++List.replicate M .un) (gu G' p (.lst [.int o,.int c,.int 0])) 0:=by
   refine ⟨⟨jZ hp,λb z=>z.elim,λj q e=>?_,λj q e=>?_,λj k q e e'=>?_,by simp [tl],λj d e=>?_,λj ds e=>?_⟩,rfl,by rw [getElem?_set,if_pos rfl,if_pos (by simp;omega)],rfl,⟨o,c,0,qL,ho,by omega,by omega⟩,⟨by rw [getElem?_set,if_neg (by omega)];exact t1,by simp [tl]⟩⟩
   ·split at e
    ·cases e;exact hp
    ·cases e
   ·split at e
    ·cases e;rw [qL];simp
    ·cases e
   ·split at e
    ·split at e'
     ·rename_i h1 h2;rw [h1,h2]
     ·cases e'
    ·cases e
   ·match j,e with
    |0,e=>cases e
    |1,e=>
     cases e;refine ⟨.int (0+(i:Int)),by rw [getElem?_set,if_neg (by omega)];exact t2,?_⟩;rw [Int.zero_add];exact .int _
    |2,e=>cases e
    |j+3,e=>
     simp only [cons_append,List.nil_append,getElem?_cons_succ,List.getElem?_replicate] at e;split at e<;>cases e
   ·match j,e with
    |0,e=>cases e
    |1,e=>cases e
    |2,e=>cases e
    |j+3,e=>
     simp only [cons_append,List.nil_append,getElem?_cons_succ,List.getElem?_replicate] at e;split at e<;>cases e
  refine b.ok r (h i hi2) λo' m ho'=>?_;cases o' with
  |nx ρ'=>exact λA τ' G2 r2=>hn _ _ ⟨r2.r.ex _ _ gA,r2.tz.1,r2.tz.2⟩
  |ct ρ'=>exact λA τ' G2 r2=>hn _ _ ⟨r2.r.ex _ _ gA,r2.tz.1,r2.tz.2⟩
  |bk ρ'=>exact ho'.elim
  |rt d f=>exact ho'.elim
 ·rintro τ G' ⟨gA,t0,tl⟩;exact hq G'
def qaU {G:Gp} {ts:List T} (h:Dqs G ts []):ts=[]:=by cases h;rfl
def qgy {G:Gp} {ts:List T} {i:Int} (h:Dqs G ts [.int i]):ts=[.int i]:=by
 cases h with
 |cons a b=>cases b;cases a;rfl
def lfc {G:Gp} {a:Addr} {n c:Nat} (h:Lf G a ((n:Int)+(c:Int))):Lf G a ((n+c:Nat):Int):=by rw [Int.natCast_add];exact h
def UD:DrD Bk.qP:=⟨λds n Q=>∃ m:Int,ds=[.int m]/\(1<=m/\m<1073741824)/\n<1000000000/\∀ d:Int,0<=d->d<m->Q (.int d) (n+1),false,
 λ⟨m,h1,h2,h3,h4⟩ k=>⟨m,h1,h2,h3,λd x y=>k _ _ (h4 d x y)⟩,λ{D G a n ts ds q Q} lf da hd hs ⟨m,h1,h2,h3,h4⟩ k=>by
 subst h1;have:=qgy hs;subst this;exact ⟨a,n,m,rfl,h2.1,h2.2,lf,by omega,λd G' x y L E=>k _ _ G' (n+1) (h4 d x y) E (lfc (c:=1) L) (.int d) (λz=>by cases z)⟩⟩
def qdX {l:Nat} {t:TE3} {b:PuE t}:(eOf (l:=l) b).w=λρ n Q=>∃ d,b.f ρ=some d/\Q d n:=id rfl
def qcH {l:Nat} {t:TT3} {b:PuC t}:(cOf (l:=l) b).w=λρ n Q=>∃ d,b.f ρ=some d/\Q d n:=id rfl
def qee {l:Nat} {t:TA3} {b:PuA t}:(aOf (l:=l) b).w=λρ n Q=>∃ d,b.f ρ=some d/\Q d n:=id rfl
def qdD {l:Nat} {t:TI3} {b:PuI t}:(iOf (l:=l) b).w=λρ n Q=>∃ d,b.f ρ=some d/\Q d n:=id rfl
def qgW {l:Nat} {r:R3} {ta tb:TE3} {R:OpD r} {a:PwE l ta} {b:PwE l tb}:(eO R a b).w=λρ n Q=>a.w ρ n λx n1=>b.w ρ n1 λy n2=>∃ v,R.f x y=some v/\Q v n2:=id rfl
def TN {l:Nat} {ta:TE3} {tr:TA3} {a:PwE l ta} {r:PwA l tr}:(SN a r).w=λρ n Q=>a.w ρ n λx n1=>r.w ρ n1 λxs n2=>Q (x::xs) n2:=id rfl
def qb6 {l:Nat} {r:List T->Gp->Q3->Prop} {t:TA3} {R:DrD r} {b:PwA l t}:(eDr R b).w=λρ n Q=>b.w ρ n λxs n1=>R.W xs n1 Q:=id rfl
def MP {l:Nat} {t:TI3} {b:PuI t}:(iOf (l:=l) b).nm=b.nm:=id rfl
def MZ {l:Nat} {t:TE3} {b:PuE t}:(eOf (l:=l) b).nw=b.nw:=id rfl
def qeF {l:Nat} {r:R3} {ta tb:TE3} {R:OpD r} {a:PwE l ta} {b:PwE l tb}:(eO R a b).nw=R.nw:=id rfl
def L7 {l:Nat} {r:List T->Gp->Q3->Prop} {t:TA3} {R:DrD r} {b:PwA l t}:(eDr R b).nw=R.nw:=id rfl
def qdy {l:Nat} {wi:TI3} {g:TG3} {tif:TT3} {te:TE3} {l2:Nat} {pi:PwI l wi} {pg:PuG g} {pc:PwC l2 tif} {pe:PwE l2 te} {m:List (Option Nat)} {hm:Tru (pg.tg.all λi=>m[i]?==some none)} {hl:Tru (m[l2]?==some (some l))}:(eLc l2 pi pg pc pe m hm hl).w=λρ n Q=>pi.w ρ n λds n1=>ds.length<=16777216/\lcW pg.f pc.w pe.w (EK m ρ) ds n1 λfs n2=>fs.length<=16777216/\Q (.list fs) n2:=id rfl
def RE {l:Nat}:(XH (l:=l)).w=λρ n Q=>Q (.nx ρ) n:=id rfl
def MW {l:Nat} {t u:TS3} {x:PwS l t} {y:PwS l u}:(VD x y).w=λρ n Q=>x.w ρ n (sqw y.w Q):=id rfl
def NW {b:Rho->Nat->QO->Prop} {Q:QO} {ρ:Rho} {n:Nat}:sqw b Q (.nx ρ) n=b ρ n Q:=id rfl
def NC {b:Rho->Nat->QO->Prop} {Q:QO} {d:PyData} {f:Bool} {n:Nat}:sqw b Q (.rt d f) n=Q (.rt d f) n:=id rfl
def qdf {l:Nat} {c:TT3} {t u:TS3} {pc:PwC l c} {x:PwS l t} {y:PwS l u}:(wIf pc x y).w=λρ n Q=>pc.w ρ n λk n1=>if k then x.w ρ n1 Q else y.w ρ n1 Q:=id rfl
def ML {l:Nat} {t:TE3} {x:PwE l t}:(MT x).w=λρ n Q=>x.w ρ n λd n1=>Q (.rt d x.nw) n1:=id rfl
def qaj {l:Nat} {t:TE3} {x:PwE l t} {i:Nat} {m:List Bool} {hm:Tru (x.fv.all (mkb m))} {hl:Tru (!mkb m l&&(i != l&&i != 0))}:(WE x i m hm hl).w=λρ n Q=>x.w ρ n λd n1=>Q (.nx (U1 m x.nw i d ρ)) n1:=id rfl
def qaa {l:Nat} {t:TA3} {x:PwA l t} {i j:Nat} {m:List Bool} {hm:Tru (x.fv.all (mkb m))} {hl:Tru (!mkb m l&&((i != l&&i != 0)&&(j != l&&j != 0)))}:(qfj x i j m hm hl).w=λρ n Q=>x.w ρ n λds n1=>∃ o,qeS i j m ds ρ=some o/\Q o n1:=id rfl
def NX {l:Nat} {wi:TI3} {g:TG3} {tb:TS3} {pi:PwI l wi} {pg:PuG g} {pb:PwS l tb} {m:List Bool} {hm:Tru (pi.fv.all (mkb m))} {hl:Tru (!mkb m l&&pg.tg.all (λi=>i != l&&i != 0))}:(qgJ pi pg pb m hm hl).w=λρ n Q=>pi.w ρ n λds n1=>T8 pg.f pb.w ds (if pi.nm then ρ else dm m ρ) n1 Q:=id rfl
def RJ {ds:List PyData} {n:Nat} {Q:QD}:UD.W ds n Q=(∃ m:Int,ds=[.int m]/\(1<=m/\m<1073741824)/\n<1000000000/\∀ d:Int,0<=d->d<m->Q (.int d) (n+1)):=id rfl
def qc4 {w:Wm} {fr:Bool}:(dSp w fr).W=w.W:=id rfl
def qak {w:Wm} {fr:Bool}:(dSp w fr).nw=fr:=id rfl
def RU {Q:QD} {d:PyData} {b:Bool} {n:Nat}:qeU false Q (.rt d b) n=∃ m,n<=m/\Q d m:=propext ⟨λh=>h.2,λh=>⟨λz=>(Bool.false_ne_true z).elim,h⟩⟩
def M3 {ρ:Rho} {n:Nat}:okW (.nx ρ) n=True:=id rfl
def qcQ {α:Type} {v:α} {P:α->Prop}:(∃ d,some v=some d/\P d)=P v:=propext ⟨λ⟨d,h1,h2⟩=>by cases h1;exact h2,λh=>⟨v,rfl,h⟩⟩
def NY {v:Int} {P:Int->Prop}:(∃ m:Int,[PyData.int v]=[.int m]/\P m)=P v:=propext ⟨λ⟨d,h1,h2⟩=>by cases h1;exact h2,λh=>⟨v,rfl,h⟩⟩
def ME {m:List Bool} {nw:Bool} {i:Nat} {w:Wk} {ρ:Rho}:U1 m nw i (Pv.Wk.d w) ρ=(dm m ρ).set i (.sh (Pv.Wk.d w)):=by cases w<;>exact qaF
def j4 {l:Nat} {t u:TS3} {x:PwS l t} {y:PwS l u} {ρ:Rho} {n:Nat} {Q:QO} (h:∀ Y:Rho->Nat->QO->Prop,Y=y.w->x.w ρ n (sqw Y Q)):(VD x y).w ρ n Q:=h _ rfl
structure Mn (bw:Rho->Nat->QO->Prop):Prop where
 h:∀ ρ n (Q Q':QO),bw ρ n Q->(∀ o m,Q o m->Q' o m)->bw ρ n Q'
def PwS.mn {l:Nat} {t:TS3} (b:PwS l t):Mn b.w:=⟨λ_ _ _ _ h k=>b.mono h k⟩
structure MnE (bw:Rho->Nat->QD->Prop):Prop where
 h:∀ ρ n (Q Q':QD),bw ρ n Q->(∀ o m,Q o m->Q' o m)->bw ρ n Q'
def PwE.mn {l:Nat} {t:TE3} (b:PwE l t):MnE b.w:=⟨λ_ _ _ _ h k=>b.mono h k⟩
structure MnC (bw:Rho->Nat->(Bool->Nat->Prop)->Prop):Prop where
 h:∀ ρ n (Q Q':Bool->Nat->Prop),bw ρ n Q->(∀ o m,Q o m->Q' o m)->bw ρ n Q'
def mnT:MnC (λρ n Q=>Q true n):=⟨λ_ _ _ _ h k=>k _ _ h⟩
section
variable {l:Nat} {g:TG3} {tb:TS3}
def K0 {gf:PyData->Option (List (Nat×PyData))} {bw:Rho->Nat->QO->Prop} {α:Type} {f:α->PyData} (xs:List α) (mono:Mn bw) (I:Nat->Rho->Nat->Prop) {ρ:Rho} {n:Nat} {Q:QO} (h0:I 0 ρ n)
  (hs:∀ i x ρ n,xs[i]?=some x->I i ρ n->∃ bs,gf (f x)=some bs/\bw (ZY ρ bs) n λo m=>match o with|.nx ρ'=>I (i+1) ρ' m|.ct ρ'=>I (i+1) ρ' m|.bk ρ'=>Q (.nx ρ') m|.rt d b=>Q (.rt d b) m)
  (k:∀ ρ n,I xs.length ρ n->Q (.nx ρ) n):T8 gf bw (xs.map f) ρ n Q:=by
 have key:∀ (r:List α) (i:Nat) (ρ:Rho) (n:Nat),xs.drop i=r->i<=xs.length->I i ρ n->T8 gf bw (r.map f) ρ n Q:=by
  intro r;induction r with
  |nil=>
   intro i ρ n e hi h;have:i=xs.length:=by
    have:=congrArg List.length e;simp at this;omega
   subst this;exact k ρ n h
  |cons x r ih=>
   intro i ρ n e hi h;have hl:i<xs.length:=by
    have:=congrArg List.length e;simp at this;omega
   have e':=List.drop_eq_getElem_cons hl;rw [e] at e';injection e' with e1 e2;obtain ⟨bs,h1,h2⟩:=hs i x ρ n (by rw [getElem?_eq_getElem hl,e1]) h;refine ⟨bs,h1,mono.h _ _ _ _ h2 λo m h=>?_⟩;cases o with
   |nx ρ'=>exact ih (i+1) ρ' m e2.symm hl h
   |ct ρ'=>exact ih (i+1) ρ' m e2.symm hl h
   |bk ρ'=>exact h
   |rt d b=>exact h
 exact key xs 0 ρ n (by simp) (Nat.zero_le _) h0
def RN {gf:PyData->Option (List (Nat×PyData))} {cw:Rho->Nat->(Bool->Nat->Prop)->Prop} {ew:Rho->Nat->QD->Prop} {α β:Type} {f:α->PyData} {gd:β->PyData} {ρ:Rho} (R:β->Prop) (c:Nat) (N:Nat):∀ (xs:List α) (n:Nat) (Q:List PyData->Nat->Prop),
  (∀ x∈xs,∀ n Q,n+c<=N->(∀ b,R b->Q (gd b) (n+c))->∃ bs,gf (f x)=some bs/\cw (ZY ρ bs) n λk n1=>if k then ew (ZY ρ bs) n1 Q else False) ->
  MnE ew->MnC cw->n+c*xs.length<=N->(∀ bs:List β,bs.length=xs.length->(∀ b∈bs,R b)->Q (bs.map gd) (n+c*xs.length))->lcW gf cw ew ρ (xs.map f) n Q
 |[],n,Q,_,_,_,_,h=>h [] rfl (by simp)
 |x::xs,n,Q,hx,me,mc,hn,h=>by
  have hc:c*(xs.length+1)=c*xs.length+c:=by rw [Nat.mul_succ]
  simp only [length_cons] at hn h;obtain ⟨bs,h1,h2⟩:=hx x (by simp) n (λy n2=>lcW gf cw ew ρ (xs.map f) n2 λys n3=>Q (y::ys) n3) (by omega) λb hb=>by
   refine RN R c N xs (n+c) _ (λz hz=>hx z (by simp [hz])) me mc (by omega) λcs hl hr=>?_;have:=h (b::cs) (by simp [hl]) (by intro z hz;rcases mem_cons.mp hz with rfl|hz;exact hb;exact hr z hz);rw [show n+c*(xs.length+1)=n+c+c*xs.length by omega] at this;exact this
  refine ⟨bs,h1,mc.h _ _ _ _ h2 λk m hk=>?_⟩;cases k with
  |true=>exact hk
  |false=>exact hk.elim
end
def R1 {α β:Type} {x:α} {f:α->Option β}:(some x).bind f=f x:=id rfl
def N2 {α β:Type} {x:α} {f:α->β}:(some x).map f=some (f x):=id rfl
def qcO {α:Type} {x:α} {r:List α}:(x::r).length=r.length+1:=id rfl
def qbH {α:Type}:([]:List α).length=0:=id rfl
def qeC {α:Type} {x y:α} {r:List α}:(x::r).set 0 y=y::r:=id rfl
def qd4 {α:Type} {x y:α} {r:List α} {i:Nat}:(x::r).set (i+1) y=x::r.set i y:=id rfl
def qcm {α:Type} {r:List α}:r++[]=r:=List.append_nil r
def qdx {α:Type} {x:α} {r s:List α}:(x::r)++s=x::(r++s):=id rfl
def qcE {α:Type} {s:List α}:[]++s=s:=id rfl
def qcw {n:Nat}:0+n=n:=Nat.zero_add n
def qcf {p:Prop}:(True/\p)=p:=true_and p
def qdH {α:Type} {a b:α} {i:Decidable True}:@ite α True i a b=a:=if_pos trivial
def qeG {α:Type} {a b:α} {i:Decidable False}:@ite α False i a b=b:=if_neg not_false
def qcc:(false=true)=False:=Bool.false_eq_true
def qdi:(!true)=false:=id rfl
def qc1:(!false)=true:=id rfl
def qcK {i:Decidable True}:@decide True i=true:=decide_true i
def qd3 {i:Decidable False}:@decide False i=false:=decide_false i
def qdY {b:Bool}:(b||true)=true:=Bool.or_true b
def qdr {b:Bool}:(true||b)=true:=Bool.true_or b
def qcZ {b:Bool}:(b&&true)=b:=Bool.and_true b
def qdg {b:Bool}:(true&&b)=b:=Bool.true_and b
def qde {b:Bool}:(false&&b)=false:=Bool.false_and b
def qdN {b:Bool}:(b&&false)=false:=Bool.and_false b
def ai{a b:Prop}(x:a)(y:b):a/\b:=⟨x,y⟩
def pwA:=(ai (ai (ai (ai (ai (ai (ai @Pu.qdX @Pu.qcH) (ai @Pu.qee (ai @Pu.qdD @Pu.qgW))) (ai (ai @Pu.TN @Pu.qb6) (ai @Pu.MP (ai @Pu.MZ @Pu.qeF)))) (ai (ai (ai @Pu.L7 @Pu.qdy) (ai @Pu.RE (ai @Pu.MW @Pu.NW))) (ai (ai @Pu.NC @Pu.qdf) (ai @Pu.ML (ai @Pu.qaj @Pu.qaa))))) (ai (ai (ai (ai @Pu.NX @Pu.RJ) (ai @Pu.qc4 (ai @Pu.qak @Pu.RU))) (ai (ai @Pu.M3 @Pu.NY) (ai @Pu.ME (ai @Pu.qgQ @Pu.MX)))) (ai (ai (ai @Pu.qd8 @Pu.N6) (ai @Pu.qab (ai @Pu.qg5 @Pu.N9))) (ai (ai @Pu.SI (ai @Pu.qap @Pu.MI)) (ai @Pu.C9 (ai @Pu.qdc @Pu.qdK)))))) (ai (ai (ai (ai (ai @Pu.qas @Pu.qcG) (ai @Pu.RH (ai @Pu.M9 @Pu.TY))) (ai (ai @Pu.MM @Pu.MS) (ai @Pu.qb4 (ai @Pu.qeA @Pu.qda)))) (ai (ai (ai @Pu.NP @Pu.qc6) (ai @Pu.ND (ai @Pu.M2 @Pu.qaf))) (ai (ai @Pu.CT (ai @Pu.qb5 @Pu.qcM)) (ai @Pu.qbY (ai @Pu.M5 @Pu.TQ))))) (ai (ai (ai (ai @Pu.L8 @Pu.W9) (ai @Pu.M8 (ai @Pu.qal @Pu.RQ))) (ai (ai @Pu.RF @Pu.XB) (ai @Pu.qg2 (ai @Pu.N4 @Pu.C4)))) (ai (ai (ai @Pu.qaq @Pu.RW) (ai @Pu.M6 (ai @Pu.qbM @Pu.N8))) (ai (ai @Pu.NG (ai @Pu.MO @Pu.MR)) (ai @Pu.qdG (ai @Pu.SG @Pu.CY))))))) (ai (ai (ai (ai (ai (ai @Pu.WG @Pu.WC) (ai @Pu.WP (ai @Pu.RM @Pu.RO))) (ai (ai @Pu.EM @Pu.TV) (ai @Pu.qgM (ai @Pu.qgP @Pu.qcl)))) (ai (ai (ai @Pu.qcI @Pu.qeI) (ai @Pu.qcB (ai @Pu.qbL @Pu.at0))) (ai (ai @Pu.at1 (ai @Pu.at2 @Pu.at3)) (ai @Pu.eqS (ai @Pu.eqI @Pu.eqB))))) (ai (ai (ai (ai @Pu.NT @Pu.NJ) (ai @Pu.qag (ai @Pu.MV @Pu.qek))) (ai (ai @Pu.qdW @Pu.qep) (ai @Pu.NL (ai @Pu.NK @Pu.qam)))) (ai (ai (ai @Pu.VQ @Pu.MG) (ai @Pu.MY (ai @Pu.qeq @Pu.qbK))) (ai (ai @Pu.qcS (ai @Pu.qch @Pu.qcy)) (ai @Pu.qcP (ai @Pu.qcp @Pu.qcb)))))) (ai (ai (ai (ai (ai @Pu.qcR @Pu.qaF) (ai @Pu.M0 (ai @Pu.MU @Pu.qgF))) (ai (ai @Pu.qg1 @Pu.qgY) (ai @Pu.qcx (ai @Pu.qc0 @Pu.qdJ)))) (ai (ai (ai @Pu.qcj @Pu.qdU) (ai @Pu.qgN (ai @Pu.qb2 @Pu.NV))) (ai (ai @Pu.MA (ai @Pu.NR @Pu.qcQ)) (ai @Pu.R1 (ai @Pu.N2 @Pu.qcO))))) (ai (ai (ai (ai @Pu.qbH @Pu.qeC) (ai @Pu.qd4 (ai @Pu.qcm @Pu.qdx))) (ai (ai @Pu.qcE @Pu.qcw) (ai @Pu.qcf (ai @Pu.qdH @Pu.qeG)))) (ai (ai (ai @Pu.qcc @Pu.qdi) (ai @Pu.qc1 (ai @Pu.qcK @Pu.qd3))) (ai (ai @Pu.qdY (ai @Pu.qdr @Pu.qcZ)) (ai @Pu.qdg (ai @Pu.qde @Pu.qdN))))))))
end Pu
namespace Bk
open PySem L2 L3
def nzW:Wk->Prop
 |.step d a _=>d≠0\/a≠0
 |_=>True
def jt:Sp3:=λts G q=>∃ a n,ts=[.ref a]/\Lf G a n/\n<1000000/\∀ (w:Wk) G',w.Ok->nzW w->Lf G' a (n+60)->Ext a G G'->q w.t G'
def EL:∀ ts G q,jt ts G q->ts.length=1/\QV qP Q7 (qen q) (qx ["_law_left_here","_law_way","_law_lying","_law_high","_law_wide","_law_down","_law_along","_law_pairs","_law_far","_law_turn","_law_pair"] ts) G:=by
 rintro ts G q ⟨a,n,rfl,hL,hn,h⟩;refine ⟨rfl,?_⟩;unfold QV;refine JK λnx1 q1=>?_;simp only [jo,cb3,qc,v3,qx,map_cons,List.map_nil,length_cons,length_nil,Nat.zero_add,Nat.reduceAdd,Nat.add_one_sub_one,List.reduceReplicate,cons_append,List.nil_append,Nat.zero_lt_succ,getElem?_pos,getElem_cons_zero,c3,qp,gn3,set_cons_succ,set_cons_zero];refine jF hL (by omega) (by omega) (by omega) λway G1 w0 w1 L1 E1=>?_
 try simp
 rw [q1];clear q1;refine JK λnx2 q2=>?_;by_cases lt:way<4
 ·simp only [jI,tb3,o3,v3,length_cons,length_nil,Nat.zero_add,Nat.reduceAdd,Nat.reduceLT,getElem?_pos,getElem_cons_succ,getElem_cons_zero,c3,iB,lt,decide_true,↓reduceIte,zw,j0,qc,VF,qp,sizeLine_eq,Nat.reduceLeDiff,cb3,Nat.zero_lt_succ,true_and,ixR];intro p hp;have np:=L1.ne hp;have L3':=L1.new np (ob:=.lst [.str "row",.str "column",.str "slant",.str "back"]);obtain ⟨k,rfl⟩:=Int.eq_ofNat_of_zero_le w0;have hk:k<4:=by omega
  have e1:L2.atI [T.str (Str.ofString "row"),.str (Str.ofString "column"),.str (Str.ofString "slant"),.str (Str.ofString "back")] (k:Int)=some (.str (jg k)):=by
   rcases k with _|_|_|_|k
   ·rfl
   ·rfl
   ·rfl
   ·rfl
   ·omega
  simp only [L3.ixR,jK qL,e1];refine ⟨a,_,rfl,L3',by omega,λm G2 m1 m2 L4 E4=>?_⟩;exact h (.line k m) _ ⟨hk,m1,m2⟩ trivial (L4.mono (by omega)) (E1.trans ((J7 hp).trans E4))
 simp only [jI,tb3,o3,v3,c3,iB,getElem?_cons_zero,getElem?_cons_succ,lt,decide_false,Bool.false_eq_true,if_false,qV];rw [q2];clear q2;refine JK λnx3 q3=>?_;by_cases lt6:way<6
 ·simp only [jI,tb3,o3,v3,c3,iB,getElem?_cons_zero,getElem?_cons_succ,lt6,decide_true,if_true];refine JK λnx4 q4=>?_;simp only [CO,qc,cb3,v3,length_cons,length_nil,Nat.zero_add,Nat.reduceAdd,Nat.zero_lt_succ,getElem?_pos,getElem_cons_zero,c3,qp,o3,j3,ne_eq,sizeLine_eq,set_cons_succ,set_cons_zero];refine jF L1 (by omega) (by omega) (by omega) λly G2 y0 y1 L2' E2=>?_
  try simp
  refine jF L2' (by omega) (by omega) (by omega) λhi G3 h0 h1 L3' E3=>?_
  try simp
  rw [q4];clear q4;obtain ⟨hh,rfl⟩:=Int.eq_ofNat_of_zero_le h0;refine JK λnx5 q5=>?_;simp only [jo,o3,c3,cb3,qc,v3,length_cons,length_nil,Nat.zero_add,Nat.reduceAdd,Nat.zero_lt_succ,getElem?_pos,getElem_cons_zero,Nat.reduceLT,getElem_cons_succ,iC,qp,j3,ne_eq,sizeLine_eq,gn3,set_cons_succ,set_cons_zero];have dv:1<=(16:Int)/(1+(hh:Int))/\(16:Int)/(1+(hh:Int))<=16:=by
   have:hh=0\/hh=1\/hh=2\/hh=3:=by omega
   rcases this with rfl|rfl|rfl|rfl<;>decide
  refine ⟨⟨by omega,by omega⟩,jF L3' (by omega) (by omega) (by omega) λwi G4 u0 u1 L4 E4=>?_⟩
  try simp
  rw [q5];clear q5;obtain ⟨ww,rfl⟩:=Int.eq_ofNat_of_zero_le u0;have pr:(hh+1)*(ww+1)<=16:=by
   have:hh=0\/hh=1\/hh=2\/hh=3:=by omega
   rcases this with rfl|rfl|rfl|rfl<;>simp at u1<;>omega
  simp only [zw,o3,VF,qc,j0,c3,v3,length_cons,length_nil,Nat.zero_add,Nat.reduceAdd,Nat.reduceLT,getElem?_pos,getElem_cons_succ,getElem_cons_zero,qp,sizeLine_eq,Nat.reduceLeDiff,ixR,true_and];intro p hp;have np:=L4.ne hp;have X4:=E1.trans (E2.trans (E3.trans E4));have z1:(1:Int)+(hh:Int)=((hh+1:Nat):Int):=by omega
  have z2:(1:Int)+(ww:Int)=((ww+1:Nat):Int):=by omega
  rw [z1,z2];have hl:ly=0\/ly=1:=by omega
  rcases hl with rfl|rfl
  ·simp only [L3.ixR,jK qL,qf1];exact h (.block (hh+1) (ww+1)) _ ⟨by omega,by omega,by omega,by omega,pr⟩ trivial ((L4.new np).mono (by omega)) (X4.trans (J7 hp))
  ·simp only [L3.ixR,jK qL,qe3];exact h (.block (ww+1) (hh+1)) _ ⟨by omega,by omega,by omega,by omega,by rw [Nat.mul_comm];exact pr⟩ trivial ((L4.new np).mono (by omega)) (X4.trans (J7 hp))
 simp only [jI,tb3,o3,v3,c3,iB,getElem?_cons_zero,getElem?_cons_succ,lt6,decide_false,Bool.false_eq_true,if_false,qV];rw [q3];clear q3;refine JK λnx4 q4=>?_;by_cases lt8:way<8
 ·simp only [jI,tb3,o3,v3,c3,iB,getElem?_cons_zero,getElem?_cons_succ,lt8,decide_true,if_true];refine JK λnx5 q5=>?_;simp only [CO,qc,o3,cb3,v3,length_cons,length_nil,Nat.zero_add,Nat.reduceAdd,Nat.zero_lt_succ,getElem?_pos,getElem_cons_zero,c3,qp,iI,set_cons_succ,set_cons_zero];refine jF L1 (by omega) (by omega) (by omega) λd G2 d0 d1 L2' E2=>?_
  try simp
  refine jF L2' (by omega) (by omega) (by omega) λal G3 a0 a1 L3' E3=>?_
  try simp
  rw [q5];clear q5;obtain ⟨D,hD⟩:∃ D,D=d-3:=⟨_,rfl⟩
  obtain ⟨A,hA⟩:∃ A,A=al-4:=⟨_,rfl⟩
  rw [← hD,← hA];refine JK λnx6 q6=>?_;simp only [jI,tb3,o3,cb3,qc,v3,length_cons,length_nil,Nat.zero_add,Nat.reduceAdd,Nat.zero_lt_succ,getElem?_pos,getElem_cons_zero,c3,qp,jk,UP,Bool.false_eq_true,↓reduceIte,zw,j0,Nat.reduceLT,getElem_cons_succ,iC,jc,decide_eq_true_eq,T9,j3,ne_eq,sizeLine_eq,Nat.reduceLeDiff,true_and,Int.add_zero,qV,exists_and_left,Bool.exists_bool];refine jF L3' (by omega) (by omega) (by omega) λsix G4 s0 s1 L4 E4=>?_;have X4:=E1.trans (E2.trans (E3.trans E4));by_cases k0:six=0
  ·subst k0;simp only [decide_true,↓reduceIte];refine ⟨cm (by omega) (by omega),cm (by omega) (by omega),?_⟩;have fin:∀ e:Int,0<=e->e<=1->(D≠0\/3*A+e≠0/\A+e≠0)->qP [.ref a,.int 4] G4 λx G'=>(match T.int 1,x with|.int i,.int j=>q (.tup [.str (Str.ofString "step"),.int (5*D),.int (3*A+e),.int (i+j)]) G'|_,_=>False):=by
    intro e e0 e1 e2;refine jF L4 (by omega) (by omega) (by omega) λm G5 m0 m1 L5 E5=>?_;obtain ⟨m',rfl⟩:=Int.eq_ofNat_of_zero_le m0;have:=h (.step (5*D) (3*A+e) (m'+1)) G5 ⟨⟨by omega,by omega⟩,⟨by omega,by omega⟩,by omega,by omega⟩ (by simp only [nzW];omega) (L5.mono (by omega)) (X4.trans E5);simp only [Wk.t] at this;rw [show ((m'+1:Nat):Int)=1+(m':Int) by omega] at this;exact this
   by_cases hD0:D=0
   ·by_cases hA0:A=0
    ·have:=fin 1 (by omega) (by omega) (by omega);simp only [hD0,Int.mul_zero,hA0,Int.zero_add,↓reduceIte] at this ⊢;exact this
    ·have:=fin 0 (by omega) (by omega) (by omega);simp only [hD0,Int.mul_zero,Int.add_zero,↓reduceIte,hA0] at this ⊢;exact this
   ·have:=fin 0 (by omega) (by omega) (by omega);simp only [Int.add_zero,hD0,↓reduceIte] at this ⊢;exact this
  ·simp [k0];rw [q6];clear q6;have fin:∀ e:Int,0<=e->e<=1->(D≠0\/3*A+e≠0/\A+e≠0)->Q7 [.ref a] G4 λx G'=>q (.tup [.str (Str.ofString "step"),.int D,.int (A+e),x]) G':=by
    intro e e0 e1 e2;refine ⟨a,_,rfl,L4,by omega,λm G5 m0 m1 L5 E5=>?_⟩;exact h (.step D (A+e) m) G5 ⟨⟨by omega,by omega⟩,⟨by omega,by omega⟩,by omega,by omega⟩ (by simp only [nzW];omega) (L5.mono (by omega)) (X4.trans E5)
   by_cases hD0:D=0
   ·by_cases hA0:A=0
    ·have:=fin 1 (by omega) (by omega) (by omega);simp only [hD0,hA0,Int.zero_add,zw,j0,qc,c3,v3,length_cons,length_nil,Nat.zero_add,Nat.reduceAdd,Nat.reduceLT,getElem?_pos,getElem_cons_succ,getElem_cons_zero,o3,cb3,jc,jk,UP,decide_true,Bool.false_eq_true,↓reduceIte,qp,T9,j3,Nat.zero_lt_succ,sizeLine_eq,Nat.reduceLeDiff,true_and] at this ⊢;exact this
    ·have:=fin 0 (by omega) (by omega) (by omega);simp only [hD0,Int.add_zero,zw,j0,qc,c3,v3,length_cons,length_nil,Nat.zero_add,Nat.reduceAdd,Nat.reduceLT,getElem?_pos,getElem_cons_succ,getElem_cons_zero,o3,cb3,jc,jk,UP,decide_true,Bool.false_eq_true,↓reduceIte,hA0,decide_false,qp,T9,j3,Nat.zero_lt_succ,sizeLine_eq,Nat.reduceLeDiff,true_and] at this ⊢;exact this
   ·have:=fin 0 (by omega) (by omega) (by omega);simp only [Int.add_zero,zw,j0,qc,c3,v3,length_cons,length_nil,Nat.zero_add,Nat.reduceAdd,Nat.reduceLT,getElem?_pos,getElem_cons_succ,getElem_cons_zero,o3,cb3,jc,jk,UP,hD0,decide_false,Bool.false_eq_true,↓reduceIte,qp,T9,j3,Nat.zero_lt_succ,sizeLine_eq,Nat.reduceLeDiff,true_and] at this ⊢;exact this
 simp only [jI,tb3,o3,v3,c3,iB,getElem?_cons_zero,getElem?_cons_succ,lt8,decide_false,Bool.false_eq_true,if_false,qV];rw [q4];clear q4;refine JK λnx5 q5=>?_;simp only [CO,qc,VF,qp,length_nil,sizeLine_eq,Nat.zero_le,o3,c3,cb3,v3,length_cons,Nat.zero_add,Nat.reduceAdd,Nat.zero_lt_succ,getElem?_pos,getElem_cons_zero,jk,UP,T9,iC,Bool.false_eq_true,↓reduceIte,j3,set_cons_succ,set_cons_zero,ne_eq,exists_and_left,Bool.exists_bool,Int.mul_zero,Int.add_zero,Int.mul_one,Int.reduceAdd,true_and];intro pp hpp;have npp:=L1.ne hpp;have Lp:=L1.new npp (ob:=.lst []);refine jF Lp (by omega) (by omega) (by omega) λfv G2 f0 f1 L2' E2=>?_;have gp2:=E2 _ _ npp qL;have X2:Ext a G G2:=E1.trans ((J7 hpp).trans E2);have hf:∃ far:Int,(far=1\/far=5)/\nx5=nx5:=⟨1,.inl rfl,rfl⟩
 clear hf;have fin:∀ far:Int,far=1\/far=5->nx5 [some (.ref a),some (.int way),none,none,none,none,none,some (.ref pp),some (.int far),none,none] G2:=by
  intro far hfar;rw [q5];clear q5;refine JK λnx6 q6=>?_;simp only [CM,VC,cb3,qc,qp,v3,getElem?_cons_zero,getElem?_cons_succ];refine ⟨a,_,rfl,L2',by omega,λm G3 m1 m2 L3' E3=>?_⟩;have gp3:=E3 _ _ npp gp2;refine ⟨⟨by omega,by omega⟩,?_⟩;rw [Int.toNat_natCast];refine EJ _ (λi τ G'=>∃ ps:List (Int×Int),G' pp=some (.lst (ps.map pT))/\(1<=i->1<=ps.length)/\ps.length<=i/\ps.Nodup/\(∀ p∈ps,(-16<=p.1/\p.1<=16)/\(-16<=p.2/\p.2<=16))/\Lf G' a (n+5+2*i)/\Ext a G G'/\∃ x9 x10,τ=[some (.ref a),some (.int way),none,none,none,none,none,some (.ref pp),some (.int far),x9,x10])
   ⟨[],gp3,by omega,by simp,by simp,(by intro p hp;cases hp),by simpa using L3'.mono (by omega),X2.trans E3,none,none,rfl⟩ (λ_ _ _ _ _=>True.intro) ?_ ?_
  ·rintro i z τ G' nx hz ⟨ps,gp,i1,pl,nd,bd,L,E,x9,x10,rfl⟩ hnx;obtain ⟨hi,rfl⟩:=SO hz;simp only [gn3,set_cons_succ,set_cons_zero];refine JK λnx7 q7=>?_;simp only [jo,j0,qc,o3,v3,Int.zero_add,length_cons,length_nil,Nat.zero_add,Nat.reduceAdd,Nat.reduceLT,getElem?_pos,getElem_cons_succ,getElem_cons_zero,cb3,Nat.zero_lt_succ,c3,qp,iI,iC,sizeLine_eq,Nat.reduceLeDiff,gn3,set_cons_succ,set_cons_zero,true_and];refine jF L (by omega) (by omega) (by omega) λu G4 u0 u1 L4 E4=>?_
   try simp
   refine ⟨cm (by omega) (by omega),jF L4 (by omega) (by omega) (by omega) λv G5 v0 v1 L5 E5=>?_⟩
   try simp
   refine ⟨cm (by omega) (by omega),?_⟩;rw [q7];clear q7;have gp5:=E5 _ _ npp (E4 _ _ npp gp);have X5:=E.trans (E4.trans E5);have pe:T.tup [.int (far*(u-2)),.int (far*(v-2))]=pT (far*(u-2),far*(v-2)):=rfl;rw [pe];have pb:(-16<=far*(u-2)/\far*(u-2)<=16)/\(-16<=far*(v-2)/\far*(v-2)<=16):=by rcases hfar with rfl|rfl<;>omega
   generalize hP:(far*(u-2),far*(v-2))=P at *;have pb':(-16<=P.1/\P.1<=16)/\(-16<=P.2/\P.2<=16):=by rw [← hP];exact pb
   simp only [jI,tb3,o3,v3,getElem?_cons_zero,getElem?_cons_succ];refine ⟨_,_,_,_,jK gp5,qeB _ _,qac _ _,pIn _ _,λd hd=>?_,?_⟩
   ·obtain ⟨p,_,rfl⟩:=mem_map.mp hd;exact qbS p
   ·by_cases hm:P∈ps
    ·simp only [↓reduceIte,hm,decide_true,Bool.not_true,Bool.false_eq_true,qV];exact hnx _ _ ⟨ps,gp5,λ_=>List.length_pos_of_mem hm,by omega,nd,bd,L5.mono (by omega),X5,_,_,rfl⟩
    ·simp only [↓reduceIte,hm,decide_false,Bool.not_false,LK,bm3,v3,length_cons,length_nil,Nat.zero_add,Nat.reduceAdd,Nat.reduceLT,getElem?_pos,getElem_cons_succ,getElem_cons_zero,qc,Nat.lt_add_one,qp,qbz,gp5,length_map,sizeLine_eq];refine ⟨by rw [jK gp5];rfl,by omega,?_⟩;refine hnx _ _ ⟨ps++[P],by rw [qL];simp,λ_=>by simp,by simp;omega,?_,λp hp=>?_,L5.new npp |>.mono (by omega),λb o hb eb=>?_,_,_,rfl⟩
     ·rw [List.nodup_append];exact ⟨nd,by simp,λx hx y hy=>by simp at hy;subst hy;rintro rfl;exact hm hx⟩
     ·rcases List.mem_append.mp hp with hp|hp
      ·exact bd p hp
      ·simp at hp;subst hp;exact pb'
     ·have:b≠pp:=by
       rintro rfl;have:=E1 _ _ hb eb;rw [hpp] at this;cases this
      rw [j7 this];exact X5 _ _ hb eb
  ·rintro τ G' ⟨ps,gp,i1,pl,nd,bd,L,E,x9,x10,rfl⟩;rw [qa8] at i1 pl L;show nx6 _ _;rw [q6];simp only [zw,j0,qc,c3,cb3,v3,length_cons,length_nil,Nat.zero_add,Nat.reduceAdd,Nat.reduceLT,getElem?_pos,getElem_cons_succ,getElem_cons_zero,qp,WD,jK gp,sizeLine_eq,Nat.reduceLeDiff,true_and];exact h (.cells ps) G' ⟨i1 m1,by omega,nd,bd⟩ trivial (L.mono (by omega)) E
 by_cases k0:fv=0
 ·have:=fin 5 (.inr rfl);simp only [k0,decide_true,↓reduceIte,Int.mul_one,Int.reduceAdd];exact ⟨cm (by omega) (by omega),this⟩
 ·have:=fin 1 (.inl rfl);simp only [k0,decide_false,Bool.false_eq_true,↓reduceIte,Int.mul_zero,Int.add_zero];exact ⟨cm (by omega) (by omega),this⟩
end Bk
namespace Pu
open PySem L2 L3
open Bk (Wk)
def CN:DrD Bk.jt:=⟨λds n Q=>ds=[]/\n<1000000/\∀ w:Wk,w.Ok->Bk.nzW w->Q (Pv.Wk.d w) (n+60),false,
 λ⟨h1,h3,h4⟩ k=>⟨h1,h3,λw x y=>k _ _ (h4 w x y)⟩,λ{D G a n ts ds q Q} lf da hd hs ⟨h1,h3,h4⟩ k=>by
 subst h1;have:=qaU hs;subst this;exact ⟨a,n,rfl,lf,by omega,λw G' x y L E=>k _ _ G' (n+60) (h4 w x y) E (lfc (c:=60) L) (Pv.qfI _ w) (λz=>by cases z)⟩⟩
def KH {ds:List PyData} {n:Nat} {Q:QD}:CN.W ds n Q=(ds=[]/\n<1000000/\∀ w:Wk,w.Ok->Bk.nzW w->Q (Pv.Wk.d w) (n+60)):=id rfl
def CU:CN.nw=false:=id rfl
end Pu
namespace Pu
open PySem L2 L3
open Bk (Lf Ext Wk)
def the (S:PyData->Prop):Option PyData:=@dite _ (∃ v,S v) (Classical.propDecidable _) (λh=>some (Classical.choose h)) λ_=>none
end Pu
namespace Pu
open PySem L2 L3
open Bk (Lf Ext Wk SD MK)
end Pu
namespace Pu
open PySem L2 L3
def UR (st:Bool):List PyData->Option PyData
 |[.none]=>some (.str "None")
 |[.bool b]=>some (.str (if b=true then Str.ofString "True" else Str.ofString "False"))
 |[.int i]=>cif (i.natAbs.log2<1920) (some (.str (Str.ofString (toString i)))) none
 |[.str x]=>match st with
  |true=>some (.str x)
  |false=>cif ((reprText x).length<=sizeLine) (some (.str (reprText x))) none
 |[.list ds]=>cif (ShW (.list ds)) (some (.str (PyData.list ds).shown)) none
 |[.tuple ds]=>cif (ShW (.tuple ds)) (some (.str (PyData.tuple ds).shown)) none
 |_=>none
def QC {α:Type} {c:Prop} {x:α} {d:α} (h:cif c (some x) none=some d):c/\x=d:=by
 unfold cif at h;split at h
 ·rename_i z;exact ⟨z,Option.some.inj h⟩
 ·cases h
def K8 (st:Bool):FnD (DM st):=⟨UR st,false,λ{D G xs ds v q} hx hd hf k=>by
 cases hx with
 |nil=>cases hf
 |cons a b=>
  cases b with
  |cons b1 b2=>cases a<;>cases hf
  |nil=>
   have dp:=(a.up Q5).dp;have fin:∀ (x:Str) {w:PyData},w=v->w=.str x->q (.str x) G:=λx w e1 e2=>k _ _ Ex.refl (by rw [← e1,e2];exact .str _) (λz=>by cases z);cases a with
   |non=>exact fin _ (Option.some.inj hf) rfl
   |bl b=>exact fin _ (Option.some.inj hf) rfl
   |int i=>exact ⟨(QC hf).1,fin _ (QC hf).2 rfl⟩
   |str x=>
    cases st with
    |true=>exact fin _ (Option.some.inj hf) rfl
    |false=>exact ⟨(QC hf).1,fin _ (QC hf).2 rfl⟩
   |tup hs=>exact ⟨_,dp,(QC hf).1,fin _ (QC hf).2 rfl⟩
   |lst g hs=>exact ⟨_,dp,(QC hf).1,fin _ (QC hf).2 rfl⟩⟩
def S4 {st:Bool}:(K8 st).f=UR st:=id rfl
def WL {st:Bool}:(K8 st).nw=false:=id rfl
def qbX {st:Bool} {ds:List PyData} (h:ShW (.list ds)):UR st [.list ds]=some (.str (PyData.list ds).shown):=zd h
def MJ {st:Bool} {ds:List PyData} (h:ShW (.tuple ds)):UR st [.tuple ds]=some (.str (PyData.tuple ds).shown):=zd h
def qc5 {x:Str}:UR true [.str x]=some (.str x):=id rfl
def qd7 {st:Bool}:UR st [.none]=some (.str "None"):=id rfl
def qeE {st b:Bool}:UR st [.bool b]=some (.str (if b=true then Str.ofString "True" else Str.ofString "False")):=id rfl
def Nr (o:Option Ot) (I:Rho->Prop) (P:PyData->Bool->Prop):Prop:=match o with
 |some (.nx ρ)=>I ρ
 |some (.ct ρ)=>I ρ
 |some (.rt d b)=>P d b
 |_=>False
def qgj {ρ:Rho} {I:Rho->Prop} {P:PyData->Bool->Prop}:Nr (some (.nx ρ)) I P=I ρ:=id rfl
def qd5 {d:PyData} {b:Bool} {I:Rho->Prop} {P:PyData->Bool->Prop}:Nr (some (.rt d b)) I P=P d b:=id rfl
def EU {gf:PyData->Option (List (Nat×PyData))} {bf:Rho->Option Ot} {α:Type} {g:α->PyData} (I:Nat->Rho->Prop) (P:PyData->Bool->Prop):∀ (xs:List α) (i:Nat) {ρ:Rho},I i ρ ->
  (∀ j x ρ,xs[j]?=some x->I (i+j) ρ->Nr ((gf (g x)).bind λbs=>bf (ZY ρ bs)) (I (i+j+1)) P)->(∃ ρ',CL gf bf (xs.map g) ρ=some (.nx ρ')/\I (i+xs.length) ρ')\/∃ d b,CL gf bf (xs.map g) ρ=some (.rt d b)/\P d b
 |[],i,ρ,h0,_=>.inl ⟨ρ,rfl,h0⟩
 |x::xs,i,ρ,h0,hs=>by
  have h1:=hs 0 x ρ rfl h0;have go:∀ ρ',I (i+1) ρ'->(∃ ρ2,CL gf bf (xs.map g) ρ'=some (.nx ρ2)/\I (i+(x::xs).length) ρ2)\/∃ d b,CL gf bf (xs.map g) ρ'=some (.rt d b)/\P d b:=λρ' h=>by
   have:=EU I P xs (i+1) h λj y ρ2 hy hI=>by
    have q:=hs (j+1) y ρ2 hy (by rw [show i+(j+1)=i+1+j by omega];exact hI);rw [show i+(j+1)+1=i+1+j+1 by omega] at q;exact q
   rw [show i+1+xs.length=i+(x::xs).length by simp;omega] at this;exact this
  simp only [map_cons,CL];cases e:gf (g x) with
  |none=>rw [e] at h1;exact h1.elim
  |some bs=>
   rw [e] at h1;simp only [Option.bind_some] at h1 ⊢;cases e2:bf (ZY ρ bs) with
   |none=>rw [e2] at h1;exact h1.elim
   |some o=>
    rw [e2] at h1;cases o with
    |nx ρ'=>exact go ρ' h1
    |ct ρ'=>exact go ρ' h1
    |bk ρ'=>exact h1.elim
    |rt d b=>exact .inr ⟨d,b,rfl,h1⟩
def KK {gf:PyData->Option (List (Nat×PyData))} {bf:Rho->Option Ot} {α:Type} {g:α->PyData} {ρ:Rho} {Q:Option Ot->Prop} {F:Ot->Option Ot} (xs:List α) (I:Nat->Rho->Prop) (P:PyData->Bool->Prop) (h0:I 0 ρ) (hs:∀ i x ρ,xs[i]?=some x->I i ρ->Nr ((gf (g x)).bind λbs=>bf (ZY ρ bs)) (I (i+1)) P) (k:∀ ρ',I xs.length ρ'->Q (F (.nx ρ'))) (kr:∀ d b,P d b->Q (F (.rt d b))):Q ((CL gf bf (xs.map g) ρ).bind F):=by
 rcases EU (gf:=gf) (bf:=bf) (g:=g) I P xs 0 h0 (λj x ρ hx hI=>by rw [Nat.zero_add] at hI ⊢;exact hs j x ρ hx hI) with ⟨ρ',e,h⟩|⟨d,b,e,h⟩
 ·rw [e];rw [Nat.zero_add] at h;exact k _ h
 ·rw [e];exact kr d b h
def qa7 {α:Type} (g:α->PyData) (xs:List α):∀ k,enD k (xs.map g)=(xs.zipIdx k).map λp=>PyData.tuple [.int (p.2:Int),g p.1]:=by
 induction xs with
 |nil=>intro k;rfl
 |cons x xs ih=>intro k;simp only [map_cons,enD,List.zipIdx_cons,ih (k+1)]
def CK {α:Type} {xs:List α} {i n:Nat} {x:α} (h:(xs.zipIdx 0)[i]?=some (x,n)):xs[i]?=some x/\n=i/\i<xs.length:=by
 rw [List.getElem?_zipIdx] at h;obtain ⟨c,hc,e⟩:=Option.map_eq_some_iff.mp h;simp only [Nat.zero_add,Prod.mk.injEq] at e;obtain ⟨rfl,rfl⟩:=e;exact ⟨hc,rfl,(List.getElem?_eq_some_iff.mp hc).1⟩
def qdu {ds:List PyData} {r:Int} (h0:0<=r) (h1:r<(ds.length:Int)):∃ v∈ds,L2.atI ds r=some v:=by
 obtain ⟨j,rfl⟩:=Int.eq_ofNat_of_zero_le h0;have hj:j<ds.length:=by omega
 exact ⟨ds[j],List.getElem_mem hj,by rw [atN hj,getElem?_eq_getElem hj]⟩
def R6 {ds:List PyData} {r:Int} {P:PyData->Prop} (n:Nat) (hl:ds.length=n) (h0:0<=r) (h1:r<(n:Int)) (h:∀ v∈ds,P v):∃ v,L2.atI ds r=some v/\P v:=by
 obtain ⟨v,hv,e⟩:=qdu (ds:=ds) h0 (by rw [hl];exact h1);exact ⟨v,e,h v hv⟩
def qaY {xs:List PyData} {lo hi:Option Int} {d:PyData} (h:d∈JB xs lo hi):d∈xs:=List.mem_of_mem_drop (List.mem_of_mem_take h)
def qaT (xs:List PyData) (lo hi:Option Int):(JB xs lo hi).length<=xs.length:=by
 unfold JB;rw [List.length_take,List.length_drop];omega
def qck {xs ys:List PyData} (h:xs.length+ys.length<=16777216):qce (.list xs) (.list ys)=some (.list (xs++ys)):=zd (by rw [sizeLine_eq];exact h)
def MC:List PyData->Option (List (List Int))
 |[]=>some []
 |.tuple ys::r=>(match ZB ys,MC r with|some k,some ks=>some (k::ks)|_,_=>none)
 |_=>none
def NM {G:Gp}:∀ {xs:List T} {ds:List PyData} {ks:List (List Int)},Dqs G xs ds->MC ds=some ks->LL xs=some ks
 |_,[],ks,h,e=>by cases h;simpa [MC,LL] using e
 |_,d::ds,ks,h,e=>by
  cases h with
  |cons a b=>
   cases d<;>try (simp only [MC] at e;cases e;done)
   case tuple ys=>
    simp only [MC] at e;split at e
    ·rename_i k ks' e1 e2;cases e;cases a with
     |tup hs=>
      have:=UH e1;subst this;have:=hs.ints;subst this;simp only [LL,EN,NM b e2]
    ·cases e
def UT (d:PyData):Option PyData:=match d with
 |.tuple ds=>(MC ds).bind λks=>cif (ks.length<=18) (some (.int (Tb8.cnt (kAt ks) ks.length))) none
 |_=>none
def NI {te:TE3} (a:PuE te):PuE (RT te):=⟨λρ=>(a.f ρ).bind UT,a.fv,false,λhv hd hf k=>by
 obtain ⟨d,e1,hf⟩:=obb hf;refine a.ok hv hd e1 λx' G1 E1 D1 _=>?_;unfold UT at hf;cases D1 with
 |tup hs=>
  simp only at hf;obtain ⟨ks,en,hf⟩:=obb hf;unfold cif at hf;split at hf
  ·rename_i hl;cases hf;simp only [NM hs en];exact ⟨hl,k _ _ E1 (.int _) (λz=>by cases z)⟩
  ·cases hf
 |_=>simp at hf⟩
def LQ {te:TE3} {a:PuE te}:(NI a).f=λρ=>(a.f ρ).bind UT:=id rfl
def qeg (ps:List (Int×Int)):Nat:=Tb8.cnt (kAt (ps.map λp=>[p.1,p.2])) ps.length
def qcz:∀ ps:List (Int×Int),MC (ps.map λp=>.tuple [.int p.1,.int p.2])=some (ps.map λp=>[p.1,p.2])
 |[]=>rfl
 |p::ps=>by simp only [map_cons,MC,ZB,qcz ps];rfl
def qbq {ps:List (Int×Int)} (h:ps.length<=18):UT (.tuple (ps.map λp=>.tuple [.int p.1,.int p.2]))=some (.int (qeg ps)):=by
 simp only [UT,qcz,Option.bind_some];rw [zd (by simpa using h)];simp [qeg]
def SW {key:Nat->List Int}:∀ {n:Nat},Tb8.cnt key n=n↔∀ i j,i<j->j<n->key i≠key j
 |0=>⟨λ_ i j _ h=>absurd h (Nat.not_lt_zero j),λ_=>rfl⟩
 |n+1=>by
  have ih:=SW (key:=key) (n:=n);have le:=Tb8.WK key n;unfold Tb8.cnt;constructor
  ·intro h;split at h
   ·omega
   ·rename_i c;intro i j hij hj e;rcases Nat.lt_or_ge j n with z|z
    ·exact ih.mp (by omega) i j hij z e
    ·obtain rfl:j=n:=by omega
     exact c ⟨i,hij,e⟩
  ·intro h;rw [if_neg (λ⟨i,hi,e⟩=>h i n hi (by omega) e),ih.mpr λi j hij hj=>h i j hij (by omega)]
def LS {ps:List (Int×Int)}:qeg ps=ps.length↔ps.Nodup:=by
 unfold qeg;rw [SW,List.nodup_iff_pairwise_ne,List.pairwise_iff_getElem];have k:∀ i (h:i<ps.length),kAt (ps.map λp=>[p.1,p.2]) i=[ps[i].1,ps[i].2]:=λi h=>by
  unfold kAt;rw [getD_eq_getElem?_getD,getElem?_map,getElem?_eq_getElem h];rfl
 constructor
 ·intro h i j hi hj hij e;exact h i j hij hj (by rw [k i hi,k j hj,e])
 ·intro h i j hij hj e;rw [k i (by omega),k j hj] at e;simp only [List.cons.injEq,and_true] at e;exact h i j (by omega) hj hij (Prod.ext e.1 e.2)
def qbB:List PyData->Option PyData
 |[.tuple xs]=>(ZB xs).bind λns=>cif (ns≠[]) (some (.int (mn ns))) none
 |_=>none
def qbG:FnD RX:=⟨qbB,false,λ{D G xs ds v q} hx hd hf k=>by
 unfold qbB at hf;split at hf
 ·obtain ⟨ns,e,hf⟩:=obb hf;unfold cif at hf;split at hf
  ·rename_i c;cases hf;cases hx with
   |cons a b=>
    cases b;cases a;rename_i hs;have:=UH e;subst this;have:=hs.ints;subst this;simp only [RX,EN];refine ⟨c,λm hm hl=>?_⟩;have:m=mn ns:=Int.le_antisymm (hl _ (NS c)) (qcA hm);subst this;exact k _ _ Ex.refl (.int _) (λz=>by cases z)
  ·cases hf
 ·cases hf⟩
def qaX:qbG.f=qbB:=id rfl
def qfX {ns:List Int} (h:ns≠[]):qbB [.tuple (ns.map PyData.int)]=some (.int (mn ns)):=by simp only [qbB,SQ,Option.bind_some];exact zd h
end Pu
namespace Pv
open PySem L2 L3 Pu
open Bk (Wk jg)
end Pv
namespace Pv
open PySem L2 L3 Pu
end Pv
namespace Hd
open PySem L2 L3 PySem.W
def oF (x:Str) (st:Stmt) (pm cd:Value):Obj:=⟨.type "function",none,.func (PySem.W.fnOf x x (QG st) (zK st) (qj st) .none .none .none pm none cd .none),#[]⟩
def oC (vs:List Value):Obj:=⟨.type "code",none,.fields vs.toArray,#[]⟩
def oT (vs:List Value):Obj:=⟨.type "tuple",none,.seq vs.toArray 0,#[]⟩
def eD (P:Params):Value×Value->DictEntry
 | (.str x t,v)=>⟨PyData.keyHash P x,.str x t,v⟩
 | (u,v)=>⟨0,u,v⟩
def oD (P:Params) (n:Nat) (es:List (Value×Value)):Obj:=⟨.type "dict",none,.dict (es.map (eD P)).toArray n,#[]⟩
abbrev nd (o:Obj) (l r:PySem.W.BT):PySem.W.BT:=.node o l r
abbrev lf (o:Obj):PySem.W.BT:=.node o .nil .nil
def j6 {K:Frg} (x:Str) (st:Stmt) (f:Addr) (pm cd:Value) (l:K.lookup f=some (oF x st pm cd)) (c:PySem.W.codeIn K cd x=true) (k:PySem.W.keepIn K (.ref f)=true) :
  Fun K x x st f (PySem.W.fnOf x x (QG st) (zK st) (qj st) .none .none .none pm none cd .none):=qds l c k
def jO {K:Frg} {h:Heap} {mg:Str->Option Value} (X:K.In h) (G:h.Ns mainGlobals mg) (n:Str) (v:Value) (e:PySem.W.nsIn K mainGlobals n=some (some v)):mg n=some v:=PySem.W.mg_of X G e
def Z4 {K:Frg} {h:Heap} {mg:Str->Option Value} (X:K.In h) (G:h.Ns mainGlobals mg) (n:Str) (e:PySem.W.nsIn K mainGlobals n=some none):mg n=none:=PySem.W.mg_none_of X G e
def head {l:OpenLaw} {q:Program} {loose:List Str} {K:Params->Frag} {as:List Addr} {d:DefRec} {N:Nat} {k:Nat} {x:Str} (ha:∀ P,as=(K P).map (·.1))
  (ok:l.wellSaid=true)
  (left:LeftO l.prog q loose (λs=>xlAt q [] s&&recOk [] s) (λs=>as.map s.heap.get?) (λw=>(K w.params).map λp=>some p.2) N)
  (hdef:defOf q l.name=some (d,[])) (hp:l.prog.theDef l.name=some (d.params,d.body,d.scope)) (hk:kwWritten? d.params.kwonlyargs d.params.kw_defaults=some [])
  (hwr:(!l.row.writes||l.row.records.isEmpty)=true) (ok2:(chainsOk q&&opensWell l.prog&&(frees l.row.toRowW&&l.row.within.isEmpty))=true) (hb:l.prog.bare) (hw:l.row.toRowW.promised)
  (hn:l.most=some 63) (hdf:d.params.defaults=[]) (hr:Room k callerA) (hK:∀ w:World,JG (K w.params)=true)
  (F:∀ (w:World) (mg:Str->Option Value) (fa:Addr) (h:Heap),(K w.params).In h->h.Ns mainGlobals mg->mg d.name=some (.ref fa) ->
   ∃ fd:FuncData,(∀ (s:Shared) (u:Value),BindsTo s fd ⟨[u],[]⟩ [(x,u)])/\∀ base:Heap,(K w.params).In base->base.Ns mainGlobals mg->FnOk l.prog w (K w.params) mg base CX0 k fa fd [x] (lSp (K w.params) VU)):l.Holds:=by
 refine holds_law ok λsaid=>?_;exact holds_open (q:=q) (loose:=loose) (Xt:=λs=>xlAt q [] s&&recOk [] s) (XP:=XL q []) (Yf:=Hook.obs (kHook K as ha)) (Ya:=Hook.val (kHook K as ha)) (YP:=Hook.says (kHook K as ha)) (N:=N) left
  (Hook.of (kHook K as ha)) (Hook.keeps (kHook K as ha)) (λs e=>xl_of s (Bool.and_eq_true_iff.mp e).1) XL.keeps hdef hp hk (λs e=>recFacts_of (Bool.and_eq_true_iff.mp e).2) hwr said ok2 hb hw
  (L3.qfE (l:=l) (k:=k) (x:=x) hn hdf hr (λw h Y=>kIn_of Y) hK F)
end Hd
namespace K11
open PySem L2 L3 Bk
def top (i : Nat) : Stmt := PySem.Challenge.pw_bankwalk_k11_what_walks_are.main.body.getD i (.Pass ⟨0,0,0,0⟩)
variable {P:Program} {w:World} {K:Frg} {mg:Str->Option Value} {base:Heap} {f:Addr} {fd:FuncData} {k:Nat} {sp:Sp3}
abbrev ju:Stmt:=top 1
abbrev jH:List Str:=["thing"]
abbrev ZC:List Str:=["thing"]
def UU:FnScope jH ZC (qj ju):=⟨rfl,rfl,rfl,by decide +kernel,rfl,by decide +kernel,by decide +kernel⟩
def EH (F:Fun K "is_number" "is_number" ju f fd) (bd:zW K fd ZC []) (hm:mg "is_number" = some (.ref f))  (m_isinstance:mg "isinstance" = none) (m_bool:mg "bool" = none) (m_int:mg "int" = none)
  (read:Rd sp 1 (Bk.zh) jH):Fn3 P w K mg base (k+1) "is_number" sp:=
 zf (t3:=(Bk.zh)) F UU bd hm (λcdv A outer s H E hr=>(qq (qt (zI (jG (qb 0) rfl m_isinstance rfl m_int PyProof.Rows.boot_int) (zZ (qah (jG (qb 0) rfl m_isinstance rfl m_bool PyProof.Rows.boot_bool))))))) read
abbrev zN:Stmt:=top 2
abbrev z4:List Str:=["thing","least"]
abbrev jR:List Str:=["thing","least"]
def YX:FnScope z4 jR (qj zN):=⟨rfl,rfl,rfl,by decide +kernel,rfl,by decide +kernel,by decide +kernel⟩
def z9 (S_is_number:Sp3):TS3:=(zw (jc (cb3 S_is_number (qc (v3 0) qp)) (o3 (iB λi j=>decide (j<=i)) (v3 0) (v3 1))))
def VB {S_is_number:Sp3} (F:Fun K "is_at_least" "is_at_least" zN f fd) (bd:zW K fd jR []) (hm:mg "is_at_least" = some (.ref f)) (qm:Fn3 P w K mg base k "is_number" S_is_number) 
  (read:Rd sp 2 (z9 S_is_number) z4):Fn3 P w K mg base (k+1) "is_at_least" sp:=
 zf (t3:=(z9 S_is_number)) F YX bd hm (λcdv A outer s H E hr=>(qq (qt (zI (qk qm hr rfl (qa (qb 0) qe)) (zZ (zF R0 Q0 (qb 0) (qb 1) (qr _))))))) read
abbrev zH:Stmt:=top 3
abbrev zQ:List Str:=["things","least"]
abbrev jA:List Str:=["things","least"]
def J3:FnScope zQ jA (qj zH):=⟨rfl,rfl,rfl,by decide +kernel,rfl,by decide +kernel,by decide +kernel⟩
def zM (S_is_at_least:Sp3):TS3:=(zw (cb3 qa0 (qc (lc3 (U4 (v3 0)) (gn3 0) tt3 (cb3 S_is_at_least (qc (v3 0) (qc (v3 1) qp))) [none,some 1]) qp)))
def YC {S_is_at_least:Sp3} (F:Fun K "are_at_least" "are_at_least" zH f fd) (bd:zW K fd jA []) (hm:mg "are_at_least" = some (.ref f)) (qo:Fn3 P w K mg base k "is_at_least" S_is_at_least) (m_all:mg "all" = none)
  (read:Rd sp 2 (zM S_is_at_least) zQ):Fn3 P w K mg base (k+1) "are_at_least" sp:=
 zf (t3:=(zM S_is_at_least)) F J3 bd hm (λcdv A outer s H E hr=>(qq (qt (qA (jy rfl) D5 rfl m_all PyProof.Rows.boot_all (qa (LG ["thing","least"] [none,some 1] rfl (XA (qb 0)) (λ_ _ _=>(jgn 0)) (λ_ _ _=>W0) (λ_ _ _=>(qk qo hr rfl (qa (qb 0) (qa (qb 1) qe)))) (by kernel_rfl) (by kernel_rfl)) qe))))) read
abbrev QI:Stmt:=top 4
abbrev ZX:List Str:=["thing"]
abbrev YM:List Str:=["thing"]
def CG:FnScope ZX YM (qj QI):=⟨rfl,rfl,rfl,by decide +kernel,rfl,by decide +kernel,by decide +kernel⟩
def CH {S_is_number:Sp3} (F:Fun K "is_pair" "is_pair" QI f fd) (bd:zW K fd YM []) (hm:mg "is_pair" = some (.ref f)) (qm:Fn3 P w K mg base k "is_number" S_is_number) (m_len:mg "len" = none) (m_isinstance:mg "isinstance" = none) (m_tuple:mg "tuple" = none)
  (read:Rd sp 1 (Bk.ZH S_is_number) ZX):Fn3 P w K mg base (k+1) "is_pair" sp:=
 zf (t3:=(Bk.ZH S_is_number)) F CG bd hm (λcdv A outer s H E hr=>(qq (qt (zI (jG (qb 0) rfl m_isinstance rfl m_tuple PyProof.Rows.boot_tuple) (zI (zF (zg hr.units) qI (qA zb zE rfl m_len PySem.boot_len (qa (qb 0) qe)) qd (qr _)) (zI (qk qm hr rfl (qa (qz (qb 0) qd) qe)) (zZ (qk qm hr rfl (qa (qz (qb 0) qd) qe))))))))) read
abbrev QR:Stmt:=top 7
abbrev ZW:List Str:=["thing"]
abbrev J8:List Str:=["thing"]
def X3:FnScope ZW J8 (qj QR):=⟨rfl,rfl,rfl,by decide +kernel,rfl,by decide +kernel,by decide +kernel⟩
def ZS (S_is_number:Sp3) (S_is_at_least:Sp3):TS3:=(zi (jI (or3 (tb3 (o3 (jk true) (cb3 YT (qc (v3 0) qp)) (c3 (.int 4)))) (or3 (EI (tb3 (cb3 S_is_number (qc (o3 ix3 (v3 0) (c3 (.int 1))) qp)))) (EI (tb3 (cb3 S_is_number (qc (o3 ix3 (v3 0) (c3 (.int 2))) qp)))))) (zw (c3 (.bl false))) qV) (zw (jc (qcX (o3 (jk true) (o3 ix3 (v3 0) (c3 (.int 1))) (c3 (.int 0))) (o3 (jk true) (o3 ix3 (v3 0) (c3 (.int 2))) (c3 (.int 0)))) (cb3 S_is_at_least (qc (o3 ix3 (v3 0) (c3 (.int 3))) (qc (c3 (.int 1)) qp))))))
def CC {S_is_number:Sp3} {S_is_at_least:Sp3} (F:Fun K "is_step" "is_step" QR f fd) (bd:zW K fd J8 []) (hm:mg "is_step" = some (.ref f)) (qm:Fn3 P w K mg base k "is_number" S_is_number) (qo:Fn3 P w K mg base k "is_at_least" S_is_at_least) (m_len:mg "len" = none)
  (read:Rd sp 1 (ZS S_is_number S_is_at_least) ZW):Fn3 P w K mg base (k+1) "is_step" sp:=
 zf (t3:=(ZS S_is_number S_is_at_least)) F X3 bd hm (λcdv A outer s H E hr=>(qh (z6 (jpt (ZD (qQ (Q1 hr.units) jz (qA zb zE rfl m_len PySem.boot_len (qa (qb 0) qe)) qd (qr _)) (ZD (jY (jW (qk qm hr rfl (qa (qz (qb 0) qd) qe)))) (YA (jY (jW (qk qm hr rfl (qa (qz (qb 0) qd) qe)))))))) (qq (qt JL)) qZ) (qq (qt (zI (qbF (zF (Q1 hr.units) jz (qz (qb 0) qd) qd (qr _)) (zZ (zF (Q1 hr.units) jz (qz (qb 0) qd) qd (qr _)))) (zZ (qk qo hr rfl (qa (qz (qb 0) qd) (qa qd qe))))))))) read
abbrev jM:Stmt:=top 8
abbrev QQ:List Str:=["thing"]
abbrev ZZ:List Str:=["thing"]
def E6:FnScope QQ ZZ (qj jM):=⟨rfl,rfl,rfl,by decide +kernel,rfl,by decide +kernel,by decide +kernel⟩
def QN (S_is_pair:Sp3):TS3:=(zi (jI (or3 (tb3 (o3 (jk true) (cb3 YT (qc (v3 0) qp)) (c3 (.int 2)))) (or3 (EI (tb3 (DT (λt=>ja t "tuple") (o3 ix3 (v3 0) (c3 (.int 1)))))) (tb3 (o3 (jk false) (cb3 YT (qc (o3 ix3 (v3 0) (c3 (.int 1))) qp)) (c3 (.int 0)))))) (zw (c3 (.bl false))) qV) (zi (jI (EI (tb3 (cb3 qa0 (qc (lc3 (U4 (o3 ix3 (v3 0) (c3 (.int 1)))) (gn3 0) tt3 (cb3 S_is_pair (qc (v3 0) qp)) [none]) qp)))) (zw (c3 (.bl false))) qV) (zw (o3 (jk false) (RT (o3 ix3 (v3 0) (c3 (.int 1)))) (cb3 YT (qc (o3 ix3 (v3 0) (c3 (.int 1))) qp))))))
def DS {S_is_pair:Sp3} (F:Fun K "is_cells" "is_cells" jM f fd) (bd:zW K fd ZZ []) (hm:mg "is_cells" = some (.ref f)) (zC:Fn3 P w K mg base k "is_pair" S_is_pair) (m_len:mg "len" = none) (m_isinstance:mg "isinstance" = none) (m_tuple:mg "tuple" = none) (m_all:mg "all" = none) (m_set:mg "set" = none)
  (read:Rd sp 1 (QN S_is_pair) QQ):Fn3 P w K mg base (k+1) "is_cells" sp:=
 zf (t3:=(QN S_is_pair)) F E6 bd hm (λcdv A outer s H E hr=>(qh (z6 (jpt (ZD (qQ (Q1 hr.units) jz (qA zb zE rfl m_len PySem.boot_len (qa (qb 0) qe)) qd (qr _)) (ZD (jY (jW (jG (qz (qb 0) qd) rfl m_isinstance rfl m_tuple PyProof.Rows.boot_tuple))) (YA (qQ (zg hr.units) qI (qA zb zE rfl m_len PySem.boot_len (qa (qz (qb 0) qd) qe)) qd (qr _)))))) (qq (qt JL)) qZ) (qh (z6 (jY (jW (qA (jy rfl) D5 rfl m_all PyProof.Rows.boot_all (qa (LG ["cell"] [none] rfl (XA (qz (qb 0) qd)) (λ_ _ _=>(jgn 0)) (λ_ _ _=>W0) (λ_ _ _=>(qk zC hr rfl (qa (qb 0) qe))) (by kernel_rfl) (by kernel_rfl)) qe)))) (qq (qt JL)) qZ) (qq (qt (zF (zg hr.units) qI (XJ rfl hr.units rfl m_len rfl m_set (qz (qb 0) qd)) (qA zb zE rfl m_len PySem.boot_len (qa (qz (qb 0) qd) qe)) (qr _))))))) read
abbrev QP:Stmt:=top 9
abbrev ZM:List Str:=["thing","kind"]
abbrev J6:List Str:=["thing"]
def VT:FnScope ZM J6 (qj QP):=⟨rfl,rfl,rfl,by decide +kernel,rfl,by decide +kernel,by decide +kernel⟩
def ZL (S_is_at_least:Sp3) (S_are_at_least:Sp3) (S_is_step:Sp3) (S_is_cells:Sp3):TS3:=(zi (jI (or3 (EI (tb3 (DT (λt=>ja t "tuple") (v3 0)))) (or3 (tb3 (o3 (jk false) (cb3 YT (qc (v3 0) qp)) (c3 (.int 0)))) (EI (tb3 (DT (λt=>ja t "str") (o3 ix3 (v3 0) (c3 (.int 0)))))))) (zw (c3 (.bl false))) qV) (zi (jo (o3 ix3 (v3 0) (c3 (.int 0))) (gn3 1)) (zi (jI (tb3 (qeL jq (v3 1))) (zw (jc (o3 (jk false) (cb3 YT (qc (v3 0) qp)) (c3 (.int 2))) (cb3 S_is_at_least (qc (o3 ix3 (v3 0) (c3 (.int 1))) (qc (c3 (.int 1)) qp))))) qV) (zi (jI (tb3 (o3 (jk false) (v3 1) (c3 (.str "block")))) (zw (jc (o3 (jk false) (cb3 YT (qc (v3 0) qp)) (c3 (.int 3))) (cb3 S_are_at_least (qc (LM (v3 0) (sp3 (c3 (.int 1))) np3) (qc (c3 (.int 1)) qp))))) qV) (zi (jI (tb3 (o3 (jk false) (v3 1) (c3 (.str "step")))) (zw (cb3 S_is_step (qc (v3 0) qp))) qV) (zw (jc (o3 (jk false) (v3 1) (c3 (.str "cells"))) (cb3 S_is_cells (qc (v3 0) qp)))))))))
def CD {S_is_at_least:Sp3} {S_are_at_least:Sp3} {S_is_step:Sp3} {S_is_cells:Sp3} (F:Fun K "is_walk" "is_walk" QP f fd) (bd:zW K fd J6 []) (hm:mg "is_walk" = some (.ref f)) (qo:Fn3 P w K mg base k "is_at_least" S_is_at_least) (qF:Fn3 P w K mg base k "are_at_least" S_are_at_least) (zS:Fn3 P w K mg base k "is_step" S_is_step) (zx:Fn3 P w K mg base k "is_cells" S_is_cells) (m_isinstance:mg "isinstance" = none) (m_str:mg "str" = none) (m_len:mg "len" = none) (m_tuple:mg "tuple" = none) (m_STRIDES:Tb K mg w "STRIDES" jq)
  (read:Rd sp 1 (ZL S_is_at_least S_are_at_least S_is_step S_is_cells) ZM):Fn3 P w K mg base (k+1) "is_walk" sp:=
 zf (t3:=(ZL S_is_at_least S_are_at_least S_is_step S_is_cells)) F VT bd hm (λcdv A outer s H E hr=>(qh (z6 (jpt (ZD (jY (jW (jG (qb 0) rfl m_isinstance rfl m_tuple PyProof.Rows.boot_tuple))) (ZD (qQ (zg hr.units) qI (qA zb zE rfl m_len PySem.boot_len (qa (qb 0) qe)) qd (qr _)) (YA (jY (jW (jG (qz (qb 0) qd) rfl m_isinstance rfl m_str PyProof.Rows.boot_str))))))) (qq (qt JL)) qZ) (qh (zo 1 VT.nd (qz (qb 0) qd)) (qh (z6 (KF m_STRIDES rfl (qb 1)) (qq (qt (zI (zF (zg hr.units) qI (qA zb zE rfl m_len PySem.boot_len (qa (qb 0) qe)) qd (qr _)) (zZ (qk qo hr rfl (qa (qz (qb 0) qd) (qa qd qe))))))) qZ) (qh (z6 (qQ (zg hr.units) qI (qb 1) qC (qr _)) (qq (qt (zI (zF (zg hr.units) qI (qA zb zE rfl m_len PySem.boot_len (qa (qb 0) qe)) qd (qr _)) (zZ (qk qF hr rfl (qa (QK (qb 0) (qS qd) qT) (qa qd qe))))))) qZ) (qh (z6 (qQ (zg hr.units) qI (qb 1) qC (qr _)) (qq (qt (qk zS hr rfl (qa (qb 0) qe)))) qZ) (qq (qt (zI (zF (zg hr.units) qI (qb 1) qC (qr _)) (zZ (qk zx hr rfl (qa (qb 0) qe)))))))))))) read
abbrev QM:Stmt:=top 11
abbrev U7:List Str:=["_law_cell","_law_k","_law_m"]
abbrev J9:List Str:=["_law_cell","_law_k"]
def VI:FnScope U7 J9 (qj QM):=⟨rfl,rfl,rfl,by decide +kernel,rfl,by decide +kernel,by decide +kernel⟩
def CF (F:Fun K "_law_mix" "_law_mix" QM f fd) (bd:zW K fd J9 []) (hm:mg "_law_mix" = some (.ref f))  
  (read:Rd sp 2 (Bk.ZK) U7):Fn3 P w K mg base (k+1) "_law_mix" sp:=
 zf (t3:=(Bk.ZK)) F VI bd hm (λcdv A outer s H E hr=>(qh (zo 2 VI.nd (U9 (Q2 (zy (zy (U9 (qb 0) qd) (Q2 (Q2 (qb 1) (qb 1)) qd)) qd) qd) qd)) (qq (qt (U9 (Q2 (qb 2) (qb 2)) qd))))) read
abbrev jQ:Stmt:=top 12
abbrev VS:List Str:=["_law_script","_law_k","_law_cell","_law_own"]
abbrev JE:List Str:=["_law_script","_law_k"]
def ZA:FnScope VS JE (qj jQ):=⟨rfl,rfl,rfl,by decide +kernel,rfl,by decide +kernel,by decide +kernel⟩
def E7 (F:Fun K "_law_left" "_law_left" jQ f fd) (bd:zW K fd JE []) (hm:mg "_law_left" = some (.ref f))  (m_len:mg "len" = none) (m_abs:mg "abs" = none)
  (read:Rd sp 2 (Bk.QU) VS):Fn3 P w K mg base (k+1) "_law_left" sp:=
 zf (t3:=(Bk.QU)) F ZA bd hm (λcdv A outer s H E hr=>(qh (zo 2 ZA.nd (qca (qQ LI Q0 (qb 1) (qA zb zE rfl m_len PySem.boot_len (qa (qb 0) qe)) (qr _)) (qz (qb 0) (qb 1)) qd)) (qh (zo 3 ZA.nd (qca (qQ R0 Q0 (qA W7 TL rfl m_abs PyProof.Rows.boot_abs (qa (qb 2) qe)) (qan qd qd) (qr _)) (qA W7 TL rfl m_abs PyProof.Rows.boot_abs (qa (qb 2) qe)) qd)) (qq (qt (jX (qa (qb 3) (qa (zy (qb 2) (Q2 qd (qb 1))) (qa qd qe))))))))) read
abbrev jN:Stmt:=top 13
abbrev VL:List Str:=["_law_left_here","_law_many_here","_law_digit"]
abbrev JF:List Str:=["_law_left_here","_law_many_here"]
def YK:FnScope VL JF (qj jN):=⟨rfl,rfl,rfl,by decide +kernel,rfl,by decide +kernel,by decide +kernel⟩
def DX {S_law_mix:Sp3} (F:Fun K "_law_pick" "_law_pick" jN f fd) (bd:zW K fd JF []) (hm:mg "_law_pick" = some (.ref f)) (F_law_mix:Fn3 P w K mg base k "_law_mix" S_law_mix) 
  (read:Rd sp 2 (Bk.QH S_law_mix) VL):Fn3 P w K mg base (k+1) "_law_pick" sp:=
 zf (t3:=(Bk.QH S_law_mix)) F YK bd hm (λcdv A outer s H E hr=>(qh (NB (zy (qz (qb 0) qd) qd) (MF (qb 0) qd)) (qh (z6 (qQ qfU Q0 (qz (qb 0) qd) qd (qr _)) (qh (zo 2 YK.nd (U9 (qz (qb 0) qd) (qb 1))) (qh (NB (TZ (qz (qb 0) qd) (qb 1)) (MF (qb 0) qd)) (qq (qt (qb 2))))) qZ) (qq (qt (U9 (TZ (qk F_law_mix hr rfl (qa (qk F_law_mix hr rfl (qa (qz (qb 0) qd) (qa (qz (qb 0) qd) qe))) (qa (zy (qz (qb 0) qd) qd) qe))) qd) (qb 1))))))) read
abbrev jS:Stmt:=top 14
abbrev VP:List Str:=["_law_left_here"]
abbrev JC:List Str:=["_law_left_here"]
def DQ:FnScope VP JC (qj jS):=⟨rfl,rfl,rfl,by decide +kernel,rfl,by decide +kernel,by decide +kernel⟩
def E9 {S_law_pick:Sp3} (F:Fun K "_law_many" "_law_many" jS f fd) (bd:zW K fd JC []) (hm:mg "_law_many" = some (.ref f)) (F_law_pick:Fn3 P w K mg base k "_law_pick" S_law_pick) 
  (read:Rd sp 1 (Bk.QS S_law_pick) VP):Fn3 P w K mg base (k+1) "_law_many" sp:=
 zf (t3:=(Bk.QS S_law_pick)) F DQ bd hm (λcdv A outer s H E hr=>(qq (qt (zy qd (qk F_law_pick hr rfl (qa (qb 0) (qa (qz (jX (qa qd (qa qd (qa qd (qa qd (qa qd (qa qd (qa qd (qa qd qe))))))))) (qk F_law_pick hr rfl (qa (qb 0) (qa qd qe)))) qe))))))) read
abbrev jP:Stmt:=top 15
abbrev VM:List Str:=["_law_left_here","_law_way","_law_lying","_law_high","_law_wide","_law_down","_law_along","_law_pairs","_law_far","_law_turn","_law_pair"]
abbrev JH:List Str:=["_law_left_here"]
def ze:FnScope VM JH (qj jP):=⟨rfl,rfl,rfl,by decide +kernel,rfl,by decide +kernel,by decide +kernel⟩
def DL {S_law_pick:Sp3} {S_law_many:Sp3} (F:Fun K "_law_walk" "_law_walk" jP f fd) (bd:zW K fd JH []) (hm:mg "_law_walk" = some (.ref f)) (F_law_pick:Fn3 P w K mg base k "_law_pick" S_law_pick) (F_law_many:Fn3 P w K mg base k "_law_many" S_law_many) (m_int:mg "int" = none) (m_range:mg "range" = none) (m_tuple:mg "tuple" = none)
  (read:Rd sp 1 (Bk.QV S_law_pick S_law_many) VM):Fn3 P w K mg base (k+1) "_law_walk" sp:=
 zf (t3:=(Bk.QV S_law_pick S_law_many)) F ze bd hm (λcdv A outer s H E hr=>(qh (zo 1 ze.nd (qk F_law_pick hr rfl (qa (qb 0) (qa qd qe)))) (qh (z6 (qQ LI Q0 (qb 1) qd (qr _)) (qq (qt (qU (qa (qz (jX (qa qC (qa qC (qa qC (qa qC qe))))) (qb 1)) (qa (qk F_law_many hr rfl (qa (qb 0) qe)) qe))))) qZ) (qh (z6 (qQ LI Q0 (qb 1) qd (qr _)) (qh (EO (i:=2) (j:=3) rfl ze.nd rfl rfl (by decide) rfl rfl (qa (qk F_law_pick hr rfl (qa (qb 0) (qa qd qe))) (qa (zy qd (qk F_law_pick hr rfl (qa (qb 0) (qa qd qe)))) qe))) (qh (zo 4 ze.nd (zy qd (qk F_law_pick hr rfl (qa (qb 0) (qa (TZ qd (qb 3)) qe))))) (qq (qt (qz (jX (qa (qU (qa qC (qa (qb 3) (qa (qb 4) qe)))) (qa (qU (qa qC (qa (qb 4) (qa (qb 3) qe)))) qe))) (qb 2)))))) qZ) (qh (z6 (qQ LI Q0 (qb 1) qd (qr _)) (qh (EO (i:=5) (j:=6) rfl ze.nd rfl rfl (by decide) rfl rfl (qa (EF (qk F_law_pick hr rfl (qa (qb 0) (qa qd qe))) qd) (qa (EF (qk F_law_pick hr rfl (qa (qb 0) (qa qd qe))) qd) qe))) (qh (z6 (qQ (zg hr.units) qI (qk F_law_pick hr rfl (qa (qb 0) (qa qd qe))) qd (qr _)) (qq (qt (qU (qa qC (qa (Q2 qd (qb 5)) (qa (zy (Q2 qd (qb 6)) (zD YB DC rfl m_int PyProof.Rows.boot_int (qa (zI (zF (zg hr.units) qI (qb 5) qd (qr _)) (zZ (zF (zg hr.units) qI (qb 6) qd (qr _)))) qe))) (qa (zy qd (qk F_law_pick hr rfl (qa (qb 0) (qa qd qe)))) qe))))))) qZ) (qq (qt (qU (qa qC (qa (qb 5) (qa (zy (qb 6) (zD YB DC rfl m_int PyProof.Rows.boot_int (qa (zI (zF (zg hr.units) qI (qb 5) qd (qr _)) (zZ (zF (zg hr.units) qI (qb 6) qd (qr _)))) qe))) (qa (qk F_law_many hr rfl (qa (qb 0) qe)) qe))))))))) qZ) (qh (EO (i:=7) (j:=8) rfl ze.nd rfl rfl (by decide) rfl rfl (qa (jX qe) (qa (zy qd (Q2 qd (zD YB DC rfl m_int PyProof.Rows.boot_int (qa (zF (zg hr.units) qI (qk F_law_pick hr rfl (qa (qb 0) (qa qd qe))) qd (qr _)) qe)))) qe))) (qh (W6 PassesOwn.never rfl (YG rfl m_range (qa (qk F_law_many hr rfl (qa (qb 0) qe)) qe) (h1:=by intro _ _ _ h;simpa [qc,qp] using h)) (JI (i:=9) (ze.nd)) (qh (zo 10 ze.nd (qU (qa (Q2 (qb 8) (EF (qk F_law_pick hr rfl (qa (qb 0) (qa qd qe))) qd)) (qa (Q2 (qb 8) (EF (qk F_law_pick hr rfl (qa (qb 0) (qa qd qe))) qd)) qe)))) (qq (z6 (qQ (RC hr.units) D6 (qb 10) (qb 7) (by with_unfolding_all rfl)) (qq (qay (TB (qb 7) (qa (qb 10) qe)))) qZ)))) (qq (qt (qU (qa qC (qa (zD V6 R4 rfl m_tuple PyProof.Rows.boot_tuple (qa (qb 7) qe)) qe)))))))))))) read
abbrev zu:Stmt:=top 16
abbrev zB:List Str:=["_law_thing"]
abbrev jj:List Str:=["_law_thing"]
def JY:FnScope zB jj (qj zu):=⟨rfl,rfl,rfl,by decide +kernel,rfl,by decide +kernel,by decide +kernel⟩
def JT (F:Fun K "_law_is_number" "_law_is_number" zu f fd) (bd:zW K fd jj []) (hm:mg "_law_is_number" = some (.ref f))  (m_isinstance:mg "isinstance" = none) (m_bool:mg "bool" = none) (m_int:mg "int" = none)
  (read:Rd sp 1 (Bk.zh) zB):Fn3 P w K mg base (k+1) "_law_is_number" sp:=
 zf (t3:=(Bk.zh)) F JY bd hm (λcdv A outer s H E hr=>(qq (qt (zI (jG (qb 0) rfl m_isinstance rfl m_int PyProof.Rows.boot_int) (zZ (qah (jG (qb 0) rfl m_isinstance rfl m_bool PyProof.Rows.boot_bool))))))) read
abbrev zc:Stmt:=top 17
abbrev zk:List Str:=["_law_thing","_law_many_here"]
abbrev zL:List Str:=["_law_thing","_law_many_here"]
def ZO:FnScope zk zL (qj zc):=⟨rfl,rfl,rfl,by decide +kernel,rfl,by decide +kernel,by decide +kernel⟩
def zj (S_law_is_number:Sp3):TS3:=(zw (jc (DT (λt=>ja t "tuple") (v3 0)) (jc (o3 (jk false) (cb3 YT (qc (v3 0) qp)) (v3 1)) (cb3 qa0 (qc (lc3 (U4 (v3 0)) (gn3 0) tt3 (cb3 S_law_is_number (qc (v3 0) qp)) [none]) qp)))))
def ZU {S_law_is_number:Sp3} (F:Fun K "_law_are_numbers" "_law_are_numbers" zc f fd) (bd:zW K fd zL []) (hm:mg "_law_are_numbers" = some (.ref f)) (qv:Fn3 P w K mg base k "_law_is_number" S_law_is_number) (m_all:mg "all" = none) (m_len:mg "len" = none) (m_isinstance:mg "isinstance" = none) (m_tuple:mg "tuple" = none)
  (read:Rd sp 2 (zj S_law_is_number) zk):Fn3 P w K mg base (k+1) "_law_are_numbers" sp:=
 zf (t3:=(zj S_law_is_number)) F ZO bd hm (λcdv A outer s H E hr=>(qq (qt (zI (jG (qb 0) rfl m_isinstance rfl m_tuple PyProof.Rows.boot_tuple) (zI (zF (zg hr.units) qI (qA zb zE rfl m_len PySem.boot_len (qa (qb 0) qe)) (qb 1) (qr _)) (zZ (qA (jy rfl) D5 rfl m_all PyProof.Rows.boot_all (qa (LG ["_law_one"] [none] rfl (XA (qb 0)) (λ_ _ _=>(jgn 0)) (λ_ _ _=>W0) (λ_ _ _=>(qk qv hr rfl (qa (qb 0) qe))) (by kernel_rfl) (by kernel_rfl)) qe)))))))) read
abbrev zO:Stmt:=top 18
abbrev z7:List Str:=["_law_thing","_law_k","_law_pair"]
abbrev jL:List Str:=["_law_thing"]
def jC:FnScope z7 jL (qj zO):=⟨rfl,rfl,rfl,by decide +kernel,rfl,by decide +kernel,by decide +kernel⟩
def z8 (S_law_are_numbers:Sp3):TS3:=(zi (jI (or3 (EI (tb3 (DT (λt=>ja t "tuple") (v3 0)))) (or3 (tb3 (o3 (jk false) (v3 0) (j0 qp))) (EI (tb3 (DT (λt=>ja t "str") (o3 ix3 (v3 0) (c3 (.int 0)))))))) (zw (c3 (.bl false))) qV) (zi (jI (tb3 (o3 (qc9 false) (o3 ix3 (v3 0) (c3 (.int 0))) (j0 (qc (c3 (.str "row")) (qc (c3 (.str "column")) (qc (c3 (.str "slant")) (qc (c3 (.str "back")) qp))))))) (zw (jc (cb3 S_law_are_numbers (qc (LM (v3 0) (sp3 (c3 (.int 1))) np3) (qc (c3 (.int 1)) qp))) (o3 (iB λi j=>decide (j<=i)) (o3 ix3 (v3 0) (c3 (.int 1))) (c3 (.int 1))))) qV) (zi (jI (tb3 (o3 (jk false) (o3 ix3 (v3 0) (c3 (.int 0))) (c3 (.str "block")))) (zw (jc (cb3 S_law_are_numbers (qc (LM (v3 0) (sp3 (c3 (.int 1))) np3) (qc (c3 (.int 2)) qp))) (o3 (iB λi j=>decide (j<=i)) (cb3 RX (qc (LM (v3 0) (sp3 (c3 (.int 1))) np3) qp)) (c3 (.int 1))))) qV) (zi (jI (tb3 (o3 (jk false) (o3 ix3 (v3 0) (c3 (.int 0))) (c3 (.str "step")))) (zw (jc (cb3 S_law_are_numbers (qc (LM (v3 0) (sp3 (c3 (.int 1))) np3) (qc (c3 (.int 3)) qp))) (jc (o3 (iB λi j=>decide (j<=i)) (o3 ix3 (v3 0) (c3 (.int 3))) (c3 (.int 1))) (qcX (o3 (jk true) (o3 ix3 (v3 0) (c3 (.int 1))) (c3 (.int 0))) (o3 (jk true) (o3 ix3 (v3 0) (c3 (.int 2))) (c3 (.int 0))))))) qV) (zi (jI (or3 (tb3 (o3 (jk true) (o3 ix3 (v3 0) (c3 (.int 0))) (c3 (.str "cells")))) (or3 (tb3 (o3 (jk true) (cb3 YT (qc (v3 0) qp)) (c3 (.int 2)))) (or3 (EI (tb3 (DT (λt=>ja t "tuple") (o3 ix3 (v3 0) (c3 (.int 1)))))) (tb3 (o3 (jk false) (o3 ix3 (v3 0) (c3 (.int 1))) (j0 qp)))))) (zw (c3 (.bl false))) qV) (zi (CM (WN (qc (o3 ix3 (v3 0) (c3 (.int 1))) qp)) (LA 2 (UY (gn3 1) (UY (gn3 2) K7))) (jI (or3 (EI (tb3 (cb3 S_law_are_numbers (qc (v3 2) (qc (c3 (.int 2)) qp))))) (tb3 (o3 (qc9 false) (v3 2) (LM (o3 ix3 (v3 0) (c3 (.int 1))) np3 (sp3 (v3 1)))))) (zw (c3 (.bl false))) qV)) (zw (c3 (.bl true)))))))))
def YW {S_law_are_numbers:Sp3} (F:Fun K "_law_is_walk" "_law_is_walk" zO f fd) (bd:zW K fd jL []) (hm:mg "_law_is_walk" = some (.ref f)) (qi:Fn3 P w K mg base k "_law_are_numbers" S_law_are_numbers) (m_isinstance:mg "isinstance" = none) (m_str:mg "str" = none) (m_tuple:mg "tuple" = none) (m_min:mg "min" = none) (m_len:mg "len" = none) (m_enumerate:mg "enumerate" = none)
  (read:Rd sp 1 (z8 S_law_are_numbers) z7):Fn3 P w K mg base (k+1) "_law_is_walk" sp:=
 zf (t3:=(z8 S_law_are_numbers)) F jC bd hm (λcdv A outer s H E hr=>(qh (z6 (jpt (ZD (jY (jW (jG (qb 0) rfl m_isinstance rfl m_tuple PyProof.Rows.boot_tuple))) (ZD (qQ (zg hr.units) qI (qb 0) (qU qe) (qr _)) (YA (jY (jW (jG (qz (qb 0) qd) rfl m_isinstance rfl m_str PyProof.Rows.boot_str))))))) (qq (qt JL)) qZ) (qh (z6 (qQ (NZ hr.units) D6 (qz (qb 0) qd) (qU (qa qC (qa qC (qa qC (qa qC qe))))) (by with_unfolding_all rfl)) (qq (qt (zI (qk qi hr rfl (qa (QK (qb 0) (qS qd) qT) (qa qd qe))) (zZ (zF R0 Q0 (qz (qb 0) qd) qd (qr _)))))) qZ) (qh (z6 (qQ (zg hr.units) qI (qz (qb 0) qd) qC (qr _)) (qq (qt (zI (qk qi hr rfl (qa (QK (qb 0) (qS qd) qT) (qa qd qe))) (zZ (zF R0 Q0 (qA (SM rfl) KA rfl m_min PyProof.Rows.boot_min (qa (QK (qb 0) (qS qd) qT) qe)) qd (qr _)))))) qZ) (qh (z6 (qQ (zg hr.units) qI (qz (qb 0) qd) qC (qr _)) (qq (qt (zI (qk qi hr rfl (qa (QK (qb 0) (qS qd) qT) (qa qd qe))) (zI (zF R0 Q0 (qz (qb 0) qd) qd (qr _)) (zZ (qbF (zF (Q1 hr.units) jz (qz (qb 0) qd) qd (qr _)) (zZ (zF (Q1 hr.units) jz (qz (qb 0) qd) qd (qr _))))))))) qZ) (qh (z6 (jpt (ZD (qQ (Q1 hr.units) jz (qz (qb 0) qd) qC (qr _)) (ZD (qQ (Q1 hr.units) jz (qA zb zE rfl m_len PySem.boot_len (qa (qb 0) qe)) qd (qr _)) (ZD (jY (jW (jG (qz (qb 0) qd) rfl m_isinstance rfl m_tuple PyProof.Rows.boot_tuple))) (YA (qQ (zg hr.units) qI (qz (qb 0) qd) (qU qe) (qr _))))))) (qq (qt JL)) qZ) (qh (W6 PassesOwn.never rfl (qa2 rfl m_enumerate (qa (qz (qb 0) qd) qe)) (qeJ rfl (S5 (JI (i:=1) (jC.nd)) (S5 (JI (i:=2) (jC.nd)) qbZ))) (qq (z6 (jpt (ZD (jY (jW (qk qi hr rfl (qa (qb 2) (qa qd qe))))) (YA (qQ (NZ hr.units) D6 (qb 2) (QK (qz (qb 0) qd) qT (qS (qb 1))) (by with_unfolding_all rfl))))) (qq (qt JL)) qZ))) (qq (qt JL))))))))) read
abbrev zm:Stmt:=top 19
abbrev zq:List Str:=["_law_left_here","_law_pairs","_law_way","_law_at","_law_pair","_law_odd","_law_some"]
abbrev zX:List Str:=["_law_left_here","_law_pairs"]
def qH:FnScope zq zX (qj zm):=⟨rfl,rfl,rfl,by decide +kernel,rfl,by decide +kernel,by decide +kernel⟩
def zt (S_law_pick:Sp3):TS3:=(zi (CO 2 3 (qc (cb3 S_law_pick (qc (v3 0) (qc (c3 (.int 7)) qp))) (qc (cb3 S_law_pick (qc (v3 0) (qc (cb3 YT (qc (v3 1) qp)) qp))) qp))) (zi (jo (o3 ix3 (v3 1) (v3 3)) (gn3 4)) (zi (jo (o3 ix3 (VF (qc (j0 (qc (o3 ix3 (v3 4) (c3 (.int 0))) qp)) (qc (o3 zJ (v3 4) (j0 (qc (c3 (.int 0)) qp))) (qc (cb3 D0 (qc (v3 4) qp)) (qc (c3 .non) (qc (j0 (qc (c3 (.bl true)) (qc (o3 ix3 (v3 4) (c3 (.int 1))) qp))) (qc (j0 (qc (o3 ix3 (v3 4) (c3 (.int 0))) (qc (c3 (.str "0")) qp))) (qc (o3 ix3 (v3 4) (c3 (.int 0))) qp)))))))) (cb3 S_law_pick (qc (v3 0) (qc (c3 (.int 7)) qp)))) (gn3 5)) (zi (jo (VF (qc (o3 zJ (v3 1) (j0 (qc (v3 4) qp))) (qc (o3 zJ (j0 (qc (v3 4) qp)) (v3 1)) (qc (o3 zJ (o3 zJ (QY (v3 1) np3 (sp3 (v3 3))) (j0 (qc (v3 5) qp))) (QY (v3 1) (sp3 (o3 zJ (v3 3) (c3 (.int 1)))) np3)) (qc (o3 zJ (QY (v3 1) np3 (sp3 (v3 3))) (QY (v3 1) (sp3 (o3 zJ (v3 3) (c3 (.int 1)))) np3)) qp))))) (gn3 6)) (zi (jo (o3 zJ (v3 6) (VF (qc (cb3 D0 (qc (v3 1) qp)) (qc (j0 qp) (qc (o3 zJ (o3 zJ (QY (v3 1) np3 (sp3 (v3 3))) (j0 (qc (j0 (qc (o3 zJ (o3 ix3 (v3 4) (c3 (.int 0))) (c3 (.int 1))) (qc (o3 ix3 (v3 4) (c3 (.int 1))) qp))) qp))) (QY (v3 1) (sp3 (o3 zJ (v3 3) (c3 (.int 1)))) np3)) qp))))) (gn3 6)) (zw (j0 (qc (c3 (.str "cells")) (qc (o3 ix3 (v3 6) (v3 2)) qp)))))))))
def JA {S_law_pick:Sp3} (F:Fun K "_law_bent_cells" "_law_bent_cells" zm f fd) (bd:zW K fd zX []) (hm:mg "_law_bent_cells" = some (.ref f)) (F_law_pick:Fn3 P w K mg base k "_law_pick" S_law_pick) (m_len:mg "len" = none) (m_list:mg "list" = none)
  (read:Rd sp 2 (zt S_law_pick) zq):Fn3 P w K mg base (k+1) "_law_bent_cells" sp:=
 zf (t3:=(zt S_law_pick)) F qH bd hm (λcdv A outer s H E hr=>(qh (EO (i:=2) (j:=3) rfl qH.nd rfl rfl (by decide) rfl rfl (qa (qk F_law_pick hr rfl (qa (qb 0) (qa qd qe))) (qa (qk F_law_pick hr rfl (qa (qb 0) (qa (qA zb zE rfl m_len PySem.boot_len (qa (qb 1) qe)) qe))) qe))) (qh (zo 4 qH.nd (qz (qb 1) (qb 3))) (qh (zo 5 qH.nd (qz (jX (qa (qU (qa (qz (qb 4) qd) qe)) (qa (qu (qb 4) (qU (qa qd qe))) (qa (zD j8 UF rfl m_list PyProof.Rows.boot_list (qa (qb 4) qe)) (qa NA (qa (qU (qa JL (qa (qz (qb 4) qd) qe))) (qa (qU (qa (qz (qb 4) qd) (qa qC qe))) (qa (qz (qb 4) qd) qe)))))))) (qk F_law_pick hr rfl (qa (qb 0) (qa qd qe))))) (qh (zo 6 qH.nd (jX (qa (qu (qb 1) (qU (qa (qb 4) qe))) (qa (qu (qU (qa (qb 4) qe)) (qb 1)) (qa (qu (qu (qN (qb 1) qT (qS (qb 3))) (qU (qa (qb 5) qe))) (qN (qb 1) (qS (qu (qb 3) qd)) qT)) (qa (qu (qN (qb 1) qT (qS (qb 3))) (qN (qb 1) (qS (qu (qb 3) qd)) qT)) qe)))))) (qh (zo 6 qH.nd (qu (qb 6) (jX (qa (zD j8 UF rfl m_list PyProof.Rows.boot_list (qa (qb 1) qe)) (qa (qU qe) (qa (qu (qu (qN (qb 1) qT (qS (qb 3))) (qU (qa (qU (qa (qu (qz (qb 4) qd) qd) (qa (qz (qb 4) qd) qe))) qe))) (qN (qb 1) (qS (qu (qb 3) qd)) qT)) qe)))))) (qq (qt (qU (qa qC (qa (qz (qb 6) (qb 2)) qe))))))))))) read
abbrev jT:Stmt:=top 20
abbrev QJ:List Str:=["_law_left_here","_law_walk_here","_law_way","_law_at","_law_words","_law_word","_law_some","_law_one","_law_odd"]
abbrev Z3:List Str:=["_law_left_here","_law_walk_here"]
def zv:FnScope QJ Z3 (qj jT):=⟨rfl,rfl,rfl,by decide +kernel,rfl,by decide +kernel,by decide +kernel⟩
def QT (S_law_pick:Sp3) (S_law_bent_cells:Sp3):TS3:=(zi (CO 2 3 (qc (cb3 S_law_pick (qc (v3 0) (qc (c3 (.int 6)) qp))) (qc (o3 zJ (c3 (.int 1)) (cb3 S_law_pick (qc (v3 0) (qc (o3 (iI (·-·)) (cb3 YT (qc (v3 1) qp)) (c3 (.int 1))) qp)))) qp))) (zi (jo (VF (qc (c3 (.str "row")) (qc (c3 (.str "column")) (qc (c3 (.str "slant")) (qc (c3 (.str "back")) (qc (c3 (.str "block")) (qc (c3 (.str "step")) (qc (c3 (.str "cells")) (qc (c3 (.str "rows")) (qc (c3 (.str "Row")) (qc (c3 (.str "")) (qc (c3 (.str "row ")) (qc (c3 (.int 0)) qp))))))))))))) (gn3 4)) (zi (jo (o3 ix3 (v3 4) (cb3 S_law_pick (qc (v3 0) (qc (c3 (.int 12)) qp)))) (gn3 5)) (zi (jI (tb3 (o3 (jk false) (v3 2) (c3 (.int 0)))) (zw (o3 zJ (j0 (qc (v3 5) qp)) (QY (v3 1) (sp3 (c3 (.int 1))) np3))) qV) (zi (jI (tb3 (o3 (jk false) (v3 2) (c3 (.int 1)))) (zi (jo (VF (qc (o3 zJ (v3 1) (j0 (qc (c3 (.int 1)) qp))) (qc (QY (v3 1) np3 (sp3 (u3 qbe (c3 (.int 1))))) (qc (cb3 D0 (qc (v3 1) qp)) (qc (j0 (qc (v3 1) qp)) (qc (o3 zJ (QY (v3 1) (sp3 (c3 (.int 1))) np3) (QY (v3 1) np3 (sp3 (c3 (.int 1))))) (qc (o3 zJ (QY (v3 1) np3 (sp3 (v3 3))) (QY (v3 1) (sp3 (o3 zJ (v3 3) (c3 (.int 1)))) np3)) qp))))))) (gn3 6)) (zw (o3 ix3 (v3 6) (cb3 S_law_pick (qc (v3 0) (qc (c3 (.int 6)) qp)))))) qV) (zi (jI (tb3 (o3 (jk false) (o3 ix3 (v3 1) (c3 (.int 0))) (c3 (.str "cells")))) (zw (cb3 S_law_bent_cells (qc (v3 0) (qc (o3 ix3 (v3 1) (c3 (.int 1))) qp)))) qV) (zi (jo (o3 ix3 (v3 1) (v3 3)) (gn3 7)) (zi (jo (o3 ix3 (VF (qc (c3 (.int 0)) (qc (u3 qbe (c3 (.int 1))) (qc (o3 zJ (v3 7) (c3 (.int 1))) (qc (u3 qbe (v3 7)) (qc (c3 (.bl true)) (qc (c3 (.str "1")) (qc (c3 .non) (qc (j0 (qc (v3 7) qp)) (qc (c3 (.int 1)) (qc (c3 (.int 0)) (qc (o3 (iC KY (λi j=>i ^ j.toNat)) (c3 (.int 10)) (c3 (.int 9))) qp)))))))))))) (cb3 S_law_pick (qc (v3 0) (qc (c3 (.int 11)) qp)))) (gn3 8)) (zw (o3 zJ (o3 zJ (QY (v3 1) np3 (sp3 (v3 3))) (j0 (qc (v3 8) qp))) (QY (v3 1) (sp3 (o3 zJ (v3 3) (c3 (.int 1)))) np3)))))))))))
def DF {S_law_pick:Sp3} {S_law_bent_cells:Sp3} (F:Fun K "_law_bent" "_law_bent" jT f fd) (bd:zW K fd Z3 []) (hm:mg "_law_bent" = some (.ref f)) (F_law_pick:Fn3 P w K mg base k "_law_pick" S_law_pick) (F_law_bent_cells:Fn3 P w K mg base k "_law_bent_cells" S_law_bent_cells) (m_len:mg "len" = none) (m_list:mg "list" = none)
  (read:Rd sp 2 (QT S_law_pick S_law_bent_cells) QJ):Fn3 P w K mg base (k+1) "_law_bent" sp:=
 zf (t3:=(QT S_law_pick S_law_bent_cells)) F zv bd hm (λcdv A outer s H E hr=>(qh (EO (i:=2) (j:=3) rfl zv.nd rfl rfl (by decide) rfl rfl (qa (qk F_law_pick hr rfl (qa (qb 0) (qa qd qe))) (qa (qu qd (qk F_law_pick hr rfl (qa (qb 0) (qa (EF (qA zb zE rfl m_len PySem.boot_len (qa (qb 1) qe)) qd) qe)))) qe))) (qh (zo 4 zv.nd (jX (qa qC (qa qC (qa qC (qa qC (qa qC (qa qC (qa qC (qa qC (qa qC (qa qC (qa qC (qa qd qe)))))))))))))) (qh (zo 5 zv.nd (qz (qb 4) (qk F_law_pick hr rfl (qa (qb 0) (qa qd qe))))) (qh (z6 (qQ (zg hr.units) qI (qb 2) qd (qr _)) (qq (qt (qu (qU (qa (qb 5) qe)) (qN (qb 1) (qS qd) qT)))) qZ) (qh (z6 (qQ (zg hr.units) qI (qb 2) qd (qr _)) (qh (zo 6 zv.nd (jX (qa (qu (qb 1) (qU (qa qd qe))) (qa (qN (qb 1) qT (qS (SJ qd))) (qa (zD j8 UF rfl m_list PyProof.Rows.boot_list (qa (qb 1) qe)) (qa (qU (qa (qb 1) qe)) (qa (qu (qN (qb 1) (qS qd) qT) (qN (qb 1) qT (qS qd))) (qa (qu (qN (qb 1) qT (qS (qb 3))) (qN (qb 1) (qS (qu (qb 3) qd)) qT)) qe)))))))) (qq (qt (qz (qb 6) (qk F_law_pick hr rfl (qa (qb 0) (qa qd qe))))))) qZ) (qh (z6 (qQ (zg hr.units) qI (qz (qb 1) qd) qC (qr _)) (qq (qt (qk F_law_bent_cells hr rfl (qa (qb 0) (qa (qz (qb 1) qd) qe))))) qZ) (qh (zo 7 zv.nd (qz (qb 1) (qb 3))) (qh (zo 8 zv.nd (qz (jX (qa qd (qa (SJ qd) (qa (qu (qb 7) qd) (qa (SJ (qb 7)) (qa JL (qa qC (qa NA (qa (qU (qa (qb 7) qe)) (qa qd (qa qd (qa (qan qd qd) qe)))))))))))) (qk F_law_pick hr rfl (qa (qb 0) (qa qd qe))))) (qq (qt (qu (qu (qN (qb 1) qT (qS (qb 3))) (qU (qa (qb 8) qe))) (qN (qb 1) (qS (qu (qb 3) qd)) qT))))))))))))) read
abbrev Q4:Stmt:=top 21
abbrev KG:List Str:=["_law_script","_law_k","_law_left_here","_law_walk_here","_law_things","_law_thing","_law_kept","_law_found"]
abbrev qea:List Str:=["_law_script"]
def JR:FnScope KG qea (qj Q4):=⟨rfl,rfl,rfl,by decide +kernel,rfl,by decide +kernel,by decide +kernel⟩
def qbc (S_law_left:Sp3) (S_law_walk:Sp3) (S_law_bent:Sp3) (S_is_walk:Sp3) (S_law_is_walk:Sp3):TS3:=(zi (CM (VC (qc (o3 j3 (c3 (.int 1)) (cb3 qc7 (qc (c3 (.int 8)) (qc (cb3 YT (qc (v3 0) qp)) qp)))) qp)) (gn3 1) (zi (jo (cb3 S_law_left (qc (v3 0) (qc (v3 1) qp))) (gn3 2)) (zi (jo (cb3 S_law_walk (qc (v3 2) qp)) (gn3 3)) (zi (jo (o3 j3 (VF (qc (v3 3) qp)) (lc3 (VC (qc (c3 (.int 6)) qp)) (gn3 0) tt3 (cb3 S_law_bent (qc (v3 1) (qc (v3 2) qp))) [none,some 2,some 3])) (gn3 4)) (zi (CM (U4 (v3 4)) (gn3 5) (zi (jo (cb3 (DM true) (qc (v3 5) qp)) (gn3 6)) (zi (jo (cb3 S_is_walk (qc (v3 5) qp)) (gn3 7)) (jI (or3 (EI (tb3 (DT (λt=>ja t "bool") (v3 7)))) (or3 (tb3 (o3 (jk true) (v3 7) (cb3 S_law_is_walk (qc (v3 5) qp)))) (tb3 (o3 (jk true) (cb3 (DM true) (qc (v3 5) qp)) (v3 6))))) (zw (c3 (.bl false))) qV)))) (jI (EI (tb3 (cb3 S_law_is_walk (qc (v3 3) qp)))) (zw (c3 (.bl false))) qV)))))) (zw (c3 (.bl true))))
def qei {S_law_left:Sp3} {S_law_walk:Sp3} {S_law_bent:Sp3} {S_is_walk:Sp3} {S_law_is_walk:Sp3} (F:Fun K "law" "law" Q4 f fd) (F_law_left:Fn3 P w K mg base k "_law_left" S_law_left) (F_law_walk:Fn3 P w K mg base k "_law_walk" S_law_walk) (F_law_bent:Fn3 P w K mg base k "_law_bent" S_law_bent) (zR:Fn3 P w K mg base k "is_walk" S_is_walk) (qy:Fn3 P w K mg base k "_law_is_walk" S_law_is_walk) (m_len:mg "len" = none) (m_min:mg "min" = none) (m_range:mg "range" = none) (m_str:mg "str" = none) (m_isinstance:mg "isinstance" = none) (m_bool:mg "bool" = none)
  (read:Rd sp 1 (qbc S_law_left S_law_walk S_law_bent S_is_walk S_law_is_walk) KG):FnOk P w K mg base CX0 (k+1) f fd qea (lSp K sp):=
 KT (t3:=(qbc S_law_left S_law_walk S_law_bent S_is_walk S_law_is_walk)) F JR (λcdv A outer s H E hr=>(qh (W6 PassesOwn.never rfl (YG rfl m_range (qa (zy qd (qA (RK rfl) qa6 rfl m_min PyProof.Rows.boot_min (qa qd (qa (qA zb zE rfl m_len PySem.boot_len (qa (qb 0) qe)) qe)))) qe) (h1:=by intro _ _ _ h;simpa [qc,qp] using h)) (JI (i:=1) (JR.nd)) (qh (zo 2 JR.nd (qk F_law_left hr rfl (qa (qb 0) (qa (qb 1) qe)))) (qh (zo 3 JR.nd (qk F_law_walk hr rfl (qa (qb 2) qe))) (qh (zo 4 JR.nd (zy (jX (qa (qb 3) qe)) (LG ["_law_turn","_law_left_here","_law_walk_here"] [none,some 2,some 3] rfl (YG rfl m_range (qa qd qe) (h1:=by intro _ _ _ h;simpa [qc,qp] using h)) (λ_ _ _=>(jgn 0)) (λ_ _ _=>W0) (λ_ _ _=>(qk F_law_bent hr rfl (qa (qb 1) (qa (qb 2) qe)))) (by kernel_rfl) (by kernel_rfl)))) (qh (W6 PassesOwn.never rfl (XA (qb 4)) (JI (i:=5) (JR.nd)) (qh (zo 6 JR.nd (zD (YD hr.gd hr.units) WR rfl m_str PyProof.Rows.boot_str (qa (qb 5) qe))) (qh (zo 7 JR.nd (qk zR hr rfl (qa (qb 5) qe))) (qq (z6 (jpt (ZD (jY (jW (jG (qb 7) rfl m_isinstance rfl m_bool PyProof.Rows.boot_bool))) (ZD (qQ (Q1 hr.units) jz (qb 7) (qk qy hr rfl (qa (qb 5) qe)) (qr _)) (YA (qQ (Q1 hr.units) jz (zD (YD hr.gd hr.units) WR rfl m_str PyProof.Rows.boot_str (qa (qb 5) qe)) (qb 6) (qr _)))))) (qq (qt JL)) qZ))))) (qq (z6 (jY (jW (qk qy hr rfl (qa (qb 3) qe)))) (qq (qt JL)) qZ))))))) (qq (qt JL)))) read
end K11
namespace K11
open PySem L2 L3 Pu
def jh:PuS (Bk.zh):=(J0 (j5 (W5 (λt=>ja t "int") (bV 0)) (qbr (W5 (λt=>ja t "bool") (bV 0)))))
def qm:List PyData->Option PyData:=Pu.run jh.f 1 1 1000000000 false
def UX:Rd (PSp qm false) 1 (Bk.zh) jH:=jw jh jH 1 1000000000 false
def JP {x0:PyData}:qm [x0]=DU false (jh.f 1000000000 [.sh x0]):=id rfl
def z5:PuS (K11.z9 (PSp qm false)):=(J0 (j5 (qO (jp qm false) (qg (bV 0) qR)) (bO (opB λi j=>decide (j<=i)) (bV 0) (bV 1))))
def qo:List PyData->Option PyData:=Pu.run z5.f 2 2 1000000000 false
def YV:Rd (PSp qo false) 2 (K11.z9 (PSp qm false)) z4:=jw z5 z4 2 1000000000 false
def YU {x0 x1:PyData}:qo [x0,x1]=DU false (z5.f 1000000000 [.sh x0,.sh x1]):=id rfl
def zP:PuS (K11.zM (PSp qo false)):=(J0 (qO qc2 (qg (bLc (qbA (bV 0)) (gN 0) bTt (qO (jp qo false) (qg (bV 0) (qg (bV 1) qR))) [none,some 1] ⟨rfl⟩) qR)))
def qF:List PyData->Option PyData:=Pu.run zP.f 2 2 1000000000 false
def YJ:Rd (PSp qF false) 2 (K11.zM (PSp qo false)) zQ:=jw zP zQ 2 1000000000 false
def YI {x0 x1:PyData}:qF [x0,x1]=DU false (zP.f 1000000000 [.sh x0,.sh x1]):=id rfl
def zU:PuS (Bk.ZH (PSp qm false)):=(J0 (j5 (W5 (λt=>ja t "tuple") (bV 0)) (j5 (bO (ZJ false) (qO X9 (qg (bV 0) qR)) (qJ 2)) (j5 (qO (jp qm false) (qg (bO jm (bV 0) (qJ 0)) qR)) (qO (jp qm false) (qg (bO jm (bV 0) (qJ 1)) qR))))))
def zC:List PyData->Option PyData:=Pu.run zU.f 1 1 1000000000 false
def XF:Rd (PSp zC false) 1 (Bk.ZH (PSp qm false)) ZX:=jw zU ZX 1 1000000000 false
def XW {x0:PyData}:zC [x0]=DU false (zU.f 1000000000 [.sh x0]):=id rfl
def qX:PuS (K11.ZS (PSp qm false) (PSp qo false)):=(DZ (sIf (bOr (bTb (bO (ZJ true) (qO X9 (qg (bV 0) qR)) (qJ 4))) (bOr (CJ (bTb (qO (jp qm false) (qg (bO jm (bV 0) (qJ 1)) qR)))) (CJ (bTb (qO (jp qm false) (qg (bO jm (bV 0) (qJ 2)) qR)))))) (J0 (bBl false)) ZT) (J0 (j5 (qeY (bO (ZJ true) (bO jm (bV 0) (qJ 1)) (qJ 0)) (bO (ZJ true) (bO jm (bV 0) (qJ 2)) (qJ 0))) (qO (jp qo false) (qg (bO jm (bV 0) (qJ 3)) (qg (qJ 1) qR))))))
def zS:List PyData->Option PyData:=Pu.run qX.f 1 1 1000000000 false
def X7:Rd (PSp zS false) 1 (K11.ZS (PSp qm false) (PSp qo false)) ZW:=jw qX ZW 1 1000000000 false
def XU {x0:PyData}:zS [x0]=DU false (qX.f 1000000000 [.sh x0]):=id rfl
def zl:PuS (K11.QN (PSp zC false)):=(DZ (sIf (bOr (bTb (bO (ZJ true) (qO X9 (qg (bV 0) qR)) (qJ 2))) (bOr (CJ (bTb (W5 (λt=>ja t "tuple") (bO jm (bV 0) (qJ 1))))) (bTb (bO (ZJ false) (qO X9 (qg (bO jm (bV 0) (qJ 1)) qR)) (qJ 0))))) (J0 (bBl false)) ZT) (DZ (sIf (CJ (bTb (qO qc2 (qg (bLc (qbA (bO jm (bV 0) (qJ 1))) (gN 0) bTt (qO (jp zC false) (qg (bV 0) qR)) [none] ⟨rfl⟩) qR)))) (J0 (bBl false)) ZT) (J0 (bO (ZJ false) (NI (bO jm (bV 0) (qJ 1))) (qO X9 (qg (bO jm (bV 0) (qJ 1)) qR))))))
def zx:List PyData->Option PyData:=Pu.run zl.f 1 1 1000000000 false
def DJ:Rd (PSp zx false) 1 (K11.QN (PSp zC false)) QQ:=jw zl QQ 1 1000000000 false
def DR {x0:PyData}:zx [x0]=DU false (zl.f 1000000000 [.sh x0]):=id rfl
def qD:PuS (K11.ZL (PSp qo false) (PSp qF false) (PSp zS false) (PSp zx false)):=(DZ (sIf (bOr (CJ (bTb (W5 (λt=>ja t "tuple") (bV 0)))) (bOr (bTb (bO (ZJ false) (qO X9 (qg (bV 0) qR)) (qJ 0))) (CJ (bTb (W5 (λt=>ja t "str") (bO jm (bV 0) (qJ 0))))))) (J0 (bBl false)) ZT) (DZ (qgG (bO jm (bV 0) (qJ 0)) 1 [true] ⟨rfl⟩) (DZ (sIf (bTb (qg3 jq (bV 1))) (J0 (j5 (bO (ZJ false) (qO X9 (qg (bV 0) qR)) (qJ 2)) (qO (jp qo false) (qg (bO jm (bV 0) (qJ 1)) (qg (qJ 1) qR))))) ZT) (DZ (sIf (bTb (bO (ZJ false) (bV 1) (JQ "block"))) (J0 (j5 (bO (ZJ false) (qO X9 (qg (bV 0) qR)) (qJ 3)) (qO (jp qF false) (qg (bSl (bV 0) (bSp (qJ 1)) bNp) (qg (qJ 1) qR))))) ZT) (DZ (sIf (bTb (bO (ZJ false) (bV 1) (JQ "step"))) (J0 (qO (jp zS false) (qg (bV 0) qR))) ZT) (J0 (j5 (bO (ZJ false) (bV 1) (JQ "cells")) (qO (jp zx false) (qg (bV 0) qR)))))))))
def zR:List PyData->Option PyData:=Pu.run qD.f 1 2 1000000000 false
def XR:Rd (PSp zR false) 1 (K11.ZL (PSp qo false) (PSp qF false) (PSp zS false) (PSp zx false)) ZM:=jw qD ZM 1 1000000000 false
def XE {x0:PyData}:zR [x0]=DU false (qD.f 1000000000 [.sh x0,.un]):=id rfl
def zz:PuS (Bk.zh):=(J0 (j5 (W5 (λt=>ja t "int") (bV 0)) (qbr (W5 (λt=>ja t "bool") (bV 0)))))
def qv:List PyData->Option PyData:=Pu.run zz.f 1 1 1000000000 false
def JV:Rd (PSp qv false) 1 (Bk.zh) zB:=jw zz zB 1 1000000000 false
def JU {x0:PyData}:qv [x0]=DU false (zz.f 1000000000 [.sh x0]):=id rfl
def qG:PuS (K11.zj (PSp qv false)):=(J0 (j5 (W5 (λt=>ja t "tuple") (bV 0)) (j5 (bO (ZJ false) (qO X9 (qg (bV 0) qR)) (bV 1)) (qO qc2 (qg (bLc (qbA (bV 0)) (gN 0) bTt (qO (jp qv false) (qg (bV 0) qR)) [none] ⟨rfl⟩) qR)))))
def qi:List PyData->Option PyData:=Pu.run qG.f 2 2 1000000000 false
def ZR:Rd (PSp qi false) 2 (K11.zj (PSp qv false)) zk:=jw qG zk 2 1000000000 false
def ZV {x0 x1:PyData}:qi [x0,x1]=DU false (qG.f 1000000000 [.sh x0,.sh x1]):=id rfl
def qf:PuS (K11.z8 (PSp qi false)):=(DZ (sIf (bOr (CJ (bTb (W5 (λt=>ja t "tuple") (bV 0)))) (bOr (bTb (bO (ZJ false) (bV 0) (VH qR ⟨rfl⟩))) (CJ (bTb (W5 (λt=>ja t "str") (bO jm (bV 0) (qJ 0))))))) (J0 (bBl false)) ZT) (DZ (sIf (bTb (bO (qaQ false) (bO jm (bV 0) (qJ 0)) (VH (qg (JQ "row") (qg (JQ "column") (qg (JQ "slant") (qg (JQ "back") qR)))) ⟨rfl⟩))) (J0 (j5 (qO (jp qi false) (qg (bSl (bV 0) (bSp (qJ 1)) bNp) (qg (qJ 1) qR))) (bO (opB λi j=>decide (j<=i)) (bO jm (bV 0) (qJ 1)) (qJ 1)))) ZT) (DZ (sIf (bTb (bO (ZJ false) (bO jm (bV 0) (qJ 0)) (JQ "block"))) (J0 (j5 (qO (jp qi false) (qg (bSl (bV 0) (bSp (qJ 1)) bNp) (qg (qJ 2) qR))) (bO (opB λi j=>decide (j<=i)) (qO qbG (qg (bSl (bV 0) (bSp (qJ 1)) bNp) qR)) (qJ 1)))) ZT) (DZ (sIf (bTb (bO (ZJ false) (bO jm (bV 0) (qJ 0)) (JQ "step"))) (J0 (j5 (qO (jp qi false) (qg (bSl (bV 0) (bSp (qJ 1)) bNp) (qg (qJ 3) qR))) (j5 (bO (opB λi j=>decide (j<=i)) (bO jm (bV 0) (qJ 3)) (qJ 1)) (qeY (bO (ZJ true) (bO jm (bV 0) (qJ 1)) (qJ 0)) (bO (ZJ true) (bO jm (bV 0) (qJ 2)) (qJ 0)))))) ZT) (DZ (sIf (bOr (bTb (bO (ZJ true) (bO jm (bV 0) (qJ 0)) (JQ "cells"))) (bOr (bTb (bO (ZJ true) (qO X9 (qg (bV 0) qR)) (qJ 2))) (bOr (CJ (bTb (W5 (λt=>ja t "tuple") (bO jm (bV 0) (qJ 1))))) (bTb (bO (ZJ false) (bO jm (bV 0) (qJ 1)) (VH qR ⟨rfl⟩)))))) (J0 (bBl false)) ZT) (DZ (qgV (qbx (qg (bO jm (bV 0) (qJ 1)) qR)) (qeM 2 (TW (gN 1) (TW (gN 2) qeX))) (sIf (bOr (CJ (bTb (qO (jp qi false) (qg (bV 2) (qg (qJ 2) qR))))) (bTb (bO (qaQ false) (bV 2) (bSl (bO jm (bV 0) (qJ 1)) bNp (bSp (bV 1)))))) (J0 (bBl false)) ZT) [true] ⟨rfl⟩) (J0 (bBl true))))))))
def qy:List PyData->Option PyData:=Pu.run qf.f 1 3 1000000000 false
def VG:Rd (PSp qy false) 1 (K11.z8 (PSp qi false)) z7:=jw qf z7 1 1000000000 false
def Y0 {x0:PyData}:qy [x0]=DU false (qf.f 1000000000 [.sh x0,.un,.un]):=id rfl
def zr:PwS 0 (K11.zt Bk.qP):=(VD (qfj (SN (eDr UD (aOf (qg (qJ 7) qR))) (SN (eDr UD (aOf (qg (qO X9 (qg (bV 1) qR)) qR))) (aOf qR))) 2 3 [false,true] ⟨rfl⟩ ⟨rfl⟩) (VD (WE (eOf (bO jm (bV 1) (bV 3))) 4 [false,true,false,true] ⟨rfl⟩ ⟨rfl⟩) (VD (WE (eO jm (eOf (LH (qg (VH (qg (bO jm (bV 4) (qJ 0)) qR) ⟨rfl⟩) (qg (bO qY (bV 4) (VH (qg (qJ 0) qR) ⟨rfl⟩)) (qg (qO qeP (qg (bV 4) qR)) (qg qfp (qg (VH (qg (bBl true) (qg (bO jm (bV 4) (qJ 1)) qR)) ⟨rfl⟩) (qg (VH (qg (bO jm (bV 4) (qJ 0)) (qg (JQ "0") qR)) ⟨rfl⟩) (qg (bO jm (bV 4) (qJ 0)) qR))))))) ⟨rfl⟩)) (eDr UD (aOf (qg (qJ 7) qR)))) 5 [false,false,false,false,true] ⟨rfl⟩ ⟨rfl⟩) (VD (WE (eOf (LH (qg (bO qY (bV 1) (VH (qg (bV 4) qR) ⟨rfl⟩)) (qg (bO qY (VH (qg (bV 4) qR) ⟨rfl⟩) (bV 1)) (qg (bO qY (bO qY (EX (bV 1) bNp (bSp (bV 3))) (VH (qg (bV 5) qR) ⟨rfl⟩)) (EX (bV 1) (bSp (bO qY (bV 3) (qJ 1))) bNp)) (qg (bO qY (EX (bV 1) bNp (bSp (bV 3))) (EX (bV 1) (bSp (bO qY (bV 3) (qJ 1))) bNp)) qR)))) ⟨rfl⟩)) 6 [false,true,false,true,true,true] ⟨rfl⟩ ⟨rfl⟩) (VD (WE (eOf (bO qY (bV 6) (LH (qg (qO qeP (qg (bV 1) qR)) (qg (VH qR ⟨rfl⟩) (qg (bO qY (bO qY (EX (bV 1) bNp (bSp (bV 3))) (VH (qg (VH (qg (bO qY (bO jm (bV 4) (qJ 0)) (qJ 1)) (qg (bO jm (bV 4) (qJ 1)) qR)) ⟨rfl⟩) qR) ⟨rfl⟩)) (EX (bV 1) (bSp (bO qY (bV 3) (qJ 1))) bNp)) qR))) ⟨rfl⟩))) 6 [false,true,false,true,true,false,true] ⟨rfl⟩ ⟨rfl⟩) (MT (eOf (VH (qg (JQ "cells") (qg (bO jm (bV 6) (bV 2)) qR)) ⟨rfl⟩))))))))
def qM:Wm:=qgp zr 2 7 false
def Z5:Rd (DSp qM.W false) 2 (K11.zt Bk.qP) zq:=S7 zr zq 2 false
def JJ {x0:PyData} {n:Nat} {Q:QD}:qM.W [x0] n Q=(2=2/\zr.w [.un,.sh x0,.un,.un,.un,.un,.un] n (qeU false Q)):=id rfl
def QL:PwS 0 (K11.QT Bk.qP (DSp qM.W false)):=(VD (qfj (SN (eDr UD (aOf (qg (qJ 6) qR))) (SN (eO qY (eOf (qJ 1)) (eDr UD (aOf (qg (bO (opI (·-·)) (qO X9 (qg (bV 1) qR)) (qJ 1)) qR)))) (aOf qR))) 2 3 [false,true] ⟨rfl⟩ ⟨rfl⟩) (VD (WE (eOf (LH (qg (JQ "row") (qg (JQ "column") (qg (JQ "slant") (qg (JQ "back") (qg (JQ "block") (qg (JQ "step") (qg (JQ "cells") (qg (JQ "rows") (qg (JQ "Row") (qg (JQ "") (qg (JQ "row ") (qg (qJ 0) qR)))))))))))) ⟨rfl⟩)) 4 [] ⟨rfl⟩ ⟨rfl⟩) (VD (WE (eO jm (eOf (bV 4)) (eDr UD (aOf (qg (qJ 12) qR)))) 5 [false,false,false,false,true] ⟨rfl⟩ ⟨rfl⟩) (VD (wIf (cOf (bTb (bO (ZJ false) (bV 2) (qJ 0)))) (MT (eOf (bO qY (VH (qg (bV 5) qR) ⟨rfl⟩) (EX (bV 1) (bSp (qJ 1)) bNp)))) XH) (VD (wIf (cOf (bTb (bO (ZJ false) (bV 2) (qJ 1)))) (VD (WE (eOf (LH (qg (bO qY (bV 1) (VH (qg (qJ 1) qR) ⟨rfl⟩)) (qg (EX (bV 1) bNp (bSp (qeV (qJ 1)))) (qg (qO qeP (qg (bV 1) qR)) (qg (VH (qg (bV 1) qR) ⟨rfl⟩) (qg (bO qY (EX (bV 1) (bSp (qJ 1)) bNp) (EX (bV 1) bNp (bSp (qJ 1)))) (qg (bO qY (EX (bV 1) bNp (bSp (bV 3))) (EX (bV 1) (bSp (bO qY (bV 3) (qJ 1))) bNp)) qR)))))) ⟨rfl⟩)) 6 [false,true,false,true] ⟨rfl⟩ ⟨rfl⟩) (MT (eO jm (eOf (bV 6)) (eDr UD (aOf (qg (qJ 6) qR)))))) XH) (VD (wIf (cOf (bTb (bO (ZJ false) (bO jm (bV 1) (qJ 0)) (JQ "cells")))) (MT (eDr (dSp qM false) (aOf (qg (bO jm (bV 1) (qJ 1)) qR)))) XH) (VD (WE (eOf (bO jm (bV 1) (bV 3))) 7 [false,true,false,true] ⟨rfl⟩ ⟨rfl⟩) (VD (WE (eO jm (eOf (LH (qg (qJ 0) (qg (qeV (qJ 1)) (qg (bO qY (bV 7) (qJ 1)) (qg (qeV (bV 7)) (qg (bBl true) (qg (JQ "1") (qg qfp (qg (VH (qg (bV 7) qR) ⟨rfl⟩) (qg (qJ 1) (qg (qJ 0) (qg (bO (opC KY (λi j=>i ^ j.toNat)) (qJ 10) (qJ 9)) qR))))))))))) ⟨rfl⟩)) (eDr UD (aOf (qg (qJ 11) qR)))) 8 [false,false,false,false,false,false,false,true] ⟨rfl⟩ ⟨rfl⟩) (MT (eOf (bO qY (bO qY (EX (bV 1) bNp (bSp (bV 3))) (VH (qg (bV 8) qR) ⟨rfl⟩)) (EX (bV 1) (bSp (bO qY (bV 3) (qJ 1))) bNp))))))))))))
def jf:Wm:=qgp QL 2 9 false
def DB:Rd (DSp jf.W false) 2 (K11.QT Bk.qP (DSp qM.W false)) QJ:=S7 QL QJ 2 false
def DH {x0:PyData} {n:Nat} {Q:QD}:jf.W [x0] n Q=(2=2/\QL.w [.un,.sh x0,.un,.un,.un,.un,.un,.un,.un] n (qeU false Q)):=id rfl
def qfs (S_law_walk:Sp3) (S_law_bent:Sp3) (S_is_walk:Sp3) (S_law_is_walk:Sp3):TS3:=(zi (jo (cb3 S_law_walk (qc (v3 2) qp)) (gn3 3)) (zi (jo (o3 j3 (VF (qc (v3 3) qp)) (lc3 (VC (qc (c3 (.int 6)) qp)) (gn3 0) tt3 (cb3 S_law_bent (qc (v3 1) (qc (v3 2) qp))) [none,some 2,some 3])) (gn3 4)) (zi (CM (U4 (v3 4)) (gn3 5) (zi (jo (cb3 (DM true) (qc (v3 5) qp)) (gn3 6)) (zi (jo (cb3 S_is_walk (qc (v3 5) qp)) (gn3 7)) (jI (or3 (EI (tb3 (DT (λt=>ja t "bool") (v3 7)))) (or3 (tb3 (o3 (jk true) (v3 7) (cb3 S_law_is_walk (qc (v3 5) qp)))) (tb3 (o3 (jk true) (cb3 (DM true) (qc (v3 5) qp)) (v3 6))))) (zw (c3 (.bl false))) qV)))) (jI (EI (tb3 (cb3 S_law_is_walk (qc (v3 3) qp)))) (zw (c3 (.bl false))) qV))))
def UK:=((eDr (dSp jf false) (aOf (qg (bV 2) qR))):PwE 1 _)
def V0:=((VD (WE (eOf (qO (K8 true) (qg (bV 5) qR))) 6 [false,false,false,false,false,true] ⟨rfl⟩ ⟨rfl⟩) (VD (WE (eOf (qO (jp zR false) (qg (bV 5) qR))) 7 [false,false,false,false,false,true] ⟨rfl⟩ ⟨rfl⟩) (wIf (cOf (bOr (CJ (bTb (W5 (λt=>ja t "bool") (bV 7)))) (bOr (bTb (bO (ZJ true) (bV 7) (qO (jp qy false) (qg (bV 5) qR)))) (bTb (bO (ZJ true) (qO (K8 true) (qg (bV 5) qR)) (bV 6)))))) (MT (eOf (bBl false))) XH))):PwS 2 _)
def KP:PwS 2 (qfs Bk.jt (DSp jf.W false) (PSp zR false) (PSp qy false)):=(VD (WE (eDr CN (aOf qR)) 3 [] ⟨rfl⟩ ⟨rfl⟩) (VD (WE (eO SY (eOf (LH (qg (bV 3) qR) ⟨rfl⟩)) (eLc 1 (iOf (qgH (qg (qJ 6) qR))) (gN 0) (cOf bTt) UK [none,some 2,some 3] ⟨rfl⟩ ⟨rfl⟩)) 4 [false,false,false,true] ⟨rfl⟩ ⟨rfl⟩) (VD (qgJ (iOf (qbA (bV 4))) (gN 5) V0 [false,false,false,false,true] ⟨rfl⟩ ⟨rfl⟩) (wIf (cOf (CJ (bTb (qO (jp qy false) (qg (bV 3) qR))))) (MT (eOf (bBl false))) XH))))
def qco (h:∀ k:Nat,k<=60->KP.w [.un,.sh (.int k),.un,.un,.un,.un,.un,.un] 0 okW):Rd VU 1 (K11.qbc Bk.jJ Bk.jt (DSp jf.W false) (PSp zR false) (PSp qy false)) KG:=LJ KP KG 8 5 ⟨by decide,by decide⟩ rfl h
def Th (L:Nat):Nat->PyData->Prop
 |_,.none=>True
 |_,.bool _=>True
 |_,.int i=>(PyData.shown (.int i)).length<=40/\i.natAbs.log2<1920
 |_,.str s=>s.cps.size<=10/\(s.cps.toList.all λc=>decide (c<16 ^ 8))=true
 |n+1,.list ds=>ds.length<=L/\∀ d∈ds,Th L n d
 |n+1,.tuple ds=>ds.length<=L/\∀ d∈ds,Th L n d
 |_,_=>False
def bd (L:Nat):Nat->Nat
 |0=>10
 |n+1=>L*(bd L n+1)+10
structure Sw (n m:Nat) (d:PyData):Prop where
 sh:d.showable=true
 nd:d.hasDict=false
 dp:d.depth<=n
 lv:d.leavesShort 40=true
 bk:d.bulk<=m
 pt:dpt d<=n
structure Sws (n m:Nat) (ds:List PyData):Prop where
 sh:PyData.showableAll ds=true
 nd:PyData.hasDictAll ds=false
 dp:PyData.depthAll ds<=n
 lv:PyData.leavesShortAll 40 ds=true
 bk:PyData.bulkAll ds<=ds.length*(m+1)
 pt:KO ds<=n
def sws {n m:Nat}:∀ {ds:List PyData},(∀ d∈ds,Sw n m d)->Sws n m ds
 |[],_=>⟨rfl,rfl,Nat.zero_le _,rfl,Nat.zero_le _,Nat.zero_le _⟩
 |d::ds,h=>by
  have a:=h d (by simp);have t:=sws (ds:=ds) λx hx=>h x (by simp [hx]);refine ⟨?_,?_,?_,?_,?_,?_⟩
  ·simp [PyData.showableAll,a.sh,t.sh]
  ·simp [PyData.hasDictAll,a.nd,t.nd]
  ·simp only [PyData.depthAll];exact Nat.max_le.mpr ⟨a.dp,t.dp⟩
  ·simp [PyData.leavesShortAll,a.lv,t.lv]
  ·simp only [PyData.bulkAll,length_cons];have:=a.bk;have:=t.bk;rw [Nat.succ_mul];omega
  ·simp only [KO];exact Nat.max_le.mpr ⟨a.pt,t.pt⟩
def XM {L:Nat}:∀ {n:Nat} {d:PyData},Th L n d->Sw n (bd L n) d
 |n,.none,_=>⟨rfl,rfl,Nat.zero_le _,rfl,Nat.zero_le _,Nat.zero_le _⟩
 |n,.bool _,_=>⟨rfl,rfl,Nat.zero_le _,rfl,Nat.zero_le _,Nat.zero_le _⟩
 |n,.int i,h=>by
  have h:(PyData.shown (.int i)).length<=40/\i.natAbs.log2<1920:=by cases n<;>exact h
  exact ⟨decide_eq_true h.2,rfl,Nat.zero_le _,decide_eq_true h.1,Nat.zero_le _,Nat.zero_le _⟩
 |n,.str s,h=>by
  have h:s.cps.size<=10/\(s.cps.toList.all λc=>decide (c<16 ^ 8))=true:=by cases n<;>exact h
  refine ⟨rfl,rfl,Nat.zero_le _,h.2,?_,Nat.zero_le _⟩;simp only [PyData.bulk];cases n<;>simp only [bd]<;>omega
 |0,.list ds,h=>h.elim
 |0,.tuple ds,h=>h.elim
 |n+1,.list ds,⟨h1,h2⟩=>by
  have t:=sws (ds:=ds) λd hd=>XM (h2 d hd);have k:=Nat.mul_le_mul h1 (Nat.le_refl (bd L n+1));exact ⟨t.sh,t.nd,Nat.succ_le_succ t.dp,t.lv,by simp only [PyData.bulk,bd];have:=t.bk;omega,by simp only [dpt];have:=t.pt;omega⟩
 |n+1,.tuple ds,⟨h1,h2⟩=>by
  have t:=sws (ds:=ds) λd hd=>XM (h2 d hd);have k:=Nat.mul_le_mul h1 (Nat.le_refl (bd L n+1));exact ⟨t.sh,t.nd,Nat.succ_le_succ t.dp,t.lv,by simp only [PyData.bulk,bd];have:=t.bk;omega,by simp only [dpt];have:=t.pt;omega⟩
 |0,.dict _,h=>h.elim
 |n+1,.dict _,h=>h.elim
def qaC {L n:Nat} {d:PyData} (h:Th L n d) (hn:n<=40) (hb:42*bd L n+40<=16777216):∃ x,UR true [d]=some (.str x):=by
 have s:=XM h;have fit:d.shown.length<=sizeLine:=by
  have a:=PyData.shown_le_bulk 40 (by decide) d s.lv;have b:=Nat.mul_le_mul (Nat.le_refl 42) s.bk;rw [sizeLine_eq];omega
 have w:ShW d:=⟨s.sh,s.nd,Nat.le_trans s.dp hn,fit⟩
 cases d with
 |none=>exact ⟨_,qd7⟩
 |bool b=>exact ⟨_,qeE⟩
 |int i=>
  refine ⟨_,zd ?_⟩;cases n<;>exact h.2
 |str x=>exact ⟨_,qc5⟩
 |list ds=>exact ⟨_,qbX w⟩
 |tuple ds=>exact ⟨_,MJ w⟩
 |dict _=>cases n<;>exact h.elim
def isN:PyData->Bool
 |.int _=>true
 |_=>false
def geN (m:Int):PyData->Bool
 |.int i=>decide (m<=i)
 |_=>false
def nz:PyData->Bool
 |.int i=>!decide (i=0)
 |_=>false
def WB:PyData->Bool
 |.tuple [.int _,.int _]=>true
 |_=>false
def a1:ja "NoneType" "int" = false:=rfl
def a2:ja "bool" "int" = true:=rfl
def a3:ja "int" "int" = true:=rfl
def a4:ja "str" "int" = false:=rfl
def a5:ja "list" "int" = false:=rfl
def a6:ja "tuple" "int" = false:=rfl
def a7:ja "bool" "bool" = true:=rfl
def a8:ja "int" "bool" = false:=rfl
def c1:ja "NoneType" "tuple" = false:=rfl
def c2:ja "bool" "tuple" = false:=rfl
def cq3:ja "int" "tuple" = false:=rfl
def c4:ja "str" "tuple" = false:=rfl
def c5:ja "list" "tuple" = false:=rfl
def c6:ja "tuple" "tuple" = true:=rfl
def d1:ja "NoneType" "str" = false:=rfl
def d2:ja "bool" "str" = false:=rfl
def d3:ja "int" "str" = false:=rfl
def d4:ja "str" "str" = true:=rfl
def d5:ja "list" "str" = false:=rfl
def d6:ja "tuple" "str" = false:=rfl
def CI {L n:Nat} {d:PyData} (h:Th L n d):qm [d]=some (.bool (isN d))/\qv [d]=some (.bool (isN d)):=by
 rw [JP,JU];cases d with
 |dict _=>cases n<;>exact h.elim
 |_=>exact ⟨by try simp only [Pu.pwA,jh,isN,a1,a2,a3,a4,a5,a6,a7,a8,Bool.not_true,Bool.not_false],by try simp only [Pu.pwA,zz,isN,a1,a2,a3,a4,a5,a6,a7,a8,Bool.not_true,Bool.not_false]⟩
def qbh {L n:Nat} {d:PyData} {e:Int} (h:Th L n d):qo [d,.int e]=some (.bool (geN e d)):=by
 have k:=(CI h).1;rw [YU];cases d<;>try simp only [Pu.pwA,z5,k,isN,geN]
def SX {h:PyData->Option (Option PyData)} {k:PyData->PyData} {ds:List PyData} (hh:∀ d∈ds,h d=some (some (k d))):lcP h ds=some (ds.map k):=by
 have:=qa9 (g:=id) (k:=k) (xs:=ds) hh;rw [List.map_id] at this;exact this
def qgB {L n:Nat} {ds:List PyData} {e:Int} (h:∀ d∈ds,Th L n d) (hl:ds.length<=1000):qF [.tuple ds,.int e]=some (.bool (ds.all (geN e))):=by
 rw [YI]
 try simp only [Pu.pwA,zP]
 rw [TK (ds:=ds) (fs:=(ds.map (geN e)).map PyData.bool)]
 ·try simp only [Pu.pwA,VQ]
  rw [List.all_map];rfl
 ·try simp only [Pu.pwA]
 ·rw [map_map];refine SX λd hd=>?_
  try simp only [Pu.pwA,qaZ,qbh (h d hd),Function.comp_def]
 ·simp;omega
def qgm {L n:Nat} {d:PyData} (h:Th L (n+2) d):zC [d]=some (.bool (WB d)):=by
 rw [XW];cases d with
 |tuple ds=>
  obtain ⟨hl,h⟩:=h
  match ds,h with
  |[],_=>try simp only [Pu.pwA,zU,WB,c6];rfl
  |[x],_=>try simp only [Pu.pwA,zU,WB,c6];rfl
  |[x,y],h=>
   have t2:((1+1:Nat):Int)=2:=rfl;have e1:=(CI (h x (by simp))).1;have e2:=(CI (h y (by simp))).1;cases x<;>cases y<;>try simp only [Pu.pwA,zU,WB,c6,t2,e1,e2,isN]
  |x::y::z::r,_=>
   have t3:¬ (((r.length+1+1+1:Nat):Int)=2):=by omega
   try simp only [Pu.pwA,zU,WB,c6,length_cons,t3,decide_false]
 |dict _=>exact h.elim
 |_=>try simp only [Pu.pwA,zU,WB,c1,c2,cq3,c4,c5]
def pr (p:Int×Int):PyData:=.tuple [.int p.1,.int p.2]
def prO:PyData->Option (Int×Int)
 |.tuple [.int a,.int b]=>some (a,b)
 |_=>none
def prs:List PyData->Option (List (Int×Int))
 |[]=>some []
 |d::r=>(prO d).bind λp=>(prs r).map (p::·)
def NU {d:PyData} {p:Int×Int} (h:prO d=some p):d=pr p:=by
 unfold prO at h;split at h
 ·cases h;rfl
 ·cases h
def MB (d:PyData):WB d=(prO d).isSome:=by
 unfold WB;split
 ·rfl
 ·rename_i n;unfold prO;split
  ·rename_i a b;exact absurd rfl (n a b)
  ·rfl
def UW:∀ {ds:List PyData} {qs:List (Int×Int)},prs ds=some qs->ds=qs.map pr
 |[],qs,h=>by simp only [prs,Option.some.injEq] at h;subst h;rfl
 |d::ds,qs,h=>by
  simp only [prs] at h;obtain ⟨p,e0,h⟩:=obb h;obtain ⟨t,e1,rfl⟩:=Option.map_eq_some_iff.mp h;rw [map_cons,← UW e1,NU e0]
def DE:∀ {ds:List PyData},ds.all WB=(prs ds).isSome
 |[]=>rfl
 |d::ds=>by
  rw [List.all_cons,DE (ds:=ds),MB];simp only [prs];cases prO d<;>cases prs ds<;>rfl
def YS (r:List PyData):Bool:=match r with
 |[.tuple ps]=>(match prs ps with|some qs=>!qs.isEmpty&&decide qs.Nodup|none=>false)
 |_=>false
def JX (r:List PyData):Bool:=match r with
 |[x,y,z]=>(isN x&&isN y)&&((nz x||nz y)&&geN 1 z)
 |_=>false
def T3 (r:List PyData):Bool:=match r with
 |[x]=>geN 1 x
 |_=>false
def WX (r:List PyData):Bool:=match r with
 |[x,y]=>geN 1 x&&geN 1 y
 |_=>false
def jE (s:Str):Bool:=(js jq s).isSome
def JM (s:Str) (r:List PyData):Bool:=if jE s then T3 r else if s=Str.ofString "block" then WX r else if s=Str.ofString "step" then JX r else if s=Str.ofString "cells" then YS r else false
def isW (d:PyData):Bool:=match d with
 |.tuple (.str s::r)=>JM s r
 |_=>false
def qgg {L n:Nat} {s:Str} {r:List PyData} (h:Th L (n+4) (.tuple (.str s::r))) (hL:L<=18):zx [.tuple (.str s::r)]=some (.bool (YS r)):=by
 obtain ⟨hl,h⟩:=h;rw [DR]
 match r,h,hl with
 |[],_,_=>
  have e:¬ (((0+1:Nat):Int)=2):=by decide
  try simp only [Pu.pwA,zl,YS,length_cons,length_nil,e,decide_false,Bool.not_false]
 |x::y::r,_,_=>
  have e:¬ (((r.length+1+1+1:Nat):Int)=2):=by omega
  try simp only [Pu.pwA,zl,YS,length_cons,e,decide_false,Bool.not_false]
 |[x],h,_=>
  have t2:((0+1+1:Nat):Int)=2:=rfl;have hx:=h x (by simp);cases x with
  |dict _=>exact hx.elim
  |tuple ps=>
   obtain ⟨pl,hp⟩:=hx;have al:=DE (ds:=ps);have cm:lcF (λρ=>((vw ρ 0).bind λx=>(PyData.int 1 |> λy=>ixD x y)).bind SB) (lcH (λd=>some [(0,d)]) (λx=>some true) λρ=>((vw ρ 0).bind λx=>some [x]).bind zC) [none] [Sl.sh (.tuple [.str s,.tuple ps])]=some (.list ((ps.map WB).map PyData.bool)):=by
    rw [TK (ds:=ps) (fs:=(ps.map WB).map PyData.bool)]
    ·try simp only [Pu.pwA]
    ·rw [map_map];refine SX λd hd=>?_
     try simp only [Pu.pwA,qaZ,qgm (hp d hd),Function.comp_def]
    ·simp;omega
   cases e:prs ps with
   |none=>
    rw [e] at al;have ne:ps≠[]:=λz=>by rw [z] at e;cases e
    have ne':¬ ((ps.length:Int)=0):=by have:=List.length_pos_iff.mpr ne;omega
    have al':(ps.map WB).all id=false:=by rw [List.all_map];exact al
    try simp only [Pu.pwA,zl,YS,e,length_cons,length_nil,t2,c6,ne',cm,VQ,al',decide_true,decide_false,Bool.not_true,Bool.not_false]
   |some qs=>
    rw [e] at al;have eq:=UW e;have al':(ps.map WB).all id=true:=by rw [List.all_map];exact al
    have ql:qs.length=ps.length:=by rw [eq];simp
    have ls:=qbq (ps:=qs) (by omega);rw [show (qs.map λp=>PyData.tuple [.int p.1,.int p.2])=ps from eq.symm] at ls;cases qs with
    |nil=>
     have ne':((ps.length:Int)=0):=by simp at ql;omega
     try simp only [Pu.pwA,zl,YS,e,length_cons,length_nil,t2,c6,ne',decide_true,Bool.not_true,List.isEmpty_nil,Bool.false_and]
    |cons q qs=>
     have ne':¬ ((ps.length:Int)=0):=by simp at ql;omega
     have un:decide ((qeg (q::qs):Int)=(ps.length:Int))=decide (q::qs).Nodup:=by
      rw [decide_eq_decide,← ql,← LS];omega
     try simp only [Pu.pwA,zl,YS,e,length_cons,length_nil,t2,c6,ne',cm,VQ,al',LQ,ls,un,decide_true,decide_false,Bool.not_true,Bool.not_false,List.isEmpty_cons,Bool.true_and]
  |_=>try simp only [Pu.pwA,zl,YS,length_cons,length_nil,t2,c1,c2,cq3,c4,c5,decide_true,Bool.not_true,Bool.not_false]
def qdF {i:Int}:qm [.int i]=some (.bool true):=by
 rw [JP]
 try simp only [Pu.pwA,jh,a3,a8,Bool.not_false]
def z20:¬ ((2:Int)=0):=by decide
def z30:¬ ((3:Int)=0):=by decide
def nbk:¬ Str.ofString "step" = Str.ofString "block" := by decide
def nck:¬ Str.ofString "cells" = Str.ofString "block" := by decide
def ncs:¬ Str.ofString "cells" = Str.ofString "step" := by decide
def qe4 {L n:Nat} {s:Str} {r:List PyData} (h:Th L (n+1) (.tuple (.str s::r))):zS [.tuple (.str s::r)]=some (.bool (JX r)):=by
 obtain ⟨hl,h⟩:=h;rw [XU]
 match r,h with
 |[],_=>
  have e:¬ (((0+1:Nat):Int)=4):=by decide
  try simp only [Pu.pwA,qX,JX,length_cons,length_nil,e,decide_false,Bool.not_false]
 |[x],_=>
  have e:¬ (((0+1+1:Nat):Int)=4):=by decide
  try simp only [Pu.pwA,qX,JX,length_cons,length_nil,e,decide_false,Bool.not_false]
 |[x,y],_=>
  have e:¬ (((0+1+1+1:Nat):Int)=4):=by decide
  try simp only [Pu.pwA,qX,JX,length_cons,length_nil,e,decide_false,Bool.not_false]
 |x::y::z::w::r,_=>
  have e:¬ (((r.length+1+1+1+1+1:Nat):Int)=4):=by omega
  try simp only [Pu.pwA,qX,JX,length_cons,e,decide_false,Bool.not_false]
 |[x,y,z],h=>
  have t4:((0+1+1+1+1:Nat):Int)=4:=rfl;have e1:=(CI (h x (by simp))).1;have e2:=(CI (h y (by simp))).1;have e3:=qbh (e:=1) (h z (by simp));cases x with
  |int i=>
   cases y with
   |int j=>
    by_cases c1:i=0
    ·by_cases c2:j=0
     ·try simp only [Pu.pwA,qX,JX,length_cons,length_nil,t4,qdF,isN,nz,c1,c2,decide_true,Bool.not_true,Bool.and_self,Bool.or_self,Bool.false_and,Bool.true_and]
     ·try simp only [Pu.pwA,qX,JX,length_cons,length_nil,t4,qdF,e3,isN,nz,c1,c2,decide_true,decide_false,Bool.not_true,Bool.not_false,Bool.and_self,Bool.false_or,Bool.true_and]
    ·try simp only [Pu.pwA,qX,JX,length_cons,length_nil,t4,e1,e2,e3,isN,nz,c1,decide_true,decide_false,Bool.not_true,Bool.not_false,Bool.and_self,Bool.true_or,Bool.true_and]
   |_=>try simp only [Pu.pwA,qX,JX,length_cons,length_nil,t4,e1,e2,isN,decide_true,Bool.not_true,Bool.not_false,Bool.true_and,Bool.false_and]
  |_=>try simp only [Pu.pwA,qX,JX,length_cons,length_nil,t4,e1,isN,decide_true,Bool.not_true,Bool.not_false,Bool.false_and]
def sl1 {x:PyData} {r:List PyData}:slD (.tuple (x::r)) (some 1) none=some (.tuple r):=by
 refine (D4 ?_).trans ?_
 ·simp [HT.sIx]
 ·congr 1;unfold JB;simp [HT.sIx]
def qf8 {L n:Nat} {d:PyData} (h:Th L (n+4) d) (hL:L<=18):zR [d]=some (.bool (isW d)):=by
 rw [XE];cases d with
 |dict _=>exact h.elim
 |tuple ds=>
  cases ds with
  |nil=>
   try simp only [Pu.pwA,qD,isW,c6,length_nil,Int.natCast_zero,decide_true,Bool.not_true]
  |cons k r=>
   have ne:¬ (((r.length+1:Nat):Int)=0):=by omega
   have hk:=h.2 k (by simp);cases k with
   |dict _=>exact hk.elim
   |str s=>
    have st:=qe4 (n:=n+3) h;have cl:=qgg h hL;by_cases b1:jE s=true
    ·have b1':(js jq s).isSome=true:=b1
     match r,h with
     |[],_=>
      have e:¬ (((0+1:Nat):Int)=2):=by decide
      have e0:¬ (((0+1:Nat):Int)=0):=by decide
      try simp only [Pu.pwA,qD,isW,JM,T3,b1,b1',c6,d4,length_cons,length_nil,e,e0,decide_true,decide_false,Bool.not_true,Bool.not_false,if_true]
     |[x],h=>
      have e:(((0+1+1:Nat):Int)=2):=by decide
      have e3:=qbh (e:=1) (h.2 x (by simp))
      try simp only [Pu.pwA,qD,isW,JM,T3,b1,b1',c6,d4,length_cons,length_nil,e,z20,e3,decide_true,decide_false,Bool.not_true,Bool.not_false,if_true]
     |x::y::r,_=>
      have e:¬ (((r.length+1+1+1:Nat):Int)=2):=by omega
      have e0:¬ (((r.length+1+1+1:Nat):Int)=0):=by omega
      try simp only [Pu.pwA,qD,isW,JM,T3,b1,b1',c6,d4,length_cons,length_nil,e,e0,decide_true,decide_false,Bool.not_true,Bool.not_false,if_true]
    ·have b1:jE s=false:=by simpa using b1
     have b1':(js jq s).isSome=false:=b1;by_cases b2:s=Str.ofString "block"
     ·subst b2;have q:∀ x:List PyData,JM (Str.ofString "block") x=WX x:=λx=>by unfold JM;rw [b1,if_neg Bool.false_ne_true,if_pos rfl]
      match r,h with
      |[],_=>
       have e:¬ (((0+1:Nat):Int)=3):=by decide
       have e0:¬ (((0+1:Nat):Int)=0):=by decide
       try simp only [Pu.pwA,qD,isW,q,WX,b1',c6,d4,length_cons,length_nil,e,e0,decide_true,decide_false,Bool.not_true,Bool.not_false]
      |[x],_=>
       have e:¬ (((0+1+1:Nat):Int)=3):=by decide
       have e0:¬ (((0+1+1:Nat):Int)=0):=by decide
       try simp only [Pu.pwA,qD,isW,q,WX,b1',c6,d4,length_cons,length_nil,e,e0,decide_true,decide_false,Bool.not_true,Bool.not_false]
      |[x,y],h=>
       have e:(((0+1+1+1:Nat):Int)=3):=by decide
       have e3:=qgB (e:=1) (ds:=[x,y]) (n:=n+3) (L:=L) (λd hd=>h.2 d (List.mem_cons_of_mem _ hd)) (by simp)
       try simp only [Pu.pwA,qD,isW,q,WX,b1',c6,d4,length_cons,length_nil,e,z30,sl1,e3,decide_true,decide_false,Bool.not_true,Bool.not_false,List.all_cons,List.all_nil,Bool.and_true]
      |x::y::z::r,_=>
       have e:¬ (((r.length+1+1+1+1:Nat):Int)=3):=by omega
       have e0:¬ (((r.length+1+1+1+1:Nat):Int)=0):=by omega
       try simp only [Pu.pwA,qD,isW,q,WX,b1',c6,d4,length_cons,e,e0,decide_true,decide_false,Bool.not_true,Bool.not_false]
     ·by_cases b3:s=Str.ofString "step"
      ·subst b3;have q:JM (Str.ofString "step") r=JX r:=by unfold JM;rw [b1,if_neg Bool.false_ne_true,if_neg nbk,if_pos rfl]
       try simp only [Pu.pwA,qD,isW,q,b1',nbk,c6,d4,length_cons,ne,st,decide_true,decide_false,Bool.not_true,Bool.not_false]
      ·by_cases b4:s=Str.ofString "cells"
       ·subst b4;have q:JM (Str.ofString "cells") r=YS r:=by unfold JM;rw [b1,if_neg Bool.false_ne_true,if_neg nck,if_neg ncs,if_pos rfl]
        try simp only [Pu.pwA,qD,isW,q,b1',nck,ncs,c6,d4,length_cons,ne,cl,decide_true,decide_false,Bool.not_true,Bool.not_false]
       ·have q:JM s r=false:=by unfold JM;rw [b1,if_neg Bool.false_ne_true,if_neg b2,if_neg b3,if_neg b4]
        try simp only [Pu.pwA,qD,isW,q,b1',b2,b3,b4,c6,d4,length_cons,ne,decide_true,decide_false,Bool.not_true,Bool.not_false]
   |_=>try simp only [Pu.pwA,qD,isW,c6,d1,d2,d3,d5,d6,length_cons,ne,decide_false,Bool.not_false,Bool.not_true]
 |_=>try simp only [Pu.pwA,qD,isW,c1,c2,cq3,c4,c5,Bool.not_false]
def qdB {ds:List PyData} (h:dpt (.tuple ds)<=40):eqD false (.tuple ds) (.tuple [])=some (.bool ds.isEmpty):=by
 have z:K9 (.tuple ds) (.tuple [])=none:=rfl;unfold eqD;rw [z];simp only;rw [zd ⟨h,by simp [dpt]⟩];cases ds<;>simp [jv,QX]
def anW (m:Int) (d:PyData):Bool:=match d with
 |.tuple ds=>decide ((ds.length:Int)=m)&&ds.all isN
 |_=>false
def qdS {L n:Nat} {d:PyData} {m:Int} (h:Th L (n+1) d) (hL:L<=1000):qi [d,.int m]=some (.bool (anW m d)):=by
 rw [ZV];cases d with
 |dict _=>exact h.elim
 |tuple ds=>
  by_cases c:(ds.length:Int)=m
  ·have cm:lcF (λρ=>(vw ρ 0).bind SB) (lcH (λd=>some [(0,d)]) (λx=>some true) λρ=>((vw ρ 0).bind λx=>some [x]).bind qv) [none] [Sl.sh (.tuple ds),.sh (.int m)]=some (.list ((ds.map isN).map PyData.bool)):=by
    rw [TK (ds:=ds) (fs:=(ds.map isN).map PyData.bool)]
    ·try simp only [Pu.pwA]
    ·rw [map_map];refine SX λd hd=>?_
     try simp only [Pu.pwA,qaZ,(CI (h.2 d hd)).2,Function.comp_def]
    ·have:=h.1;simp;omega
   have al:(ds.map isN).all id=ds.all isN:=by rw [List.all_map];rfl
   try simp only [Pu.pwA,qG,anW,c6,c,cm,VQ,al,decide_true,Bool.true_and]
  ·try simp only [Pu.pwA,qG,anW,c6,c,decide_false,Bool.false_and]
 |_=>try simp only [Pu.pwA,qG,anW,c1,c2,cq3,c4,c5]
def qaI {s:Str}:qdC false (.str s) (.tuple [.str "row",.str "column",.str "slant",.str "back"])=some (.bool (jE s)):=by
 refine (zd λy hy=>?_).trans ?_
 ·simp only [mem_cons,not_mem_nil,or_false] at hy;rcases hy with rfl|rfl|rfl|rfl<;>simp [dpt]
 ·have e:EZ (.str s) [.str "row",.str "column",.str "slant",.str "back"]=some (jE s):=by
   simp only [EZ,jv];unfold jE jq;simp only [js];by_cases h1:Str.ofString "row" = s
   ·simp [h1]
   ·by_cases h2:Str.ofString "column" = s
    ·simp [h1,h2]
    ·by_cases h3:Str.ofString "slant" = s
     ·simp [h1,h2,h3]
     ·by_cases h4:Str.ofString "back" = s
      ·simp [h1,h2,h3,h4]
      ·simp [h1,h2,h3,h4]
  rw [e];rfl
def V7:∀ qs:List (Int×Int),prs (qs.map pr)=some qs
 |[]=>rfl
 |q::qs=>by simp only [map_cons,prs,V7 qs];rfl
def qgi {x:PyData}:anW 2 x=(prO x).isSome:=by
 unfold anW;cases x with
 |tuple ds=>
  match ds with
  |[]=>rfl
  |[x]=>cases x<;>rfl
  |[x,y]=>cases x<;>cases y<;>rfl
  |x::y::z::r=>
   have:¬ (((r.length+1+1+1:Nat):Int)=2):=by omega
   simp only [length_cons,this,decide_false,Bool.false_and];cases x<;>cases y<;>rfl
 |_=>rfl
def NQ {p:Int×Int}:∀ qs:List (Int×Int),EZ (pr p) (qs.map pr)=some (decide (p∈qs))
 |[]=>rfl
 |q::qs=>by
  have e:jv (pr q) (pr p)=some (decide (q=p)):=by
   obtain ⟨a,b⟩:=q;obtain ⟨k,l⟩:=p;simp only [pr,jv,QX];by_cases c1:a=k<;>by_cases c2:b=l<;>simp [c1,c2]
  rw [map_cons,EZ,e,NQ qs];simp only;congr 1;by_cases c:q=p
  ·subst c;simp
  ·have:¬ p=q:=λz=>c z.symm;by_cases c2:p∈qs<;>simp [c,c2,this]
def qhJ {ps:List PyData} {k:Nat} (h:k<ps.length):slD (.tuple ps) none (some (k:Int))=some (.tuple (ps.take k)):=by
 refine (D4 ?_).trans ?_
 ·rw [HT.V9];omega
 ·congr 2;unfold JB;rw [HT.V9,HT.UL,List.drop_zero,Nat.sub_zero,Nat.min_eq_left (by omega)]
def M1 {L n:Nat} {d:PyData} (h:Th L (n+4) d) (hL:L<=18) (hn:n<=30):qy [d]=some (.bool (isW d)):=by
 have pt:=(XM h).pt;rw [Y0];cases d with
 |dict _=>exact h.elim
 |tuple ds=>
  have e0:=qdB (ds:=ds) (by omega);cases ds with
  |nil=>
   try simp only [Pu.pwA,qf,isW,c6,e0,List.isEmpty_nil,Bool.not_true]
  |cons k r=>
   have hk:=h.2 k (by simp);cases k with
   |dict _=>exact hk.elim
   |str s=>
    have hr:∀ d∈r,Th L (n+3) d:=λd hd=>h.2 d (List.mem_cons_of_mem _ hd);have tr:Th L (n+4) (.tuple r):=⟨by have:=h.1;simp at this;omega,hr⟩
    have an:=λm=>qdS (m:=m) (n:=n+3) tr (by omega);have il:=qaI (s:=s);by_cases b1:jE s=true
    ·rw [b1] at il;have q:JM s r=T3 r:=by unfold JM;rw [b1,if_pos rfl]
     match r,an with
     |[],an=>
      have e1:anW 1 (.tuple [])=false:=rfl
      try simp only [Pu.pwA,qf,isW,q,T3,c6,d4,e0,il,sl1,an,e1,List.isEmpty_cons,Bool.not_true,Bool.not_false]
     |[x],an=>
      cases x with
      |int i=>
       have e1:anW 1 (.tuple [.int i])=true:=rfl
       try simp only [Pu.pwA,qf,isW,q,T3,geN,c6,d4,e0,il,sl1,an,e1,List.isEmpty_cons,Bool.not_true,Bool.not_false]
      |_=>try simp only [Pu.pwA,qf,isW,q,T3,geN,anW,isN,List.all_cons,Bool.false_and,Bool.and_false,c6,d4,e0,il,sl1,an,List.isEmpty_cons,Bool.not_true,Bool.not_false]
     |x::y::r,an=>
      have e1:anW 1 (.tuple (x::y::r))=false:=by
       have:¬ (((r.length+1+1:Nat):Int)=1):=by omega
       simp only [anW,length_cons,this,decide_false,Bool.false_and]
      try simp only [Pu.pwA,qf,isW,q,T3,c6,d4,e0,il,sl1,an,e1,List.isEmpty_cons,Bool.not_true,Bool.not_false]
    ·have b1:jE s=false:=by simpa using b1
     rw [b1] at il;by_cases b2:s=Str.ofString "block"
     ·subst b2;have q:JM (Str.ofString "block") r=WX r:=by unfold JM;rw [b1,if_neg Bool.false_ne_true,if_pos rfl]
      match r,an with
      |[],an=>
       have e1:anW 2 (.tuple [])=false:=rfl
       try simp only [Pu.pwA,qf,isW,q,WX,c6,d4,e0,il,sl1,an,e1,List.isEmpty_cons,decide_true,Bool.not_true,Bool.not_false]
      |[x],an=>
       have e1:anW 2 (.tuple [x])=false:=by cases x<;>rfl
       try simp only [Pu.pwA,qf,isW,q,WX,c6,d4,e0,il,sl1,an,e1,List.isEmpty_cons,decide_true,Bool.not_true,Bool.not_false]
      |[x,y],an=>
       have e1:anW 2 (.tuple [x,y])=(isN x&&isN y):=by cases x<;>cases y<;>rfl
       cases x with
       |int i=>
        cases y with
        |int j=>
         have e3:qbB [.tuple [.int i,.int j]]=some (.int (mn [i,j])):=qfX (ns:=[i,j]) (by simp);have e4:decide (1<=mn [i,j])=(decide (1<=i)&&decide (1<=j)):=by
          have:mn [i,j]=min i j:=rfl;rw [this];by_cases x1:1<=i<;>by_cases x2:1<=j<;>simp [x1,x2]<;>omega
         try simp only [Pu.pwA,qf,isW,q,WX,geN,isN,c6,d4,e0,il,sl1,an,e1,qaX,e3,e4,List.isEmpty_cons,decide_true,Bool.and_self,Bool.not_true,Bool.not_false]
        |_=>try simp only [Pu.pwA,qf,isW,q,WX,geN,isN,c6,d4,e0,il,sl1,an,e1,List.isEmpty_cons,decide_true,Bool.and_false,Bool.not_true,Bool.not_false]
       |_=>try simp only [Pu.pwA,qf,isW,q,WX,geN,isN,c6,d4,e0,il,sl1,an,e1,List.isEmpty_cons,decide_true,Bool.false_and,Bool.not_true,Bool.not_false]
      |x::y::z::r,an=>
       have e1:anW 2 (.tuple (x::y::z::r))=false:=by
        have:¬ (((r.length+1+1+1:Nat):Int)=2):=by omega
        simp only [anW,length_cons,this,decide_false,Bool.false_and]
       try simp only [Pu.pwA,qf,isW,q,WX,c6,d4,e0,il,sl1,an,e1,List.isEmpty_cons,decide_true,Bool.not_true,Bool.not_false]
     ·by_cases b3:s=Str.ofString "step"
      ·subst b3;have q:JM (Str.ofString "step") r=JX r:=by unfold JM;rw [b1,if_neg Bool.false_ne_true,if_neg nbk,if_pos rfl]
       match r,an with
       |[],an=>
        have e1:anW 3 (.tuple [])=false:=rfl
        try simp only [Pu.pwA,qf,isW,q,JX,nbk,c6,d4,e0,il,sl1,an,e1,List.isEmpty_cons,decide_true,decide_false,Bool.not_true,Bool.not_false]
       |[x],an=>
        have e1:anW 3 (.tuple [x])=false:=by cases x<;>rfl
        try simp only [Pu.pwA,qf,isW,q,JX,nbk,c6,d4,e0,il,sl1,an,e1,List.isEmpty_cons,decide_true,decide_false,Bool.not_true,Bool.not_false]
       |[x,y],an=>
        have e1:anW 3 (.tuple [x,y])=false:=by cases x<;>cases y<;>rfl
        try simp only [Pu.pwA,qf,isW,q,JX,nbk,c6,d4,e0,il,sl1,an,e1,List.isEmpty_cons,decide_true,decide_false,Bool.not_true,Bool.not_false]
       |[x,y,z],an=>
        have e1:anW 3 (.tuple [x,y,z])=(isN x&&(isN y&&isN z)):=by cases x<;>cases y<;>cases z<;>rfl
        cases x with
        |int i=>
         cases y with
         |int j=>
          cases z with
          |int m=>
           by_cases x1:1<=m
           ·by_cases x2:i=0
            ·by_cases x3:j=0
             ·subst x2 x3
              try simp only [Pu.pwA,qf,isW,q,JX,geN,isN,nz,nbk,c6,d4,e0,il,sl1,an,e1,x1,List.isEmpty_cons,decide_true,decide_false,Bool.and_self,Bool.or_self,Bool.false_and,Bool.and_false,Bool.true_and,Bool.and_true,Bool.false_or,Bool.true_or,Bool.not_true,Bool.not_false]
             ·subst x2
              try simp only [Pu.pwA,qf,isW,q,JX,geN,isN,nz,nbk,c6,d4,e0,il,sl1,an,e1,x1,x3,List.isEmpty_cons,decide_true,decide_false,Bool.and_self,Bool.or_self,Bool.false_and,Bool.and_false,Bool.true_and,Bool.and_true,Bool.false_or,Bool.true_or,Bool.not_true,Bool.not_false]
            ·try simp only [Pu.pwA,qf,isW,q,JX,geN,isN,nz,nbk,c6,d4,e0,il,sl1,an,e1,x1,x2,List.isEmpty_cons,decide_true,decide_false,Bool.and_self,Bool.or_self,Bool.false_and,Bool.and_false,Bool.true_and,Bool.and_true,Bool.false_or,Bool.true_or,Bool.not_true,Bool.not_false]
           ·try simp only [Pu.pwA,qf,isW,q,JX,geN,isN,nz,nbk,c6,d4,e0,il,sl1,an,e1,x1,List.isEmpty_cons,decide_true,decide_false,Bool.and_self,Bool.or_self,Bool.false_and,Bool.and_false,Bool.true_and,Bool.and_true,Bool.false_or,Bool.true_or,Bool.not_true,Bool.not_false]
          |_=>try simp only [Pu.pwA,qf,isW,q,JX,geN,isN,nbk,c6,d4,e0,il,sl1,an,e1,List.isEmpty_cons,decide_true,decide_false,Bool.and_false,Bool.not_true,Bool.not_false]
         |_=>try simp only [Pu.pwA,qf,isW,q,JX,geN,isN,nbk,c6,d4,e0,il,sl1,an,e1,List.isEmpty_cons,decide_true,decide_false,Bool.and_false,Bool.false_and,Bool.not_true,Bool.not_false]
        |_=>try simp only [Pu.pwA,qf,isW,q,JX,geN,isN,nbk,c6,d4,e0,il,sl1,an,e1,List.isEmpty_cons,decide_true,decide_false,Bool.false_and,Bool.not_true,Bool.not_false]
       |x::y::z::w::r,an=>
        have e1:anW 3 (.tuple (x::y::z::w::r))=false:=by
         have:¬ (((r.length+1+1+1+1:Nat):Int)=3):=by omega
         simp only [anW,length_cons,this,decide_false,Bool.false_and]
        try simp only [Pu.pwA,qf,isW,q,JX,nbk,c6,d4,e0,il,sl1,an,e1,List.isEmpty_cons,decide_true,decide_false,Bool.not_true,Bool.not_false]
      ·by_cases b4:s=Str.ofString "cells"
       ·subst b4;have q:JM (Str.ofString "cells") r=YS r:=by unfold JM;rw [b1,if_neg Bool.false_ne_true,if_neg nck,if_neg ncs,if_pos rfl]
        match r,h with
        |[],_=>
         have e:¬ (((0+1:Nat):Int)=2):=by decide
         try simp only [Pu.pwA,qf,isW,q,YS,nck,ncs,c6,d4,e0,il,e,length_cons,length_nil,List.isEmpty_cons,decide_true,decide_false,Bool.not_true,Bool.not_false]
        |x::y::r,_=>
         have e:¬ (((r.length+1+1+1:Nat):Int)=2):=by omega
         try simp only [Pu.pwA,qf,isW,q,YS,nck,ncs,c6,d4,e0,il,e,length_cons,List.isEmpty_cons,decide_true,decide_false,Bool.not_true,Bool.not_false]
        |[x],h'=>
         have t2:((0+1+1:Nat):Int)=2:=rfl;have hx:=h'.2 x (by simp);cases x with
         |dict _=>exact hx.elim
         |tuple ps=>
          have pt2:=(XM hx).pt;have e5:=qdB (ds:=ps) (by omega);by_cases ne:ps=[]
          ·subst ne
           try simp only [Pu.pwA,qf,isW,q,YS,prs,nck,ncs,c6,d4,e0,e5,il,t2,length_cons,length_nil,List.isEmpty_cons,List.isEmpty_nil,decide_true,decide_false,Bool.not_true,Bool.not_false,Bool.false_and]
          ·have ie:ps.isEmpty=false:=by cases ps with
            |nil=>exact absurd rfl ne
            |cons a b=>rfl
           rw [ie] at e5
           try simp only [Pu.pwA,qf,isW,q,nck,ncs,c6,d4,e0,e5,il,t2,length_cons,length_nil,List.isEmpty_cons,decide_true,decide_false,Bool.not_true,Bool.not_false]
           have en:enD 0 ps=(ps.zipIdx 0).map λp=>PyData.tuple [.int (p.2:Int),p.1]:=by have:=qa7 id ps 0;rw [List.map_id] at this;exact this
           rw [en];refine KK (Q:=λo=>DU false o=_) (ps.zipIdx 0) (λi ρ=>(∃ s1 s2,ρ=[.sh (.tuple [.str "cells",.tuple ps]),s1,s2])/\∃ qs,prs (ps.take i)=some qs/\qs.Nodup) (λd b=>d=.bool false/\YS [.tuple ps]=false) ⟨⟨_,_,rfl⟩,[],rfl,List.nodup_nil⟩ ?_ ?_ ?_
           ·rintro i ⟨x,k⟩ ρ hx0 ⟨⟨s1,s2,rfl⟩,qs,hq,nd⟩;obtain ⟨hx',rfl,hi⟩:=CK hx0;have xm:=mem_of_getElem? hx';have an:=qdS (m:=2) (n:=n+1) (hx.2 x xm) (by omega);rw [qgi] at an;cases e:prO x with
            |none=>
             rw [e] at an;have cw:YS [.tuple ps]=false:=by
              have al:=DE (ds:=ps);have:ps.all WB=false:=by
               rw [List.all_eq_false];exact ⟨x,xm,by rw [MB,e];simp⟩
              rw [this] at al;simp only [YS];cases e2:prs ps with
              |none=>rfl
              |some z=>rw [e2] at al;cases al
             try simp only [Pu.pwA,an,Option.isSome_none,Bool.not_false,qd5]
             exact cw
            |some p=>
             rw [e] at an;have ex:=NU e;subst ex;have sl:=qhJ (ps:=ps) (k:=k) hi;have tk:=UW hq;have ind:qdC false (pr p) (.tuple (ps.take k))=some (.bool (decide (p∈qs))):=by
              refine (zd λy hy=>?_).trans ?_
              ·rw [tk] at hy;obtain ⟨q,_,rfl⟩:=mem_map.mp hy;simp [pr,dpt,KO]
              ·rw [tk,NQ];rfl
             by_cases c:p∈qs
             ·have cw:YS [.tuple ps]=false:=by
               simp only [YS];cases e2:prs ps with
               |none=>rfl
               |some Q=>
                have eQ:=UW e2;have q1:qs=Q.take k:=by
                 have:prs (ps.take k)=some (Q.take k):=by rw [eQ,← List.map_take,V7]
                 rw [hq] at this;exact Option.some.inj this
                have q2:Q[k]?=some p:=by
                 rw [eQ,getElem?_map] at hx';obtain ⟨q,hq1,hq2⟩:=Option.map_eq_some_iff.mp hx';rw [hq1];have:prO (pr q)=some q:=rfl;rw [hq2,e] at this;rw [Option.some.inj this]
                have:¬ Q.Nodup:=λnq=>by
                 rw [q1] at c;obtain ⟨m,hm⟩:=List.mem_iff_getElem?.mp c;rw [List.getElem?_take] at hm;split at hm
                 ·rename_i mk;have:=(List.getElem?_inj (by have:=(List.getElem?_eq_some_iff.mp q2).1;omega) nq).mp (hm.trans q2.symm);omega
                 ·cases hm
                simp [this]
              try simp only [Pu.pwA,an,sl,ind,c,decide_true,Option.isSome_some,Bool.not_true,qd5]
              exact cw
             ·try simp only [Pu.pwA,an,sl,ind,c,decide_false,Option.isSome_some,Bool.not_true,qgj]
              refine ⟨⟨_,_,rfl⟩,qs++[p],?_,?_⟩
              ·rw [List.take_add_one,hx',Option.toList_some,tk,show [pr p]=[p].map pr from rfl,← List.map_append,V7]
              ·rw [List.nodup_append];refine ⟨nd,by simp,λa ha b hb=>?_⟩;rw [List.mem_singleton.mp hb];exact λz=>c (z▸ha)
           ·rintro ρ ⟨⟨s1,s2,rfl⟩,qs,hq,nd⟩;rw [List.length_zipIdx,List.take_length] at hq;have cw:YS [.tuple ps]=true:=by
             simp only [YS,hq];cases qs with
             |nil=>have:=UW hq;exact absurd this ne
             |cons q qs=>simp [nd]
            rw [cw]
            try simp only [Pu.pwA]
           ·rintro d b ⟨rfl,cw⟩;rw [cw]
            try simp only [Pu.pwA]
         |_=>try simp only [Pu.pwA,qf,isW,q,YS,nck,ncs,c1,c2,cq3,c4,c5,c6,d4,e0,il,t2,length_cons,length_nil,List.isEmpty_cons,decide_true,decide_false,Bool.not_true,Bool.not_false]
       ·have q:JM s r=false:=by unfold JM;rw [b1,if_neg Bool.false_ne_true,if_neg b2,if_neg b3,if_neg b4]
        try simp only [Pu.pwA,qf,isW,q,b2,b3,b4,c6,d4,e0,il,List.isEmpty_cons,decide_true,decide_false,Bool.not_true,Bool.not_false]
   |_=>try simp only [Pu.pwA,qf,isW,c6,d1,d2,d3,d5,d6,e0,List.isEmpty_cons,Bool.not_false,Bool.not_true]
 |_=>try simp only [Pu.pwA,qf,isW,c1,c2,cq3,c4,c5,Bool.not_false]
end K11
namespace K11
open PySem L2 L3 Pu Pv
open Bk (Wk jg nzW)
def KS (lo:Int) (n:Nat):(T5 lo n).length=n:=by simp [T5]
def WM {α:Type} (xs:List α) (k:Nat):JB xs none (some (k:Int))=xs.take k:=by
 unfold JB;rw [HT.V9,HT.UL,List.drop_zero,Nat.sub_zero,List.take_eq_take_iff];omega
def WU {α:Type} (xs:List α) (k:Nat):JB xs (some (k:Int)) none=xs.drop k:=by
 unfold JB;rw [HT.V9,HT.UL,List.take_of_length_le (by simp)];by_cases c:k<=xs.length
 ·rw [Nat.min_eq_left c]
 ·rw [Nat.min_eq_right (by omega),List.drop_of_length_le (Nat.le_refl _),List.drop_of_length_le (by omega)]
def qdt {xs ys:List PyData} (h:xs.length+ys.length<=16777216):ER (.list xs) (.list ys)=some (.list (xs++ys)):=zd h
def CS {m:List Bool} {i:Nat} {d:PyData} {ρ:Rho} (h:dm m ρ=ρ):U1 m false i d ρ=ρ.set i (.sh d):=by
 unfold U1;rw [h];split<;>rfl
def J4 {L:Nat} (n:Nat) {i:Int} (h:-1000000<=i/\i<=1000000):Th L n (.int i):=by
 have s:=Bk.MK 0 0 h;have a:i.natAbs.log2<1920:=of_decide_eq_true s.sh;have b:(PyData.shown (.int i)).length<=13:=of_decide_eq_true s.lv;cases n<;>exact ⟨by omega,a⟩
def T1 {L:Nat} (n:Nat) {x:Str} (h:x.cps.size<=10/\(x.cps.toList.all λc=>decide (c<16 ^ 8))=true):Th L n (.str x):=by
 cases n<;>exact h
def qgo {L:Nat} (n:Nat) {b:Bool}:Th L n (.bool b):=by cases n<;>trivial
def qe8 {L:Nat} (n:Nat):Th L n .none:=by cases n<;>trivial
def al0 {P:PyData->Prop}:∀ d∈([]:List PyData),P d:=λ_ h=>nomatch h
def alc {P:PyData->Prop} {x:PyData} {r:List PyData} (h:P x) (t:∀ d∈r,P d):∀ d∈x::r,P d:=λd hd=>by
 rcases mem_cons.mp hd with rfl|hd
 ·exact h
 ·exact t d hd
def ala {P:PyData->Prop} {x y:List PyData} (h:∀ d∈x,P d) (t:∀ d∈y,P d):∀ d∈x++y,P d:=λd hd=>by
 rcases List.mem_append.mp hd with hd|hd
 ·exact h d hd
 ·exact t d hd
abbrev Tg (n:Nat) (d:PyData):Prop:=Th 18 n d
def J2 {n:Nat} {ds:List PyData} (hl:ds.length<=18) (h:∀ d∈ds,Tg n d):Tg (n+1) (.tuple ds):=⟨hl,h⟩
def qfi {n:Nat} {ds:List PyData} (hl:ds.length<=18) (h:∀ d∈ds,Tg n d):Tg (n+1) (.list ds):=⟨hl,h⟩
def UG {L:Nat}:∀ {n:Nat} (m:Nat) {d:PyData},Th L n d->n<=m->Th L m d
 |n,m,.none,_,_=>qe8 m
 |n,m,.bool _,_,_=>qgo m
 |0,0,.int i,h,_=>h
 |0,m+1,.int i,h,_=>h
 |n+1,0,.int i,h,_=>h
 |n+1,m+1,.int i,h,_=>h
 |0,m,.str i,h,_=>T1 m h
 |n+1,m,.str i,h,_=>T1 m h
 |n+1,m+1,.list ds,⟨h1,h2⟩,e=>⟨h1,λd hd=>UG m (h2 d hd) (by omega)⟩
 |n+1,m+1,.tuple ds,⟨h1,h2⟩,e=>⟨h1,λd hd=>UG m (h2 d hd) (by omega)⟩
 |0,_,.list ds,h,_=>h.elim
 |0,_,.tuple ds,h,_=>h.elim
 |n+1,0,.list ds,h,e=>by omega
 |n+1,0,.tuple ds,h,e=>by omega
 |0,_,.dict _,h,_=>h.elim
 |n+1,_,.dict _,h,_=>h.elim
def qg8 {p:Int×Int} (h:(-16<=p.1/\p.1<=16)/\(-16<=p.2/\p.2<=16)):Tg 1 (pD p):=J2 (by simp) (alc (J4 _ (by omega)) (alc (J4 _ (by omega)) al0))
def qdb {ps:List (Int×Int)} (h:∀ p∈ps,(-16<=p.1/\p.1<=16)/\(-16<=p.2/\p.2<=16)):∀ d∈ps.map pD,Tg 1 d:=λd hd=>by
 obtain ⟨p,hp,rfl⟩:=mem_map.mp hd;exact qg8 (h p hp)
def qha {ps:List (Int×Int)} {n:Nat} {Q:QD} (hn:n<900000) (l1:1<=ps.length) (l2:ps.length<=16) (hp:∀ p∈ps,(-16<=p.1/\p.1<=16)/\(-16<=p.2/\p.2<=16)) (h:∀ d,Tg 3 d->Q d (n+3)):qM.W [.tuple (ps.map pD)] n Q:=by
 rw [JJ];refine ⟨rfl,?_⟩;unfold zr;have al:=qdb hp;obtain ⟨D,hD⟩:∃ D,D=ps.map pD:=⟨_,rfl⟩
 have lD:D.length=ps.length:=by rw [hD];simp
 have at_:∀ j:Nat,j<D.length->∃ x y:Int,((-16<=x/\x<=16)/\(-16<=y/\y<=16))/\L2.atI D (j:Int)=some (.tuple [.int x,.int y]):=by
  intro j hj;rw [lD] at hj;refine ⟨ps[j].1,ps[j].2,hp _ (List.getElem_mem hj),?_⟩;rw [hD,atN (by simpa using hj),getElem?_map,getElem?_eq_getElem hj];rfl
 rw [← hD] at al ⊢;refine j4 λY1 h1=>?_
 try simp only [Pu.pwA]
 refine ⟨by omega,by omega,λway w0 w1=>⟨by omega,by omega,λat' a0 a1=>?_⟩⟩;obtain ⟨j,rfl,hj⟩:∃ j:Nat,at'=(j:Int)/\j<D.length:=⟨at'.toNat,by omega,by omega⟩
 rw [h1];refine j4 λY2 h2=>?_;obtain ⟨x,y,hxy,e1⟩:=at_ j hj
 try simp only [Pu.pwA,e1]
 rw [h2];refine j4 λY3 h3=>?_;have k1:ER (.tuple [.int x,.int y]) (.tuple [.int 0])=some (.tuple [.int x,.int y,.int 0]):=ZN (by simp)
 try simp only [Pu.pwA,jr,zV,k1]
 refine ⟨by omega,by omega,λu u0 u1=>?_⟩;refine R6 7 rfl u0 u1 λodd hv=>?_;have ho:Tg 1 odd:=by
  have ix:=J4 (L:=18) 0 (i:=x) (by omega);have iy:=J4 (L:=18) 0 (i:=y) (by omega)
  revert odd
  exact alc (J2 (by simp) (alc ix al0)) (alc (J2 (by simp) (alc ix (alc iy (alc (J4 _ (by omega)) al0)))) (alc (qfi (by simp) (alc ix (alc iy al0))) (alc (qe8 _) (alc (J2 (by simp) (alc (qgo _) (alc iy al0))) (alc (J2 (by simp) (alc ix (alc (T1 _ ⟨by decide,by decide⟩) al0))) (alc (J4 _ (by omega)) al0))))))
 rw [CS rfl,h3];refine j4 λY4 h4=>?_;have tA:∀ d∈D.take j,Tg 1 d:=λd hd=>al d (List.mem_of_mem_take hd);have tB:∀ d∈D.drop (j+1),Tg 1 d:=λd hd=>al d (List.mem_of_mem_drop hd);have eA:slA (.tuple D) none (some (j:Int))=some (.tuple (D.take j)):=by rw [TF,WM]
 have eB:slA (.tuple D) (some ((j:Int)+1)) none=some (.tuple (D.drop (j+1))):=by rw [TF,show (j:Int)+1=((j+1:Nat):Int) by omega,WU]
 have lA:(D.take j).length=j:=by rw [List.length_take];omega
 have lB:(D.drop (j+1)).length=D.length-(j+1):=List.length_drop;generalize D.take j=A at *;generalize D.drop (j+1)=B at *;have ci:ER (.int (j:Int)) (.int 1)=some (.int ((j:Int)+1)):=id rfl;have cx:ER (.int x) (.int 1)=some (.int (x+1)):=id rfl;simp (disch:=first|omega|(simp;omega)) only [U2,YQ,jr,zV,eA,eB,ci,ZN,Pu.pwA];rw [h4];refine j4 λY5 h5=>?_;have cl:ER (.list [.tuple (D++[.tuple [.int x,.int y]]),.tuple (.tuple [.int x,.int y]::D),.tuple (A++[odd]++B),.tuple (A++B)]) (.list [.list D,.tuple [],.tuple (A++[.tuple [.int (x+1),.int y]]++B)])=some (.list [.tuple (D++[.tuple [.int x,.int y]]),.tuple (.tuple [.int x,.int y]::D),.tuple (A++[odd]++B),.tuple (A++B),.list D,.tuple [],.tuple (A++[.tuple [.int (x+1),.int y]]++B)]):=qdt (by simp);simp (disch:=first|omega|(simp;omega)) only [U2,YQ,jr,zV,eA,eB,ci,cx,cl,ZN,Pu.pwA];rw [h5];have tp:Tg 1 (.tuple [.int x,.int y]):=qg8 (p:=(x,y)) hxy;have tp':Tg 1 (.tuple [.int (x+1),.int y]):=J2 (by simp) (alc (J4 _ (by omega)) (alc (J4 _ (by omega)) al0));obtain ⟨v,ev,hv⟩:=R6 (P:=Tg 2) 7 rfl w0 w1 (alc (J2 (by simp;omega) (ala al (alc tp al0))) (alc (J2 (by simp;omega) (alc tp al)) (alc (J2 (by simp;omega) (ala (ala tA (alc ho al0)) tB)) (alc (J2 (by simp;omega) (ala tA tB)) (alc (qfi (by omega) al) (alc (J2 (by simp) al0) (alc (J2 (by simp;omega) (ala (ala tA (alc tp' al0)) tB)) al0)))))))
 try simp only [Pu.pwA,ev]
 exact ⟨_,by omega,h _ (J2 (by simp) (alc (T1 _ ⟨by decide,by decide⟩) (alc hv al0)))⟩
def p9:cI KY (λi j=>i ^ j.toNat) (.int 10) (.int 9)=some (.int 1000000000):=by
 have h:KY 10 9:=⟨by decide,by decide,by decide⟩
 exact (zd h).trans (congrArg some (congrArg PyData.int (by decide +kernel)))
def qbO {m:List Bool} {i:Nat} {d:PyData} {ρ:Rho} (h:T2 d=true):U1 m false i d ρ=ρ.set i (.sh d):=by
 unfold U1;rw [h];rfl
def Sg (d:PyData):Prop:=Tg 5 d/\∃ x,UR true [d]=some (.str x)
def sg3 {d:PyData} (h:Tg 3 d):Sg d:=⟨UG 5 h (by decide),qaC h (by decide) (by decide)⟩
def sg1 {e:PyData} (h:Tg 3 e):Sg (.tuple [e]):=by
 refine ⟨UG 5 (J2 (n:=3) (by simp) (alc h al0)) (by decide),_,MJ ?_⟩;have t:=sws (ds:=[e]) (n:=3) (m:=bd 18 3) (alc (XM h) al0);refine ⟨t.sh,t.nd,Nat.le_trans (Nat.succ_le_succ t.dp) (by decide),?_⟩;have a:=PyData.shown_le_bulk 40 (by decide) (.tuple [e]) t.lv;have b:=t.bk;have c:42*(1*(bd 18 3+1))+40<=16777216:=by decide
 simp only [length_cons,length_nil,Nat.zero_add] at b;simp only [PyData.bulk] at a;rw [sizeLine_eq];omega
structure WT (ds:List PyData):Prop where
 lo:2<=ds.length
 hi:ds.length<=4
 th:∀ d∈ds,Tg 2 d
 hd:∃ s:Str,L2.atI ds 0=some (.str s)/\(s="cells" -> ∃ ps:List (Int×Int),L2.atI ds 1=some (.tuple (ps.map pD))/\1<=ps.length/\ps.length<=16/\∀ p∈ps,(-16<=p.1/\p.1<=16)/\(-16<=p.2/\p.2<=16))/\(¬ s="cells" -> ∀ j:Nat,1<=j->j<ds.length->∃ i:Int,L2.atI ds (j:Int)=some (.int i)/\-16<=i/\i<=16)
def qfv (k:Nat):¬ jg k="cells" := by
 match k with
 |0=>exact λz=>by cases z
 |1=>exact λz=>by cases z
 |2=>exact λz=>by cases z
 |k+3=>exact λz=>by cases z
def qgh (k:Nat):(jg k).cps.size<=10/\((jg k).cps.toList.all λc=>decide (c<16 ^ 8))=true:=by
 match k with
 |0=>exact ⟨by decide,by decide⟩
 |1=>exact ⟨by decide,by decide⟩
 |2=>exact ⟨by decide,by decide⟩
 |k+3=>
  have e:jg (k+3)="back" := rfl;rw [e];exact ⟨by decide,by decide⟩
def wt {w:Wk} (ok:w.Ok):∃ ds,Wk.d w=.tuple ds/\WT ds:=by
 cases w with
 |line k m=>
  obtain ⟨_,m1,m2⟩:=ok;refine ⟨_,rfl,by simp,by simp,alc (T1 _ (qgh k)) (alc (J4 _ (by omega)) al0),_,rfl,λz=>absurd z (qfv k),λ_ j j1 j2=>?_⟩
  match j,j1,j2 with
  |1,_,_=>exact ⟨_,rfl,by omega,by omega⟩
  |j+2,_,h=>simp at h;omega
 |block a b=>
  obtain ⟨_,_,_,_,_⟩:=ok;refine ⟨_,rfl,by simp,by simp,alc (T1 _ ⟨by decide,by decide⟩) (alc (J4 _ (by omega)) (alc (J4 _ (by omega)) al0)),_,rfl,(λz=>absurd z (by decide)),λ_ j j1 j2=>?_⟩
  match j,j1,j2 with
  |1,_,_=>exact ⟨_,rfl,by omega,by omega⟩
  |2,_,_=>exact ⟨_,rfl,by omega,by omega⟩
  |j+3,_,h=>simp at h;omega
 |step a b m=>
  obtain ⟨_,_,_,_⟩:=ok;refine ⟨_,rfl,by simp,by simp,alc (T1 _ ⟨by decide,by decide⟩) (alc (J4 _ (by omega)) (alc (J4 _ (by omega)) (alc (J4 _ (by omega)) al0))),_,rfl,(λz=>absurd z (by decide)),λ_ j j1 j2=>?_⟩
  match j,j1,j2 with
  |1,_,_=>exact ⟨_,rfl,by omega,by omega⟩
  |2,_,_=>exact ⟨_,rfl,by omega,by omega⟩
  |3,_,_=>exact ⟨_,rfl,by omega,by omega⟩
  |j+4,_,h=>simp at h;omega
 |cells ps=>
  obtain ⟨l1,l2,_,hp⟩:=ok;exact ⟨_,rfl,by simp,by simp,alc (T1 _ ⟨by decide,by decide⟩) (alc (J2 (by simp;omega) (qdb hp)) al0),_,rfl,λ_=>⟨ps,rfl,l1,l2,hp⟩,λz=>absurd rfl z⟩
def qcC {ds:List PyData} {n:Nat} {Q:QD} (hn:n<800000) (t:WT ds) (h:∀ d,Sg d->Q d (n+10)):jf.W [.tuple ds] n Q:=by
 obtain ⟨lo,hi,th,s,e0,hc,hnc⟩:=t;rw [DH];refine ⟨rfl,?_⟩;unfold QL;refine j4 λY1 h1=>?_
 try simp only [Pu.pwA,jr,zV]
 refine ⟨by omega,by omega,λway w0 w1=>⟨by omega,by omega,λa a0 a1=>?_⟩⟩;obtain ⟨j,ej,hj⟩:∃ j:Nat,1+a=(j:Int)/\1<=j/\j<ds.length:=⟨(1+a).toNat,by omega,by omega,by omega⟩
 have ca:ER (.int 1) (.int a)=some (.int (j:Int)):=congrArg (λx=>some (PyData.int x)) ej
 try simp only [Pu.pwA,ca]
 rw [h1];refine j4 λY2 h2=>?_
 try simp only [Pu.pwA]
 rw [h2];refine j4 λY3 h3=>?_
 try simp only [Pu.pwA]
 refine ⟨by omega,by omega,λu u0 u1=>?_⟩;refine R6 12 rfl u0 u1 λwd hv=>?_;have hw:Tg 2 wd/\T2 wd=true:=by
  revert wd
  refine alc ?_ (alc ?_ (alc ?_ (alc ?_ (alc ?_ (alc ?_ (alc ?_ (alc ?_ (alc ?_ (alc ?_ (alc ?_ (alc ⟨J4 _ (by omega),rfl⟩ al0)))))))))))<;>exact ⟨T1 _ ⟨by decide,by decide⟩,rfl⟩
 rw [qbO hw.2,h3];refine j4 λY4 h4=>?_;have tA:∀ d∈ds.take j,Tg 2 d:=λd hd=>th d (List.mem_of_mem_take hd);have tB:∀ d∈ds.drop (j+1),Tg 2 d:=λd hd=>th d (List.mem_of_mem_drop hd);have eA:slA (.tuple ds) none (some (j:Int))=some (.tuple (ds.take j)):=by rw [TF,WM]
 have eB:slA (.tuple ds) (some ((j:Int)+1)) none=some (.tuple (ds.drop (j+1))):=by rw [TF,show (j:Int)+1=((j+1:Nat):Int) by omega,WU]
 have lA:(ds.take j).length=j:=by rw [List.length_take];omega
 have lB:(ds.drop (j+1)).length=ds.length-(j+1):=List.length_drop;have sl:∀ lo hi,∃ C,slA (.tuple ds) lo hi=some (.tuple C)/\C.length<=4/\∀ d∈C,Tg 2 d:=λlo hi=>⟨JB ds lo hi,TF,by have:=qaT ds lo hi;omega,λd hd=>th d (qaY hd)⟩
 obtain ⟨C1,eC1,lC1,tC1⟩:=sl (some 1) none;obtain ⟨C2,eC2,lC2,tC2⟩:=sl none (some (-1));obtain ⟨C3,eC3,lC3,tC3⟩:=sl none (some 1);generalize ds.take j=A at *;generalize ds.drop (j+1)=B at *;have ci:ER (.int (j:Int)) (.int 1)=some (.int ((j:Int)+1)):=id rfl;by_cases z0:way=0
 ·simp (disch:=first|omega|(simp;omega)) only [z0,decide_true,U2,YQ,jr,zV,eC1,ZN,Pu.pwA];exact ⟨_,by omega,h _ (sg3 (J2 (n:=2) (by simp;omega) (alc hw.1 tC1)))⟩
 try simp only [Pu.pwA,z0,decide_false]
 rw [h4];refine j4 λY5 h5=>?_;by_cases z1:way=1
 ·try simp only [Pu.pwA,z1,decide_true]
  have k1:ER (.tuple ds) (.tuple [.int 1])=some (.tuple (ds++[.int 1])):=ZN (by simp;omega);have k2:ER (.tuple C1) (.tuple C3)=some (.tuple (C1++C3)):=ZN (by omega);have k3:ER (.tuple A) (.tuple B)=some (.tuple (A++B)):=ZN (by omega)
  try simp only [Pu.pwA,U2,YQ,jr,zV,eC1,eC2,eC3,eA,eB,ci,k1,k2,k3]
  refine ⟨by omega,by omega,λx x0 x1=>?_⟩;refine R6 6 rfl x0 x1 λv hv=>⟨_,by omega,h v ?_⟩
  have tw:Tg 3 (.tuple ds):=J2 (by omega) th;have i1:Tg 2 (.int 1):=J4 _ (by omega);have up:∀ {d},Tg 3 d->Sg d:=λh=>sg3 h
  revert v
  exact alc (up (J2 (by simp;omega) (ala th (alc i1 al0)))) (alc (up (J2 (by omega) tC2)) (alc (up (qfi (by omega) th)) (alc (sg1 tw) (alc (up (J2 (by simp;omega) (ala tC1 tC3))) (alc (up (J2 (by simp;omega) (ala tA tB))) al0)))))
 try simp only [Pu.pwA,z1,decide_false]
 rw [h5];refine j4 λY6 h6=>?_;by_cases z2:s="cells"
 ·obtain ⟨ps,e1,l1,l2,hp⟩:=hc z2
  try simp only [Pu.pwA,e0,z2,e1,decide_true]
  exact qha (by omega) l1 l2 hp λd hd=>⟨_,by omega,h d (sg3 hd)⟩
 try simp only [Pu.pwA,e0,z2,decide_false]
 rw [h6];refine j4 λY7 h7=>?_;obtain ⟨i,e1,i1,i2⟩:=hnc z2 j hj.1 hj.2
 try simp only [Pu.pwA,e1]
 rw [h7];refine j4 λY8 h8=>?_;have cx:ER (.int i) (.int 1)=some (.int (i+1)):=id rfl
 try simp only [Pu.pwA,jr,zV,cx,p9]
 refine ⟨by omega,by omega,λx x0 x1=>?_⟩;refine R6 11 rfl x0 x1 λodd hv=>?_;have ho:Tg 2 odd:=by
  have g9:Tg 2 (.int 1000000000):=⟨by decide +kernel,by decide +kernel⟩
  revert odd
  exact alc (J4 _ (by omega)) (alc (J4 _ (by omega)) (alc (J4 _ (by omega)) (alc (J4 _ (by omega)) (alc (qgo _) (alc (T1 _ ⟨by decide,by decide⟩) (alc (qe8 _) (alc (J2 (by simp) (alc (J4 _ (by omega)) al0)) (alc (J4 _ (by omega)) (alc (J4 _ (by omega)) (alc g9 al0))))))))))
 rw [CS rfl,h8];have k1:ER (.tuple A) (.tuple [odd])=some (.tuple (A++[odd])):=ZN (by simp;omega);have k2:ER (.tuple (A++[odd])) (.tuple B)=some (.tuple (A++[odd]++B)):=ZN (by simp;omega)
 try simp only [Pu.pwA,U2,YQ,jr,zV,eA,eB,ci,k1,k2]
 exact ⟨_,by omega,h _ (sg3 (J2 (n:=2) (by simp;omega) (ala (ala tA (alc ho al0)) tB)))⟩
def qb1 {w:Wk} (ok:w.Ok) (nz:nzW w):isW (Wk.d w)=true:=by
 have n1:jE "block" = false:=by decide
 have n2:jE "step" = false:=by decide
 have n3:jE "cells" = false:=by decide
 cases w with
 |line k m=>
  obtain ⟨_,m1,m2⟩:=ok;have l:jE (jg k)=true:=by
   match k with
   |0=>decide
   |1=>decide
   |2=>decide
   |k+3=>exact (by decide:jE "back" = true)
  simp only [isW,Wk.d,JM,l,if_true,T3,geN,decide_eq_true_eq];omega
 |block a b=>
  obtain ⟨_,_,_,_,_⟩:=ok;simp only [isW,Wk.d,JM,n1,Bool.false_eq_true,if_false,if_true,WX,geN,Bool.and_eq_true,decide_eq_true_eq];omega
 |step a b m=>
  obtain ⟨_,_,_,_⟩:=ok;have q:¬ (Str.ofString "step" = Str.ofString "block"):=by decide
  simp only [isW,Wk.d,JM,n2,q,Bool.false_eq_true,if_false,if_true,JX,isN,K11.nz,geN,Bool.and_eq_true,Bool.or_eq_true,Bool.not_eq_true',decide_eq_true_eq,decide_eq_false_iff_not,true_and];exact ⟨nz,by omega⟩
 |cells ps=>
  obtain ⟨l1,l2,nd,hp⟩:=ok;have q1:¬ (Str.ofString "cells" = Str.ofString "block"):=by decide
  have q2:¬ (Str.ofString "cells" = Str.ofString "step"):=by decide
  have e:prs (ps.map pD)=some ps:=V7 ps;simp only [isW,Wk.d,JM,n3,q1,q2,Bool.false_eq_true,if_false,if_true,YS,e];cases ps with
  |nil=>simp at l1
  |cons p r=>simp [nd]
def KC {gf:PyData->Option (List (Nat×PyData))} {bw:Rho->Nat->QO->Prop} (xs:List PyData) (mono:Mn bw) (I:Rho->Nat->Prop) {ρ:Rho} {n:Nat} {Q:QO} (h0:I ρ n)
  (hs:∀ x∈xs,∀ ρ n,I ρ n->∃ bs,gf x=some bs/\bw (ZY ρ bs) n λo m=>match o with|.nx ρ'=>I ρ' m|.ct ρ'=>I ρ' m|.bk ρ'=>Q (.nx ρ') m|.rt d b=>Q (.rt d b) m)
  (k:∀ ρ n,I ρ n->Q (.nx ρ) n):T8 gf bw xs ρ n Q:=by
 have:=K0 (gf:=gf) (f:=id) xs mono (λ_=>I) h0 (λi x ρ n hx h=>hs x (mem_of_getElem? hx) ρ n h) k;rw [List.map_id] at this;exact this
def qd2:∀ k:Nat,k<=60->KP.w [.un,.sh (.int k),.un,.un,.un,.un,.un,.un] 0 okW:=by
 intro k hk;unfold KP;refine j4 λY1 h1=>?_
 try simp only [Pu.pwA,KH,CU]
 refine ⟨by omega,λw ok nz=>?_⟩;obtain ⟨ds,ew,t⟩:=wt ok;have iw:=qb1 ok nz
 try simp only [Pu.pwA]
 rw [h1,ew];rw [ew] at iw;refine j4 λY2 h2=>?_
 try simp (disch:=omega) only [Pu.pwA,qhh]
 refine ⟨by simp [T5],?_⟩;refine RN (R:=Sg) (gd:=id) (c:=10) (N:=1000) (T5 0 (6:Int).toNat) _ _ (λx _ n' Q' hn' h'=>?_) UK.mn mnT (by simp [T5]) λbs lb hb=>?_
 ·refine ⟨_,rfl,?_⟩
  try simp only [Pu.pwA,UK]
  exact qcC (by omega) t h'
 rw [KS] at lb;rw [List.map_id];refine ⟨by omega,?_⟩;have cl:qce (.list [.tuple ds]) (.list bs)=some (.list (.tuple ds::bs)):=qck (by simp;omega)
 try simp only [Pu.pwA,cl]
 rw [h2];refine j4 λY3 h3=>?_;have tw:Sg (.tuple ds):=sg3 (J2 (n:=2) (by have:=t.hi;omega) t.th);have all:∀ d∈PyData.tuple ds::bs,Sg d:=alc tw hb
 try simp only [Pu.pwA]
 refine KC _ V0.mn (λρ n=>∃ s5 s6 s7,ρ=[.un,.sh (.int k),.un,.sh (.tuple ds),.sh (.list (.tuple ds::bs)),s5,s6,s7]) ⟨_,_,_,rfl⟩ ?_ ?_
 ·rintro d hd ρ n ⟨s5,s6,s7,rfl⟩;obtain ⟨hd,x1,e1⟩:=all d hd;have e2:=qf8 (n:=1) hd (by decide);have e3:=M1 (n:=1) hd (by decide) (by decide);refine ⟨_,rfl,?_⟩;unfold V0;refine j4 λZ1 g1=>?_
  try simp only [Pu.pwA,S4,WL,e1]
  rw [g1];refine j4 λZ2 g2=>?_
  try simp only [Pu.pwA,e2]
  rw [g2]
  try simp only [Pu.pwA,e1,e2,e3,S4,WL,a7]
  exact ⟨_,_,_,rfl⟩
 ·rintro ρ n ⟨s5,s6,s7,rfl⟩
  try simp only [Pu.pwA]
  rw [h3];have e3:=M1 (n:=1) tw.1 (by decide) (by decide)
  try simp only [Pu.pwA,e3,iw,Bool.not_true]
end K11
namespace K11
open PySem L2 L3 Bk
def Kf (P:Params):PySem.W.Frag:=[(3,Hd.oD P 28 [(.str "__name__" 165,.str "law_bankwalk_k11_what_walks_are" 258),(.str "__doc__" 166,.none),(.str "__package__" 167,.none),(.str "__loader__" 168,.builtin "__main__.__loader__#opaque"),(.str "__spec__" 169,.none),(.str "__annotations__" 170,.ref 6),(.str "__builtins__" 171,.ref 4),(.str "__file__" 173,.str "/claim/cut.py" 172),(.str "__cached__" 174,.none),(.str "is_number" 195,.ref 21),(.str "is_at_least" 203,.ref 28),(.str "are_at_least" 209,.ref 33),(.str "is_pair" 216,.ref 40),(.str "STRIDES" 236,.ref 41),(.str "is_step" 243,.ref 52),(.str "is_cells" 249,.ref 57),(.str "is_walk" 257,.ref 64),(.str "_law_mix" 268,.ref 71),(.str "_law_left" 278,.ref 78),(.str "_law_pick" 287,.ref 85),(.str "_law_many" 294,.ref 92),(.str "_law_walk" 311,.ref 99),(.str "_law_is_number" 318,.ref 106),(.str "_law_are_numbers" 324,.ref 111),(.str "_law_is_walk" 333,.ref 118),(.str "_law_bent_cells" 346,.ref 125),(.str "_law_bent" 361,.ref 132),(.str "law" 367,.ref 137)]),
 (20,Hd.oC [.str "is_number" 189,.str "is_number" 190,.str "/claim/cut.py" 191,.int (2) 0,.int (1) 0,.int (0) 0,.int (0) 0,.int (3) 0,.ref 15,.bool true,.int (181) 0,.ref 16,.none,.ref 17,.ref 18,.ref 19,.int (193) 0,.int (2) 0,.str "/claim/cut.py" 194]),
 (21,Hd.oF "is_number" ju (.str "bankwalk.basics" 187) (.ref 20)),
 (27,Hd.oC [.str "is_at_least" 196,.str "is_at_least" 197,.str "/claim/cut.py" 198,.int (4) 0,.int (2) 0,.int (0) 0,.int (0) 0,.int (3) 0,.ref 22,.bool true,.int (181) 0,.ref 23,.none,.ref 24,.ref 25,.ref 26,.int (201) 0,.int (4) 0,.str "/claim/cut.py" 202]),
 (28,Hd.oF "is_at_least" zN (.str "bankwalk.basics" 187) (.ref 27)),
 (32,Hd.oC [.str "are_at_least" 204,.str "are_at_least" 205,.str "/claim/cut.py" 206,.int (6) 0,.int (2) 0,.int (0) 0,.int (0) 0,.int (3) 0,.ref 29,.bool true,.int (181) 0,.ref 30,.none,.none,.none,.ref 31,.int (207) 0,.int (6) 0,.str "/claim/cut.py" 208]),
 (33,Hd.oF "are_at_least" zH (.str "bankwalk.basics" 187) (.ref 32)),
 (39,Hd.oC [.str "is_pair" 210,.str "is_pair" 211,.str "/claim/cut.py" 212,.int (8) 0,.int (1) 0,.int (0) 0,.int (0) 0,.int (3) 0,.ref 34,.bool true,.int (181) 0,.ref 35,.none,.ref 36,.ref 37,.ref 38,.int (214) 0,.int (8) 0,.str "/claim/cut.py" 215]),
 (40,Hd.oF "is_pair" QI (.str "bankwalk.basics" 187) (.ref 39)),
 (41,Hd.oD P 4 [(.str "row" 219,.ref 42),(.str "column" 222,.ref 43),(.str "slant" 225,.ref 44),(.str "back" 228,.ref 45)]),
 (42,Hd.oT [.int (0) 220,.int (1) 221]),
 (43,Hd.oT [.int (1) 223,.int (0) 224]),
 (44,Hd.oT [.int (1) 226,.int (1) 227]),
 (45,Hd.oT [.int (1) 229,.int (-1) 231]),
 (51,Hd.oC [.str "is_step" 237,.str "is_step" 238,.str "/claim/cut.py" 239,.int (12) 0,.int (1) 0,.int (0) 0,.int (0) 0,.int (3) 0,.ref 46,.bool true,.int (181) 0,.ref 47,.none,.ref 48,.ref 49,.ref 50,.int (241) 0,.int (12) 0,.str "/claim/cut.py" 242]),
 (52,Hd.oF "is_step" QR (.str "bankwalk.walks" 217) (.ref 51)),
 (56,Hd.oC [.str "is_cells" 244,.str "is_cells" 245,.str "/claim/cut.py" 246,.int (16) 0,.int (1) 0,.int (0) 0,.int (0) 0,.int (3) 0,.ref 53,.bool true,.int (181) 0,.ref 54,.none,.none,.none,.ref 55,.int (247) 0,.int (16) 0,.str "/claim/cut.py" 248]),
 (57,Hd.oF "is_cells" jM (.str "bankwalk.walks" 217) (.ref 56)),
 (63,Hd.oC [.str "is_walk" 250,.str "is_walk" 251,.str "/claim/cut.py" 252,.int (22) 0,.int (1) 0,.int (0) 0,.int (0) 0,.int (3) 0,.ref 58,.bool true,.int (181) 0,.ref 59,.none,.ref 60,.ref 61,.ref 62,.int (255) 0,.int (22) 0,.str "/claim/cut.py" 256]),
 (64,Hd.oF "is_walk" QP (.str "bankwalk.walks" 217) (.ref 63)),
 (70,Hd.oC [.str "_law_mix" 260,.str "_law_mix" 261,.str "/claim/cut.py" 262,.int (34) 0,.int (2) 0,.int (0) 0,.int (0) 0,.int (3) 0,.ref 65,.bool true,.int (181) 0,.ref 66,.none,.ref 67,.ref 68,.ref 69,.int (266) 0,.int (34) 0,.str "/claim/cut.py" 267]),
 (71,Hd.oF "_law_mix" QM (.str "law_bankwalk_k11_what_walks_are" 258) (.ref 70)),
 (77,Hd.oC [.str "_law_left" 269,.str "_law_left" 270,.str "/claim/cut.py" 271,.int (37) 0,.int (2) 0,.int (0) 0,.int (0) 0,.int (3) 0,.ref 72,.bool true,.int (181) 0,.ref 73,.none,.ref 74,.ref 75,.ref 76,.int (276) 0,.int (37) 0,.str "/claim/cut.py" 277]),
 (78,Hd.oF "_law_left" jQ (.str "law_bankwalk_k11_what_walks_are" 258) (.ref 77)),
 (84,Hd.oC [.str "_law_pick" 279,.str "_law_pick" 280,.str "/claim/cut.py" 281,.int (41) 0,.int (2) 0,.int (0) 0,.int (0) 0,.int (3) 0,.ref 79,.bool true,.int (181) 0,.ref 80,.none,.ref 81,.ref 82,.ref 83,.int (285) 0,.int (41) 0,.str "/claim/cut.py" 286]),
 (85,Hd.oF "_law_pick" jN (.str "law_bankwalk_k11_what_walks_are" 258) (.ref 84)),
 (91,Hd.oC [.str "_law_many" 288,.str "_law_many" 289,.str "/claim/cut.py" 290,.int (48) 0,.int (1) 0,.int (0) 0,.int (0) 0,.int (3) 0,.ref 86,.bool true,.int (181) 0,.ref 87,.none,.ref 88,.ref 89,.ref 90,.int (292) 0,.int (48) 0,.str "/claim/cut.py" 293]),
 (92,Hd.oF "_law_many" jS (.str "law_bankwalk_k11_what_walks_are" 258) (.ref 91)),
 (98,Hd.oC [.str "_law_walk" 295,.str "_law_walk" 296,.str "/claim/cut.py" 297,.int (50) 0,.int (1) 0,.int (0) 0,.int (0) 0,.int (3) 0,.ref 93,.bool true,.int (181) 0,.ref 94,.none,.ref 95,.ref 96,.ref 97,.int (309) 0,.int (50) 0,.str "/claim/cut.py" 310]),
 (99,Hd.oF "_law_walk" jP (.str "law_bankwalk_k11_what_walks_are" 258) (.ref 98)),
 (105,Hd.oC [.str "_law_is_number" 312,.str "_law_is_number" 313,.str "/claim/cut.py" 314,.int (69) 0,.int (1) 0,.int (0) 0,.int (0) 0,.int (3) 0,.ref 100,.bool true,.int (181) 0,.ref 101,.none,.ref 102,.ref 103,.ref 104,.int (316) 0,.int (69) 0,.str "/claim/cut.py" 317]),
 (106,Hd.oF "_law_is_number" zu (.str "law_bankwalk_k11_what_walks_are" 258) (.ref 105)),
 (110,Hd.oC [.str "_law_are_numbers" 319,.str "_law_are_numbers" 320,.str "/claim/cut.py" 321,.int (71) 0,.int (2) 0,.int (0) 0,.int (0) 0,.int (3) 0,.ref 107,.bool true,.int (181) 0,.ref 108,.none,.none,.none,.ref 109,.int (322) 0,.int (71) 0,.str "/claim/cut.py" 323]),
 (111,Hd.oF "_law_are_numbers" zc (.str "law_bankwalk_k11_what_walks_are" 258) (.ref 110)),
 (117,Hd.oC [.str "_law_is_walk" 325,.str "_law_is_walk" 326,.str "/claim/cut.py" 327,.int (73) 0,.int (1) 0,.int (0) 0,.int (0) 0,.int (3) 0,.ref 112,.bool true,.int (181) 0,.ref 113,.none,.ref 114,.ref 115,.ref 116,.int (331) 0,.int (73) 0,.str "/claim/cut.py" 332]),
 (118,Hd.oF "_law_is_walk" zO (.str "law_bankwalk_k11_what_walks_are" 258) (.ref 117)),
 (124,Hd.oC [.str "_law_bent_cells" 334,.str "_law_bent_cells" 335,.str "/claim/cut.py" 336,.int (88) 0,.int (2) 0,.int (0) 0,.int (0) 0,.int (3) 0,.ref 119,.bool true,.int (181) 0,.ref 120,.none,.ref 121,.ref 122,.ref 123,.int (344) 0,.int (88) 0,.str "/claim/cut.py" 345]),
 (125,Hd.oF "_law_bent_cells" zm (.str "law_bankwalk_k11_what_walks_are" 258) (.ref 124)),
 (131,Hd.oC [.str "_law_bent" 347,.str "_law_bent" 348,.str "/claim/cut.py" 349,.int (95) 0,.int (2) 0,.int (0) 0,.int (0) 0,.int (3) 0,.ref 126,.bool true,.int (181) 0,.ref 127,.none,.ref 128,.ref 129,.ref 130,.int (359) 0,.int (95) 0,.str "/claim/cut.py" 360]),
 (132,Hd.oF "_law_bent" jT (.str "law_bankwalk_k11_what_walks_are" 258) (.ref 131)),
 (136,Hd.oC [.str "law" 362,.str "law" 363,.str "/claim/cut.py" 364,.int (109) 0,.int (1) 0,.int (0) 0,.int (0) 0,.int (3) 0,.ref 133,.bool true,.int (181) 0,.ref 134,.none,.none,.none,.ref 135,.int (365) 0,.int (109) 0,.str "/claim/cut.py" 366]),
 (137,Hd.oF "law" Q4 (.str "law_bankwalk_k11_what_walks_are" 258) (.ref 136))]
def qct {l:PySem.W.OpenLaw} {w:World} {h:Heap} {mg:Str->Option Value} {fa:Addr} (X:(Kf w.params).In h) (G:h.Ns mainGlobals mg) (hfa:mg "law" = some (.ref fa)) :
  ∃ fd:FuncData,(∀ (s:Shared) (v:Value),BindsTo s fd ⟨[v],[]⟩ [("_law_script",v)])/\∀ base:Heap,(Kf w.params).In base->base.Ns mainGlobals mg->FnOk l.prog w (Kf w.params) mg base CX0 5 fa fd ["_law_script"] (lSp (Kf w.params) VU):=by
 have e:=hfa.symm.trans (Hd.jO X G "law" (.ref 137) (by kernel_rfl));cases e;have F0:=Hd.j6 (K:=Kf w.params) "is_number" ju 21 (.str "bankwalk.basics" 187) (.ref 20) (by kernel_rfl) (by kernel_rfl) (by kernel_rfl);have b0:=F0.binds (ps:=ZC) λ_ _ _ _ _ _ us hl=>by obtain ⟨_,rfl⟩:=Pu.T6 hl;rfl
 have m0:=Hd.jO X G "is_number" (.ref 21) (by kernel_rfl);have F1:=Hd.j6 (K:=Kf w.params) "is_at_least" zN 28 (.str "bankwalk.basics" 187) (.ref 27) (by kernel_rfl) (by kernel_rfl) (by kernel_rfl);have b1:=F1.binds (ps:=jR) λ_ _ _ _ _ _ us hl=>by obtain ⟨_,_,rfl⟩:=Pu.NN hl;rfl
 have m1:=Hd.jO X G "is_at_least" (.ref 28) (by kernel_rfl);have F2:=Hd.j6 (K:=Kf w.params) "are_at_least" zH 33 (.str "bankwalk.basics" 187) (.ref 32) (by kernel_rfl) (by kernel_rfl) (by kernel_rfl);have b2:=F2.binds (ps:=jA) λ_ _ _ _ _ _ us hl=>by obtain ⟨_,_,rfl⟩:=Pu.NN hl;rfl
 have m2:=Hd.jO X G "are_at_least" (.ref 33) (by kernel_rfl);have F3:=Hd.j6 (K:=Kf w.params) "is_pair" QI 40 (.str "bankwalk.basics" 187) (.ref 39) (by kernel_rfl) (by kernel_rfl) (by kernel_rfl);have b3:=F3.binds (ps:=YM) λ_ _ _ _ _ _ us hl=>by obtain ⟨_,rfl⟩:=Pu.T6 hl;rfl
 have m3:=Hd.jO X G "is_pair" (.ref 40) (by kernel_rfl);have F4:=Hd.j6 (K:=Kf w.params) "is_step" QR 52 (.str "bankwalk.walks" 217) (.ref 51) (by kernel_rfl) (by kernel_rfl) (by kernel_rfl);have b4:=F4.binds (ps:=J8) λ_ _ _ _ _ _ us hl=>by obtain ⟨_,rfl⟩:=Pu.T6 hl;rfl
 have m4:=Hd.jO X G "is_step" (.ref 52) (by kernel_rfl);have F5:=Hd.j6 (K:=Kf w.params) "is_cells" jM 57 (.str "bankwalk.walks" 217) (.ref 56) (by kernel_rfl) (by kernel_rfl) (by kernel_rfl);have b5:=F5.binds (ps:=ZZ) λ_ _ _ _ _ _ us hl=>by obtain ⟨_,rfl⟩:=Pu.T6 hl;rfl
 have m5:=Hd.jO X G "is_cells" (.ref 57) (by kernel_rfl);have F6:=Hd.j6 (K:=Kf w.params) "is_walk" QP 64 (.str "bankwalk.walks" 217) (.ref 63) (by kernel_rfl) (by kernel_rfl) (by kernel_rfl);have b6:=F6.binds (ps:=J6) λ_ _ _ _ _ _ us hl=>by obtain ⟨_,rfl⟩:=Pu.T6 hl;rfl
 have m6:=Hd.jO X G "is_walk" (.ref 64) (by kernel_rfl);have F7:=Hd.j6 (K:=Kf w.params) "_law_mix" QM 71 (.str "law_bankwalk_k11_what_walks_are" 258) (.ref 70) (by kernel_rfl) (by kernel_rfl) (by kernel_rfl);have b7:=F7.binds (ps:=J9) λ_ _ _ _ _ _ us hl=>by obtain ⟨_,_,rfl⟩:=Pu.NN hl;rfl
 have m7:=Hd.jO X G "_law_mix" (.ref 71) (by kernel_rfl);have F8:=Hd.j6 (K:=Kf w.params) "_law_left" jQ 78 (.str "law_bankwalk_k11_what_walks_are" 258) (.ref 77) (by kernel_rfl) (by kernel_rfl) (by kernel_rfl);have b8:=F8.binds (ps:=JE) λ_ _ _ _ _ _ us hl=>by obtain ⟨_,_,rfl⟩:=Pu.NN hl;rfl
 have m8:=Hd.jO X G "_law_left" (.ref 78) (by kernel_rfl);have F9:=Hd.j6 (K:=Kf w.params) "_law_pick" jN 85 (.str "law_bankwalk_k11_what_walks_are" 258) (.ref 84) (by kernel_rfl) (by kernel_rfl) (by kernel_rfl);have b9:=F9.binds (ps:=JF) λ_ _ _ _ _ _ us hl=>by obtain ⟨_,_,rfl⟩:=Pu.NN hl;rfl
 have m9:=Hd.jO X G "_law_pick" (.ref 85) (by kernel_rfl);have F10:=Hd.j6 (K:=Kf w.params) "_law_many" jS 92 (.str "law_bankwalk_k11_what_walks_are" 258) (.ref 91) (by kernel_rfl) (by kernel_rfl) (by kernel_rfl);have b10:=F10.binds (ps:=JC) λ_ _ _ _ _ _ us hl=>by obtain ⟨_,rfl⟩:=Pu.T6 hl;rfl
 have m10:=Hd.jO X G "_law_many" (.ref 92) (by kernel_rfl);have F11:=Hd.j6 (K:=Kf w.params) "_law_walk" jP 99 (.str "law_bankwalk_k11_what_walks_are" 258) (.ref 98) (by kernel_rfl) (by kernel_rfl) (by kernel_rfl);have b11:=F11.binds (ps:=JH) λ_ _ _ _ _ _ us hl=>by obtain ⟨_,rfl⟩:=Pu.T6 hl;rfl
 have m11:=Hd.jO X G "_law_walk" (.ref 99) (by kernel_rfl);have F12:=Hd.j6 (K:=Kf w.params) "_law_is_number" zu 106 (.str "law_bankwalk_k11_what_walks_are" 258) (.ref 105) (by kernel_rfl) (by kernel_rfl) (by kernel_rfl);have b12:=F12.binds (ps:=jj) λ_ _ _ _ _ _ us hl=>by obtain ⟨_,rfl⟩:=Pu.T6 hl;rfl
 have m12:=Hd.jO X G "_law_is_number" (.ref 106) (by kernel_rfl);have F13:=Hd.j6 (K:=Kf w.params) "_law_are_numbers" zc 111 (.str "law_bankwalk_k11_what_walks_are" 258) (.ref 110) (by kernel_rfl) (by kernel_rfl) (by kernel_rfl);have b13:=F13.binds (ps:=zL) λ_ _ _ _ _ _ us hl=>by obtain ⟨_,_,rfl⟩:=Pu.NN hl;rfl
 have m13:=Hd.jO X G "_law_are_numbers" (.ref 111) (by kernel_rfl);have F14:=Hd.j6 (K:=Kf w.params) "_law_is_walk" zO 118 (.str "law_bankwalk_k11_what_walks_are" 258) (.ref 117) (by kernel_rfl) (by kernel_rfl) (by kernel_rfl);have b14:=F14.binds (ps:=jL) λ_ _ _ _ _ _ us hl=>by obtain ⟨_,rfl⟩:=Pu.T6 hl;rfl
 have m14:=Hd.jO X G "_law_is_walk" (.ref 118) (by kernel_rfl);have F15:=Hd.j6 (K:=Kf w.params) "_law_bent_cells" zm 125 (.str "law_bankwalk_k11_what_walks_are" 258) (.ref 124) (by kernel_rfl) (by kernel_rfl) (by kernel_rfl);have b15:=F15.binds (ps:=zX) λ_ _ _ _ _ _ us hl=>by obtain ⟨_,_,rfl⟩:=Pu.NN hl;rfl
 have m15:=Hd.jO X G "_law_bent_cells" (.ref 125) (by kernel_rfl);have F16:=Hd.j6 (K:=Kf w.params) "_law_bent" jT 132 (.str "law_bankwalk_k11_what_walks_are" 258) (.ref 131) (by kernel_rfl) (by kernel_rfl) (by kernel_rfl);have b16:=F16.binds (ps:=Z3) λ_ _ _ _ _ _ us hl=>by obtain ⟨_,_,rfl⟩:=Pu.NN hl;rfl
 have m16:=Hd.jO X G "_law_bent" (.ref 132) (by kernel_rfl);have F17:=Hd.j6 (K:=Kf w.params) "law" Q4 137 (.str "law_bankwalk_k11_what_walks_are" 258) (.ref 136) (by kernel_rfl) (by kernel_rfl) (by kernel_rfl);have g_isinstance:=Hd.Z4 X G "isinstance" (by kernel_rfl);have g_bool:=Hd.Z4 X G "bool" (by kernel_rfl);have g_int:=Hd.Z4 X G "int" (by kernel_rfl);have g_all:=Hd.Z4 X G "all" (by kernel_rfl);have g_len:=Hd.Z4 X G "len" (by kernel_rfl);have g_tuple:=Hd.Z4 X G "tuple" (by kernel_rfl);have g_set:=Hd.Z4 X G "set" (by kernel_rfl);have g_str:=Hd.Z4 X G "str" (by kernel_rfl);have g_STRIDES:Tb (Kf w.params) mg w "STRIDES" jq:=⟨41,_,4,Hd.jO X G "STRIDES" (.ref 41) (by kernel_rfl),(show (Kf w.params).lookup 41=some ⟨.type "dict",none,.dict #[⟨PyData.keyHash w.params "row",.str "row" 219,.ref 42⟩,⟨PyData.keyHash w.params "column",.str "column" 222,.ref 43⟩,⟨PyData.keyHash w.params "slant",.str "slant" 225,.ref 44⟩,⟨PyData.keyHash w.params "back",.str "back" 228,.ref 45⟩] 4,#[]⟩ by kernel_rfl),rfl,(.cons (v:=.ref 42) rfl (WA (show (Kf w.params).lookup 42=some ⟨.type "tuple",none,.seq #[.int (0) 220,.int (1) 221] 0,#[]⟩ by kernel_rfl)) (.cons (v:=.ref 43) rfl (WA (show (Kf w.params).lookup 43=some ⟨.type "tuple",none,.seq #[.int (1) 223,.int (0) 224] 0,#[]⟩ by kernel_rfl)) (.cons (v:=.ref 44) rfl (WA (show (Kf w.params).lookup 44=some ⟨.type "tuple",none,.seq #[.int (1) 226,.int (1) 227] 0,#[]⟩ by kernel_rfl)) (.cons (v:=.ref 45) rfl (WA (show (Kf w.params).lookup 45=some ⟨.type "tuple",none,.seq #[.int (1) 229,.int (-1) 231] 0,#[]⟩ by kernel_rfl)) .nil))))⟩
 have g_abs:=Hd.Z4 X G "abs" (by kernel_rfl);have g_range:=Hd.Z4 X G "range" (by kernel_rfl);have g_min:=Hd.Z4 X G "min" (by kernel_rfl);have g_enumerate:=Hd.Z4 X G "enumerate" (by kernel_rfl);have g_list:=Hd.Z4 X G "list" (by kernel_rfl);refine ⟨PySem.W.fnOf "law" "law" (QG Q4) (zK Q4) (qj Q4) .none .none .none (.str "law_bankwalk_k11_what_walks_are" 258) none (.ref 136) .none,λs v=>.of_eq rfl,λbase _ _=>?_⟩;have O_is_number:=EH (P:=l.prog) (w:=w) (base:=base) (k:=0) F0 b0 m0  g_isinstance g_bool g_int UX;have O_is_at_least:=VB (P:=l.prog) (w:=w) (base:=base) (k:=1) F1 b1 m1 O_is_number  YV;have O_are_at_least:=YC (P:=l.prog) (w:=w) (base:=base) (k:=2) F2 b2 m2 O_is_at_least g_all YJ;have O_is_pair:=CH (P:=l.prog) (w:=w) (base:=base) (k:=1) F3 b3 m3 O_is_number g_len g_isinstance g_tuple XF;have O_is_step:=CC (P:=l.prog) (w:=w) (base:=base) (k:=2) F4 b4 m4 (O_is_number.mono (by decide)) O_is_at_least g_len X7;have O_is_cells:=DS (P:=l.prog) (w:=w) (base:=base) (k:=2) F5 b5 m5 O_is_pair g_len g_isinstance g_tuple g_all g_set DJ;have O_is_walk:=CD (P:=l.prog) (w:=w) (base:=base) (k:=3) F6 b6 m6 (O_is_at_least.mono (by decide)) O_are_at_least O_is_step O_is_cells g_isinstance g_str g_len g_tuple g_STRIDES XR;have O_law_mix:=CF (P:=l.prog) (w:=w) (base:=base) (k:=0) F7 b7 m7   Bk.XT;have O_law_left:=E7 (P:=l.prog) (w:=w) (base:=base) (k:=0) F8 b8 m8  g_len g_abs Bk.D7;have O_law_pick:=DX (P:=l.prog) (w:=w) (base:=base) (k:=1) F9 b9 m9 O_law_mix  Bk.DN;have O_law_many:=E9 (P:=l.prog) (w:=w) (base:=base) (k:=2) F10 b10 m10 O_law_pick  Bk.DP;have O_law_walk:=DL (P:=l.prog) (w:=w) (base:=base) (k:=3) F11 b11 m11 (O_law_pick.mono (by decide)) O_law_many g_int g_range g_tuple Bk.EL;have O_law_is_number:=JT (P:=l.prog) (w:=w) (base:=base) (k:=0) F12 b12 m12  g_isinstance g_bool g_int JV;have O_law_are_numbers:=ZU (P:=l.prog) (w:=w) (base:=base) (k:=1) F13 b13 m13 O_law_is_number g_all g_len g_isinstance g_tuple ZR;have O_law_is_walk:=YW (P:=l.prog) (w:=w) (base:=base) (k:=2) F14 b14 m14 O_law_are_numbers g_isinstance g_str g_tuple g_min g_len g_enumerate VG;have O_law_bent_cells:=JA (P:=l.prog) (w:=w) (base:=base) (k:=2) F15 b15 m15 O_law_pick g_len g_list Z5;have O_law_bent:=DF (P:=l.prog) (w:=w) (base:=base) (k:=3) F16 b16 m16 (O_law_pick.mono (by decide)) O_law_bent_cells g_len g_list DB;exact qei (k:=4) F17 (O_law_left.mono (by decide)) O_law_walk O_law_bent O_is_walk (O_law_is_walk.mono (by decide)) g_len g_min g_range g_str g_isinstance g_bool (qco qd2)
abbrev Q : Program := PySem.W.view PySem.Challenge.pw_bankwalk_k11_what_walks_are [1,2,3,4,6,7,8,9,11,12,13,14,15,16,17,18,19,20,21]
set_option maxRecDepth 100000 in
set_option maxHeartbeats 0 in
def left : PySem.W.LeftO PySem.Challenge.pw_bankwalk_k11_what_walks_are Q ["STRIDES"] (λs=>PySem.W.xlAt Q [] s&&PySem.W.recOk [] s) (λs=>([3,20,21,27,28,32,33,39,40,41,42,43,44,45,51,52,56,57,63,64,70,71,77,78,84,85,91,92,98,99,105,106,110,111,117,118,124,125,131,132,136,137]:List Addr).map s.heap.get?) (λw=>(Kf w.params).map λp=>some p.2) 1444:=
 PySem.W.LeftO.of_split "special-get-raises" λw=>by kernel_rfl
end K11
open PySem PySem.W PyProof.Rows
set_option maxRecDepth 100000 in
set_option maxHeartbeats 0 in
theorem PySem.Challenge.cw_bankwalk_k11_what_walks_are_holds : PySem.Challenge.rw_bankwalk_k11_what_walks_are.Holds :=
 Hd.head (l := PySem.Challenge.rw_bankwalk_k11_what_walks_are) (q := K11.Q) (loose := ["STRIDES"]) (K:=K11.Kf) (as:=[3,20,21,27,28,32,33,39,40,41,42,43,44,45,51,52,56,57,63,64,70,71,77,78,84,85,91,92,98,99,105,106,110,111,117,118,124,125,131,132,136,137]) (N:=1444) (k:=5) (x:="_law_script")
  (d:=⟨"law",L2.QG K11.Q4,L2.zK K11.Q4,L2.qj K11.Q4,⟨109,0,121,15⟩⟩) (λ_=>by kernel_rfl) (by kernel_rfl) K11.left (by kernel_rfl) (by kernel_rfl) (by kernel_rfl) (by kernel_rfl) (by kernel_rfl)
  ⟨rfl,rfl,rfl,rfl,rfl,by decide +kernel⟩ (by w_witness2) rfl (by kernel_rfl) ⟨rfl,by decide,by decide,rfl⟩ (λw=>by kernel_rfl) λw mg fa h KX G hmg=>K11.qct KX G hmg
