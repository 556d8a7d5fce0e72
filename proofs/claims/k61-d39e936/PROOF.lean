import PyProof.Rows.All
import Wide.All
import OpenK.AllK
import Wide.FinOn
import Lean
import PyProof.EqAt
import PyProof.EqKinds
import PyProof.TupleCall
import PyProof.NeKinds
import KE.KRevSl
import PyProof.FactsAll.bool_2
import PyProof.Rows.EqBoolInt
import PyProof.Rows.IntBool
import PySem.Challenge.RW_bankwalk_k61_lanes_of_walks
-- CHANGE: your row's module here,as the last of these rows
set_option Elab.async false
set_option genSizeOf false
set_option genInjectivity false
noncomputable section
open List (getElem_cons_zero length_cons getElem?_cons_succ getElem_cons_succ getElem?_cons_zero length_nil set_cons_zero set_cons_succ length_map not_mem_nil mem_append_right map_cons mem_cons getElem?_set getElem?_map cons_append size_toArray getElem?_eq_getElem map_map mem_of_getElem? mem_map length_append getD_eq_getElem?_getD mem_range length_range)
theorem obb{α β:Type _}{o:Option α}{f:α->Option β}{b:β}(h:o.bind f=some b):∃a,o=some a/\f a=some b:=Option.bind_eq_some_iff.mp h
set_option linter.all false
set_option maxRecDepth 100000
namespace L2
open PySem PySem.Spec PyProof.Rows
abbrev Key:=Sum Int Str
def qmS:Key->Value->Bool
 |.inl k,v=>Value.isInt k v
 |.inr x,v=>Value.isStrOf x v
def qrf (w:World):Key->Int
 |.inl k=>hashInt k
 |.inr x=>hashStr w x
theorem zL:∀ {k:Key} {v:Value},qmS k v=true->(∃ i t,k=Sum.inl i/\v=Value.int i t)\/(∃ x t,k=Sum.inr x/\v=Value.str x t)
 |.inl i,v,h=>by
  obtain ⟨t,e⟩:=Value.isInt_shape (k:=i) (v:=v) h
  exact .inl ⟨i,t,rfl,e⟩
 |.inr x,v,h=>by
  obtain ⟨t,e⟩:=Value.isStrOf_shape (x:=x) (v:=v) h
  exact .inr ⟨x,t,rfl,e⟩
theorem qlQ (a b:Int):decide ((Sum.inl a:Key)=Sum.inl b)=(a==b):=by
 by_cases e:a=b
 ·subst e;simp
 ·have h:¬ (Sum.inl a:Key)=Sum.inl b:=fun q=>e (Sum.inl.inj q)
  rw [decide_eq_false h]
  exact (beq_eq_false_iff_ne.mpr e).symm
theorem qjD (a b:Str):decide ((Sum.inr a:Key)=Sum.inr b)=decide (a=b):=by
 by_cases e:a=b
 ·subst e;simp
 ·have h:¬ (Sum.inr a:Key)=Sum.inr b:=fun q=>e (Sum.inr.inj q)
  rw [decide_eq_false h,decide_eq_false e]
theorem qnK (a:Int) (b:Str):decide ((Sum.inl a:Key)=Sum.inr b)=false:=decide_eq_false (fun q=>nomatch q)
theorem qki (a:Str) (b:Int):decide ((Sum.inr a:Key)=Sum.inl b)=false:=decide_eq_false (fun q=>nomatch q)
def qca (prog:Program) (w:World):PySem.KeyKind prog w Key where
 is:=qmS
 hash:=qrf w
 inj:=fun v a b ha hb=>by
  rcases zL ha with ⟨i,t,rfl,rfl⟩|⟨x,t,rfl,rfl⟩
  ·rcases zL hb with ⟨j,u,rfl,e⟩|⟨y,u,rfl,e⟩
   ·injection e with e1 _;rw [e1]
   ·exact nomatch e
  ·rcases zL hb with ⟨j,u,rfl,e⟩|⟨y,u,rfl,e⟩
   ·exact nomatch e
   ·injection e with e1 _;rw [e1]
 byValue:=fun k v h=>by
  rcases zL h with ⟨i,t,rfl,rfl⟩|⟨x,t,rfl,rfl⟩<;>rfl
 pyHash:=fun hv h=>by
  rcases zL hv with ⟨i,t,rfl,rfl⟩|⟨x,t,rfl,rfl⟩
  ·exact wpAny_pyHash_int h
  ·exact wpAny_pyHash_str h
 eqBool:=fun hu hv h=>by
  rcases zL hu with ⟨i,t,rfl,rfl⟩|⟨x,t,rfl,rfl⟩
  ·rcases zL hv with ⟨j,u,rfl,rfl⟩|⟨y,u,rfl,rfl⟩
   ·rw [qlQ] at h;exact wpAny_eqBool_int h
   ·rw [qnK] at h;exact SeqAt.EqAt.int_str i t y u _ _ _ _ h
  ·rcases zL hv with ⟨j,u,rfl,rfl⟩|⟨y,u,rfl,rfl⟩
   ·rw [qki] at h;exact SeqAt.EqAt.str_int x t j u _ _ _ _ h
   ·rw [qjD] at h;exact wpAny_eqBool_str h
 «strs»:=fun k x t v h=>by
  rcases zL h with ⟨i,u,rfl,e⟩|⟨y,u,rfl,e⟩
  ·exact nomatch e
  ·injection e with e1 _
   subst e1
   cases v<;>rfl
set_option genInjectivity true in
inductive V where
 |non|bl (b:Bool)|int (i:Int)|str (x:Str)|byt (b:Array UInt8)|flt (b:UInt64)|ref (a:Addr)|ty (n:String)
 deriving DecidableEq
def jO:V->Value->Prop
 |.non,u=>u=Value.none
 |.bl b,u=>u=Value.bool b
 |.int i,u=>∃ t,u=Value.int i t
 |.str x,u=>∃ t,u=Value.str x t
 |.byt b,u=>∃ t,u=Value.bytes b t
 |.flt b,u=>∃ t,u=Value.float b t
 |.ref a,u=>u=Value.ref a
 |.ty n,u=>u=Value.type n
abbrev jk:List V->List Value->Prop:=Paired jO
theorem jk.length {xs:List V} {us:List Value} (r:jk xs us):xs.length=us.length:=Paired.length r
theorem jk.get:∀ {xs:List V} {us:List Value} {i:Nat} {x:V},jk xs us->xs[i]?=some x->∃ u,us[i]?=some u/\jO x u
 |_,_,_,_,.nil,e=>by simp at e
 |_,_,0,_,.cons r _,e=>by simp at e;subst e;exact ⟨_,rfl,r⟩
 |_,_,i+1,x,.cons _ t,e=>by
  obtain ⟨u,h1,h2⟩:=jk.get (i:=i) (x:=x) t (by simpa using e)
  exact ⟨u,by simpa using h1,h2⟩
theorem jk.set {x:V} {u:Value} (r:jO x u):∀ {xs:List V} {us:List Value} (i:Nat),jk xs us->jk (xs.set i x) (us.set i u)
 |_,_,_,.nil=>.nil
 |_,_,0,.cons _ t=>.cons r t
 |_,_,i+1,.cons q t=>.cons q (jk.set r i t)
theorem jk.append:∀ {xs ys:List V} {us ws:List Value},jk xs us->jk ys ws->jk (xs++ys) (us++ws)
 |_,_,_,_,.nil,s=>s
 |_,_,_,_,.cons r t,s=>.cons r (jk.append t s)
theorem jk.take:∀ {xs:List V} {us:List Value} (n:Nat),jk xs us->jk (xs.take n) (us.take n)
 |_,_,0,_=>.nil
 |_,_,_+1,.nil=>.nil
 |_,_,n+1,.cons r t=>.cons r (jk.take n t)
theorem jk.drop:∀ {xs:List V} {us:List Value} (n:Nat),jk xs us->jk (xs.drop n) (us.drop n)
 |_,_,0,r=>r
 |_,_,_+1,.nil=>.nil
 |_,_,n+1,.cons _ t=>jk.drop n t
def qqC:Option V->Option Value->Prop
 |some v,some u=>jO v u
 |none,none=>True
 |_,_=>False
def KV {κ:Type}:List (κ×V)->List (κ×Value)->Prop:=Paired fun (p:κ×V) (q:κ×Value)=>p.1=q.1/\jO p.2 q.2
def kV:Key->V
 |.inl i=>.int i
 |.inr x=>.str x
inductive HO where
 /-- a list -/
 |lst (xs:List V)
 /-- a tuple (never changes) -/
 |tup (xs:List V)
 /-- a dict whose keys are ints and texts;one whose keys are tuples of ints and texts (the empty one is both) -/
 |dK (kvs:List (Key×V))|dT (kvs:List (List Key×V))
 /-- a set of ints: its members,its size -/
 |set (S:Int->Bool) (n:Nat)
 /-- an instance of the class at C,its dict at dx,its attributes -/
 |ins (C dx:Addr) (fs:List (Str×V))
 /-- the dict of the instance at x -/
 |own (x:Addr)
 /-- the dict of an exception -/
 |xd (fs:List (Str×V))
 /-- a bound method,f of x -/
 |met (f x:Addr)
 /-- a range object lo,lo+1,.. below hi -/
 |rng (lo hi:Int)
 /-- a thing that is known to the object (the script;a dict while a loop walks it): read,never written while it is so -/
 |frz (o:Obj) (u:HO)
 /-- a code object's table -/
 |tbl (ps:Array Value)
 /-- any other thing,by what is true of its one object (a def of one's own: SetO a S n:=HO.ext fun h=>..) -/
 |ext (φ:Heap->Prop)
abbrev Hp:=Addr->Option HO
def upd (H:Hp) (a:Addr) (o:HO):Hp:=fun b=>if b=a then some o else H b
theorem zj {H:Hp} {a:Addr} {o:HO}:upd H a o a=some o:=by unfold upd;rw [if_pos rfl]
theorem qN {H:Hp} {a b:Addr} {o:HO} (h:b≠a):upd H a o b=H b:=by unfold upd;rw [if_neg h]
theorem qD {H:Hp} {a b:Addr} {o:HO} (h:H a=some o) (h':H b=none):a≠b:=by
 intro e;subst e;rw [h] at h';cases h'
section
variable (P:Program) (w:World)
def UZ (H:Hp) (h:Heap) (a:Addr):HO->Prop
 |.lst xs=>xs.length<=sizeLine/\∃ (its:List Value) (n:Nat),jk xs its/\h.get? a=some { cls:=.type "list",data:=.seq its.toArray n }
 |.tup xs=>xs.length<=sizeLine/\∃ its:List Value,jk xs its/\IsTup h a its.toArray
 |.dK kvs=>kvs.length<=sizeLine/\(a==sysModules)=false/\∃ vs,KV kvs vs/\h.DictOf (qca P w) a vs
 |.dT kvs=>kvs.length<=sizeLine/\(a==sysModules)=false/\∃ xs:List (List Key×Addr×Value),
   Paired (fun (p:List Key×V) (q:List Key×Addr×Value)=>p.1=q.1/\H q.2.1=some (.tup (p.1.map kV))/\jO p.2 q.2.2) kvs xs /\
   ∃ o es ep,h.get? a=some o/\o.ExactDict/\o.data=.dict es ep/\es.toList=xs.map (entryOfKey (tupleKind (qca P w)))/\(xs.map (·.1)).Nodup
 |.set S n=>h.SetOf (intKind P w) a S n
 |.ins C dx fs=>H dx=some (.own a)/\fs.length<=1000/\dx≠a/\h.get? a=some (PySem.W.instObj C dx) /\
   ∃ mA,h.Ns1 dx mA/\(∀ f,qqC (fs.lookup f) (mA f))/\PySem.Within mA (fs.map (·.1))
 |.own _=>∃ o,h.get? a=some o
 |.xd fs=>∃ mA,h.Ns1 a mA/\∀ f,qqC (fs.lookup f) (mA f)
 |.rng lo hi=>∃ t u v,h.get? a=some { cls:=.type "range",data:=.fields #[.int lo t,.int hi u,.int 1 v] }
 |.frz o u=>h.get? a=some o/\UZ H h a u
 |.tbl ps=>h.get? a=some { cls:=.none,data:=.fields ps }
 |.met f x=>h.get? a=some (PySem.W.methodObj (.ref f) (.ref x))
 |.ext φ=>φ h/\(∃ o,h.get? a=some o)/\∀ h1 h2:Heap,φ h1->(∀ o,h1.get? a=some o->h2.get? a=some o)->φ h2
def HOk (H:Hp) (h:Heap):Prop:=∀ a o,H a=some o->UZ P w H h a o
end
section
variable {P:Program} {w:World} {H H':Hp} {h h':Heap} {a:Addr} {o:HO}
theorem UZ.lt (x:UZ P w H h a o):a<h.objs.size:=by
 cases o with
 |lst xs=>obtain ⟨_,_,_,_,e⟩:=x;exact Heap.lt_size e
 |tup xs=>obtain ⟨_,_,_,p⟩:=x;exact p.lt
 |dK kvs=>obtain ⟨_,_,_,_,o,_,_,e,_⟩:=x;exact Heap.lt_size e
 |dT kvs=>obtain ⟨_,_,_,_,o,_,_,e,_⟩:=x;exact Heap.lt_size e
 |set S n=>obtain ⟨o,_,_,_,e,_⟩:=x;exact Heap.lt_size e
 |ins C dx fs=>obtain ⟨_,_,_,e,_⟩:=x;exact Heap.lt_size e
 |own y=>obtain ⟨_,e⟩:=x;exact Heap.lt_size e
 |xd fs=>obtain ⟨_,⟨_,_,_,e,_⟩,_⟩:=x;exact Heap.lt_size e
 |rng lo hi=>obtain ⟨_,_,_,e⟩:=x;exact Heap.lt_size e
 |frz ob u=>obtain ⟨e,_⟩:=x;exact Heap.lt_size e
 |tbl ps=>exact Heap.lt_size (show h.get? a=some _ from x)
 |met f y=>exact Heap.lt_size (show h.get? a=some _ from x)
 |ext φ=>obtain ⟨_,⟨_,e⟩,_⟩:=x;exact Heap.lt_size e
theorem Paired.mapP {α β:Type} {F G:α->β->Prop}:∀ {l₁:List α} {l₂:List β},Paired F l₁ l₂->(∀ a b,F a b->G a b)->Paired G l₁ l₂
 |_,_,.nil,_=>.nil
 |_,_,.cons r t,f=>.cons (f _ _ r) (Paired.mapP t f)
theorem UZ.stay (x:UZ P w H h a o) (k:∀ b u,(b=a\/H b=some (.own a))->h.get? b=some u->h'.get? b=some u)
  (ho:∀ b,H b=some (.own a)->H' b=some (.own a)) (ht:∀ b xs,H b=some (.tup xs)->H' b=some (.tup xs)):UZ P w H' h' a o:=by
 induction o with
 |lst xs=>obtain ⟨z,its,n,r,e⟩:=x;exact ⟨z,its,n,r,k _ _ (.inl rfl) e⟩
 |tup xs=>obtain ⟨z,its,r,ob,e,c⟩:=x;exact ⟨z,its,r,ob,k _ _ (.inl rfl) e,c⟩
 |dK kvs=>obtain ⟨z,y,vs,r,ob,es,ep,e,c⟩:=x;exact ⟨z,y,vs,r,ob,es,ep,k _ _ (.inl rfl) e,c⟩
 |dT kvs=>
  obtain ⟨z,y,xs,r,ob,es,ep,e,c⟩:=x
  exact ⟨z,y,xs,Paired.mapP r fun p q z=>⟨z.1,ht _ _ z.2.1,z.2.2⟩,ob,es,ep,k _ _ (.inl rfl) e,c⟩
 |set S n=>obtain ⟨ob,es,ep,t,e,c⟩:=x;exact ⟨ob,es,ep,t,k _ _ (.inl rfl) e,c⟩
 |ins C dx fs=>
  obtain ⟨d,z,ne,e,mA,⟨od,es,ep,e2,c⟩,r⟩:=x
  exact ⟨ho _ d,z,ne,k _ _ (.inl rfl) e,mA,⟨od,es,ep,k _ _ (.inr d) e2,c⟩,r⟩
 |own y=>obtain ⟨ob,e⟩:=x;exact ⟨ob,k _ _ (.inl rfl) e⟩
 |xd fs=>obtain ⟨mA,⟨od,es,ep,e,c⟩,r⟩:=x;exact ⟨mA,⟨od,es,ep,k _ _ (.inl rfl) e,c⟩,r⟩
 |rng lo hi=>obtain ⟨t,u,v,e⟩:=x;exact ⟨t,u,v,k _ _ (.inl rfl) e⟩
 |frz ob u ih=>obtain ⟨e,q⟩:=x;exact ⟨k _ _ (.inl rfl) e,ih q⟩
 |tbl ps=>
  have e:h.get? a=some { cls:=.none,data:=.fields ps }:=x
  show h'.get? a=some { cls:=.none,data:=.fields ps }
  exact k a _ (.inl rfl) e
 |met f y=>
  have e:h.get? a=some (PySem.W.methodObj (.ref f) (.ref y)):=x
  show h'.get? a=some (PySem.W.methodObj (.ref f) (.ref y))
  exact k a _ (.inl rfl) e
 |ext φ=>obtain ⟨p,⟨o,e⟩,st⟩:=x;exact ⟨st _ _ p fun o q=>k _ _ (.inl rfl) q,⟨o,k _ _ (.inl rfl) e⟩,st⟩
theorem HOk.lt (x:HOk P w H h) (e:H a=some o):a<h.objs.size:=(x a o e).lt
theorem HOk.fresh (x:HOk P w H h) (e:h.objs.size<=a):H a=none:=by
 cases q:H a with
 |none=>rfl
 |some u=>exact absurd (Nat.lt_of_lt_of_le (x.lt q) e) (Nat.lt_irrefl _)
theorem HOk.kept (x:HOk P w H h) (k:∀ b u,h.get? b=some u->h'.get? b=some u):HOk P w H h':=fun a o e=>
 (x a o e).stay (fun b u _ q=>k b u q) (fun _ q=>q) fun _ _ q=>q
theorem HOk.laid (x:HOk P w H h) (k:∀ b u,h.get? b=some u->h'.get? b=some u) (hp:h.objs.size<=a) (new:UZ P w (upd H a o) h' a o):HOk P w (upd H a o) h':=fun b u e=>by
 have hn:=x.fresh hp
 by_cases hb:b=a
 ·subst hb;rw [zj] at e;cases e;exact new
 ·rw [qN hb] at e
  exact (x b u e).stay (fun c v _ q=>k c v q) (fun c q=>by rw [qN (qD q hn)];exact q) fun c xs q=>by rw [qN (qD q hn)];exact q
end
def Rd (H:Hp) (a:Addr) (u:HO):Prop:=H a=some u\/∃ o,H a=some (.frz o u)
theorem Rd.ok {P:Program} {w:World} {H:Hp} {h:Heap} {a:Addr} {u:HO} (r:Rd H a u) (x:HOk P w H h):UZ P w H h a u:=by
 rcases r with r|⟨o,r⟩
 ·exact x a u r
 ·obtain ⟨_,q⟩:=x a _ r
  exact q
def Mut:Option HO->Prop
 |some (.lst _)=>True
 |some (.dK _)=>True
 |some (.dT _)=>True
 |some (.set _ _)=>True
 |some (.ins _ _ _)=>True
 |some (.ext _)=>True
 |_=>False
section
variable {P:Program} {w:World} {H:Hp} {h h':Heap} {x e:Addr} {o':HO}
theorem HOk.write (ok:HOk P w H h) (mu:Mut (H x)) (he:e=x\/H e=some (.own x)) (k:∀ b u,b≠e->h.get? b=some u->h'.get? b=some u) (heo:∃ u,h'.get? e=some u)
  (new:UZ P w (upd H x o') h' x o'):HOk P w (upd H x o') h':=fun b u q=>by
 have nown:∀ c y,H c=some (.own y)->c≠x:=fun c y r z=>by subst z;rw [r] at mu;exact mu
 have ntup:∀ c xs,H c=some (.tup xs)->c≠x:=fun c xs r z=>by subst z;rw [r] at mu;exact mu
 by_cases hb:b=x
 ·subst hb;rw [zj] at q;cases q;exact new
 ·rw [qN hb] at q
  by_cases hbe:b=e
  ·have q':H b=some (.own x):=by
    rcases he with z|z
    ·exact absurd (hbe.trans z) hb
    ·rw [hbe];exact z
   rw [q] at q';cases q'
   obtain ⟨v,hv⟩:=heo
   exact ⟨v,by rw [hbe];exact hv⟩
  ·refine (ok b u q).stay (fun c v hc r=>k c v ?_ r) (fun c r=>by rw [qN (nown c b r)];exact r) fun c xs r=>by rw [qN (ntup c xs r)];exact r
   rcases hc with rfl|hc
   ·exact hbe
   ·rintro rfl
    rcases he with z|z
    ·exact nown c b hc z
    ·rw [hc] at z;cases z;exact hb rfl
end
structure Un (fs ex:List Addr) (H H':Hp) (h h':Heap):Prop where
 keep:∀ b o,h.get? b=some o->H b=none->b∉fs->b∉ex->h'.get? b=some o
 slot:∀ b o,h.get? b=some o->H b=none->b∈fs->b∉ex->∃ sl,h'.get? b=some { o with slots:=sl }
 free:∀ b o,h.get? b=some o->H b=none->b∉ex->H' b=none
 there:∀ b o,h.get? b=some o->b∉ex->∃ o',h'.get? b=some o'
 tups:∀ b xs,H b=some (.tup xs)->H' b=some (.tup xs)
 frzs:∀ b o u,H b=some (.frz o u)->H' b=some (.frz o u)
 tbls:∀ b ps,H b=some (.tbl ps)->∃ more,H' b=some (.tbl (ps++more))
section
variable {fs fs' ex ex':List Addr} {H H1 H2:Hp} {h h1 h2 h':Heap} {a x e:Addr} {o:HO}
theorem Un.any (u:Un fs ex H H1 h h1) {b:Addr} {ob:Obj} (q:h.get? b=some ob) (n:H b=none) (hx:b∉ex):∃ sl,h1.get? b=some { ob with slots:=sl }:=by
 by_cases hb:b∈fs
 ·exact u.slot b ob q n hb hx
 ·exact ⟨ob.slots,u.keep b ob q n hb hx⟩
theorem Un.kept (k:∀ b u,h.get? b=some u->h'.get? b=some u):Un fs ex H H h h':=
 ⟨fun b ob q _ _ _=>k b ob q,fun b ob q _ _ _=>⟨ob.slots,k b ob q⟩,fun _ _ _ n _=>n,fun b ob q _=>⟨ob,k b ob q⟩,fun _ _ q=>q,fun _ _ _ q=>q,fun _ ps q=>⟨#[],by rw [q];simp⟩⟩
theorem Un.refl:Un fs ex H H h h:=Un.kept fun _ _ q=>q
theorem Un.laid (k:∀ b u,h.get? b=some u->h'.get? b=some u) (hp:h.objs.size<=a) (hn:H a=none):Un fs ex H (upd H a o) h h' where
 keep:=fun b u q _ _ _=>k b u q
 slot:=fun b u q _ _ _=>⟨u.slots,k b u q⟩
 free:=fun b u q n _=>by rw [qN (Nat.ne_of_lt (Nat.lt_of_lt_of_le (Heap.lt_size q) hp))];exact n
 there:=fun b u q _=>⟨u,k b u q⟩
 tups:=fun b xs q=>by rw [qN (qD q hn)];exact q
 frzs:=fun b u xs q=>by rw [qN (qD q hn)];exact q
 tbls:=fun b ps q=>⟨#[],by rw [qN (qD q hn),q];simp⟩
theorem Un.write (mu:Mut (H x)) (he:e=x\/H e=some (.own x)) (k:∀ b u,b≠e->h.get? b=some u->h'.get? b=some u) (heo:∃ u,h'.get? e=some u):Un fs ex H (upd H x o) h h':=by
 have hx:∀ b,H b=none->b≠x:=fun b n z=>by subst z;rw [n] at mu;exact mu
 have hb:∀ b,H b=none->b≠e:=fun b n z=>by
  subst z
  rcases he with r|r
  ·exact hx b n r
  ·rw [n] at r;cases r
 have hm:∀ b u,H b=some u->¬ Mut (some u)->b≠x:=fun b u q nm z=>by subst z;rw [q] at mu;exact nm mu
 refine ⟨fun b u q n _ _=>k b u (hb b n) q,fun b u q n _ _=>⟨u.slots,k b u (hb b n) q⟩,fun b u q n _=>by rw [qN (hx b n)];exact n,fun b u q _=>?_,
  fun b xs q=>by rw [qN (hm b _ q fun z=>z)];exact q,fun b u xs q=>by rw [qN (hm b _ q fun z=>z)];exact q,fun b ps q=>⟨#[],by rw [qN (hm b _ q fun z=>z),q];simp⟩⟩
 by_cases hbe:b=e
 ·subst hbe;exact heo
 ·exact ⟨u,k b u hbe q⟩
end
def trk (h:Heap) (H:Hp):List Addr:=(List.range h.objs.size).filter fun a=>(H a).isSome
def qeo (h:Heap) (H:Hp):Heap:=PySem.W.hideAll h (trk h H)
theorem qbR (h:Heap) (H:Hp):(qeo h H).objs.size=h.objs.size:=PySem.W.hideAll_size _ _
theorem qdW {h:Heap} {H:Hp} {b:Addr} {o:Obj} (e:h.get? b=some o) (n:H b=none):(qeo h H).get? b=some o:=
 PySem.W.hideAll_get _ e fun hm=>by
  have q:(H b).isSome=true:=(List.mem_filter.mp hm).2
  rw [n] at q;simp at q
theorem qg2 {h:Heap} {H:Hp} {b:Addr} {o:Obj} (e:(qeo h H).get? b=some o):h.get? b=some o/\H b=none:=by
 have e':h.get? b=some o:=PySem.W.of_hideAll (trk h H) e
 refine ⟨e',?_⟩
 cases q:H b with
 |none=>rfl
 |some x=>
  have hm:b∈trk h H:=List.mem_filter.mpr ⟨mem_range.mpr (Heap.lt_size e'),by simp [q]⟩
  have z:(qeo h H).get? b=none:=PySem.W.hideAll_none (trk h H) hm
  rw [z] at e;cases e
def qin (g h:Heap) (L:Addr):List (Addr×Obj):=(List.range h.objs.size).filterMap fun a=>if a=L\/(g.get? a).isSome=true then none else (h.get? a).map fun o=>(a,o)
def ZP (g h:Heap) (L d:Addr):List (Addr×Obj):=(qin g h L).filter fun p=>decide (p.1≠d)
structure Mod (K:PySem.W.Frag) (mg:Str->Option Value) (base:Heap):Prop where
 kin:K.In base
 glob:base.Ns mainGlobals mg
 blt:∃ mb,base.Ns builtinsNs mb/\∀ x:Str,x≠"__name__" -> mb x=bootBuiltins x
 nolimit:base.NoLimit
structure Cx where
 prog:Program
 w:World
 K:PySem.W.Frag
 mg:Str->Option Value
 base:Heap
 A:Around
 N:List Str
 s₀:Shared
 H₀:Hp
 env:Env
 outer:List Env
 stack:List Env
 ex:List Addr
 fn:Str->Bool
 calm:Bool
 pn:List (Addr×Obj)
 xe:Value->Shared->Prop
def frs (l:List Env):List Addr:=l.filterMap (·.frame)
abbrev Cx.fs (X:Cx):List Addr:=frs X.outer
def Vis (sc:Scope) (x:Str):Prop:=sc.names.lookup x=some .local\/sc.names.lookup x=some .cell\/sc.names.lookup x=some .free
def Loc (sc:Scope) (x:Str):Prop:=sc.names.lookup x=some .local\/sc.names.lookup x=some .cell
def qqJ (env:Env) (h:Heap) (m:Str->Option Value) (x:Str) (u:Value):Prop:=
 (env.kindOf x=some .local/\m x=some u)\/((env.kindOf x=some .cell\/env.kindOf x=some .free)/\∃ c,env.cells.lookup x=some c/\h.IsCell c (some u))
structure Cx.Ok (X:Cx):Prop where
 mod:Mod X.K X.mg X.base
 kind:X.env.scope.kind=.function
 glob:X.env.globals=mainGlobals
 blt:X.env.builtins=builtinsNs
 above:X.s₀.heap.objs.size<=X.env.locals
 inj:∀ x y c,X.env.cells.lookup x=some c->X.env.cells.lookup y=some c->x=y
 has:∀ x,(X.env.kindOf x=some .cell\/X.env.kindOf x=some .free)->∃ c,X.env.cells.lookup x=some c
 cab:∀ x c,X.fn x=true->X.env.cells.lookup x=some c->X.s₀.heap.objs.size<=c
 hd:X.calm=true->X.A.handled=none
 frames:X.A.frames=some X.stack
 stk:X.stack=X.outer\/(X.stack=X.env::X.outer/\X.env.frame=some X.env.locals)
 exf:∀ b∈X.ex,b≠X.env.locals/\∀ x c,X.env.cells.lookup x=some c->c≠b
 bs:∀ b o,X.base.get? b=some o->X.s₀.heap.get? b=some o/\X.H₀ b=none
 bsz:X.base.objs.size<=X.s₀.heap.objs.size
 noex:∀ b o,X.base.get? b=some o->b∉X.ex
 exfs:∀ b∈X.ex,b∉X.fs
 funs:X.s₀.heap.FunFrames X.base X.outer
 frf:∀ b∈X.fs,X.H₀ b=none
structure Inv (X:Cx) (pins:List (Addr×Obj)) (σ:List (Option V)) (H:Hp) (s:Shared):Prop where
 ok:X.Ok
 os:s.os=X.s₀.os
 bare:AllBare s.gens
 base:Un X.fs X.ex X.H₀ H X.s₀.heap s.heap
 loc:∃ m,s.heap.Ns X.env.locals m/\∀ (i:Nat) (x:Str) (v:V),X.N[i]?=some x->σ[i]?=some (some v)->Vis X.env.scope x->∃ u,jO v u/\qqJ X.env s.heap m x u
 cell:∀ x c,X.env.cells.lookup x=some c->∃ v,s.heap.IsCell c v
 free:H X.env.locals=none
 freeC:∀ x c,X.env.cells.lookup x=some c->H c=none
 pin:∀ p∈X.pn++pins,s.heap.get? p.1=some p.2/\H p.1=none/\p.1≠X.env.locals/\p.1∉X.fs/\∀ v,p.2.data≠.cell v
 hok:HOk X.prog X.w H s.heap
 len:σ.length=X.N.length
section
variable {X:Cx} {pins:List (Addr×Obj)} {σ:List (Option V)} {H H':Hp} {s:Shared} {h':Heap}
theorem Cx.Ok.nofr (ok:X.Ok) {b:Addr} {o:Obj} (e:X.base.get? b=some o):b∉X.fs:=fun hb=>by
 have:=(ok.funs.mem hb).1
 rw [e] at this;cases this
theorem Inv.bs (I:Inv X pins σ H s):∀ b o,X.base.get? b=some o->s.heap.get? b=some o/\H b=none:=fun b o e=>
 ⟨I.base.keep b o (I.ok.bs b o e).1 (I.ok.bs b o e).2 (I.ok.nofr e) (I.ok.noex b o e),I.base.free b o (I.ok.bs b o e).1 (I.ok.bs b o e).2 (I.ok.noex b o e)⟩
theorem Inv.bk (I:Inv X pins σ H s):∀ b o,X.base.get? b=some o->s.heap.get? b=some o:=fun b o e=>(I.bs b o e).1
theorem Inv.mod (I:Inv X pins σ H s):Mod X.K X.mg X.base:=I.ok.mod
theorem Inv.kIn (I:Inv X pins σ H s):X.K.In s.heap:=I.ok.mod.kin.keeps I.bk
theorem Inv.nolimit (I:Inv X pins σ H s):s.heap.NoLimit:=I.ok.mod.nolimit.keeps I.bk
theorem Inv.fr (I:Inv X pins σ H s):∃ m,Fr X.base X.env.locals s.heap m:=
 let ⟨m,hn,_⟩:=I.loc
 ⟨m,hn,I.bk,Nat.le_trans I.ok.bsz I.ok.above⟩
theorem Inv.lt (I:Inv X pins σ H s):X.env.locals<s.heap.objs.size:=let ⟨_,hn,_⟩:=I.loc;hn.lt
theorem Inv.sz (I:Inv X pins σ H s):X.s₀.heap.objs.size<=s.heap.objs.size:=Nat.le_trans I.ok.above (Nat.le_of_lt I.lt)
theorem Inv.nofs (I:Inv X pins σ H s) {a:Addr} (h:s.heap.objs.size<=a):a∉X.fs:=fun hb=>by
 obtain ⟨_,o,ho,_⟩:=I.ok.funs.mem hb
 exact absurd (Nat.lt_of_lt_of_le (Heap.lt_size ho) (Nat.le_trans I.sz h)) (Nat.lt_irrefl _)
theorem Inv.cne (I:Inv X pins σ H s):∀ x c,X.env.cells.lookup x=some c->c≠X.env.locals:=fun x c e z=>by
 obtain ⟨v,o,ho,hd⟩:=I.cell x c e
 obtain ⟨m,⟨o',es,ep,ho',hd',_⟩,_⟩:=I.loc
 rw [z,ho'] at ho;cases ho;rw [hd'] at hd;cases hd
theorem Inv.funs (I:Inv X pins σ H s):s.heap.FunFrames X.base X.outer:=by
 have all:∀ (l:List Env),(∀ b∈frs l,b∈X.fs)->X.s₀.heap.FunFrames X.base l->s.heap.FunFrames X.base l:=by
  intro l
  induction l with
  |nil=>intro _ _;trivial
  |cons env r ih=>
   intro hs hl
   obtain ⟨hk,⟨L,o,hf,hn,ho,hd⟩,hr⟩:=hl
   have hL:L∈X.fs:=hs L (by unfold frs;rw [List.filterMap_cons,hf];exact List.mem_cons_self)
   obtain ⟨sl,e⟩:=I.base.slot L o ho (I.ok.frf L hL) hL fun z=>I.ok.exfs L z hL
   exact ⟨hk,⟨L,_,hf,hn,e,hd⟩,ih (fun b hb=>hs b (by unfold frs;rw [List.filterMap_cons,hf];exact List.mem_cons_of_mem _ hb)) hr⟩
 exact all X.outer (fun _ hb=>hb) I.ok.funs
theorem Inv.stack (I:Inv X pins σ H s):s.heap.FunFrames X.base X.stack:=by
 rcases I.ok.stk with e|⟨e,hf⟩
 ·rw [e];exact I.funs
 ·rw [e]
  obtain ⟨m,hn,_⟩:=I.loc
  refine .cons (by rw [I.ok.kind];decide) hf hn ?_ I.funs
  exact Heap.get?_none_of_le (Nat.le_trans I.ok.bsz I.ok.above)
theorem Inv.stkSub (I:Inv X pins σ H s):∀ b∈frs X.stack,b∈X.env.locals::X.fs:=fun b hb=>by
 rcases I.ok.stk with e|⟨e,hf⟩
 ·rw [e] at hb;exact List.mem_cons_of_mem _ hb
 ·rw [e] at hb
  unfold frs at hb
  rw [List.filterMap_cons,hf] at hb
  exact hb
theorem Inv.stkFree (I:Inv X pins σ H s):∀ b∈frs X.stack,H b=none:=fun b hb=>by
 rcases mem_cons.mp (I.stkSub b hb) with e|hb
 ·rw [e];exact I.free
 ·obtain ⟨_,o,ho,_⟩:=I.ok.funs.mem hb
  exact I.base.free b o ho (I.ok.frf b hb) fun z=>I.ok.exfs b z hb
theorem Inv.step {g':Array GenState} {t':Nat} {d':Drawn} {ch:List Addr} (I:Inv X pins σ H s)
  (hch:∀ b∈ch,(b∈X.ex\/X.s₀.heap.objs.size<=b)/\b≠X.env.locals/\(∀ x c,X.env.cells.lookup x=some c->c≠b)/\∀ p∈X.pn++pins,p.1≠b)
  (keep:∀ b o,b≠X.env.locals->b∉X.fs->b∉ch->s.heap.get? b=some o->H b=none->h'.get? b=some o)
  (slot:∀ b o,b≠X.env.locals->b∈X.fs->b∉ch->s.heap.get? b=some o->H b=none->∃ sl,h'.get? b=some { o with slots:=sl }) (free:∀ b o,b∉ch->s.heap.get? b=some o->H b=none->H' b=none)
  (there:∀ b o,b∉ch->s.heap.get? b=some o->∃ o',h'.get? b=some o')
  (tups:∀ b xs,H b=some (.tup xs)->H' b=some (.tup xs)) (frzs:∀ b o u,H b=some (.frz o u)->H' b=some (.frz o u)) (tbls:∀ b ps,H b=some (.tbl ps)->∃ more,H' b=some (.tbl (ps++more)))
  (ns:∀ m,s.heap.Ns X.env.locals m->h'.Ns X.env.locals m) (hok:HOk X.prog X.w H' h') (hg:AllBare g') :
  Inv X pins σ H' { s with heap:=h',gens:=g',drawn:=d',toks:=t' }:=by
 have neL:∀ b o,X.s₀.heap.get? b=some o->b≠X.env.locals:=fun b o e=>Nat.ne_of_lt (Nat.lt_of_lt_of_le (Heap.lt_size e) I.ok.above)
 have neC:∀ b o,X.s₀.heap.get? b=some o->b∉X.ex->b∉ch:=fun b o e hx hb=>by
  rcases (hch b hb).1 with z|z
  ·exact hx z
  ·exact absurd (Nat.lt_of_lt_of_le (Heap.lt_size e) z) (Nat.lt_irrefl _)
 have cellK:∀ x c,X.env.cells.lookup x=some c->∀ v,s.heap.IsCell c v->h'.IsCell c v:=fun x c e v ⟨o,ho,hd⟩=>by
  have nch:c∉ch:=fun z=>(hch c z).2.2.1 x c e rfl
  by_cases hc:c∈X.fs
  ·obtain ⟨sl,q⟩:=slot c o (I.cne x c e) hc nch ho (I.freeC x c e)
   exact ⟨_,q,hd⟩
  ·exact ⟨o,keep c o (I.cne x c e) hc nch ho (I.freeC x c e),hd⟩
 refine ⟨I.ok,I.os,hg,⟨fun b o e n hb hx=>?_,fun b o e n hb hx=>?_,fun b o e n hx=>?_,fun b o e hx=>?_,fun b xs e=>tups b xs (I.base.tups b xs e),fun b o xs e=>frzs b o xs (I.base.frzs b o xs e),fun b ps e=>?_⟩,?_,fun x c e=>?_,?_,fun x c e=>?_,fun p hp=>?_,hok,I.len⟩
 ·exact keep b o (neL b o e) hb (neC b o e hx) (I.base.keep b o e n hb hx) (I.base.free b o e n hx)
 ·obtain ⟨sl,e1⟩:=I.base.slot b o e n hb hx
  obtain ⟨sl',e2⟩:=slot b _ (neL b o e) hb (neC b o e hx) e1 (I.base.free b o e n hx)
  exact ⟨sl',e2⟩
 ·obtain ⟨o',e1⟩:=I.base.there b o e hx
  exact free b o' (neC b o e hx) e1 (I.base.free b o e n hx)
 ·obtain ⟨o',e1⟩:=I.base.there b o e hx
  exact there b o' (neC b o e hx) e1
 ·obtain ⟨m1,e1⟩:=I.base.tbls b ps e
  obtain ⟨m2,e2⟩:=tbls b _ e1
  exact ⟨m1++m2,by rw [e2,Array.append_assoc]⟩
 ·obtain ⟨m,hn,hl⟩:=I.loc
  refine ⟨m,ns m hn,fun i x v e1 e2 e3=>?_⟩
  obtain ⟨u,r,l⟩:=hl i x v e1 e2 e3
  refine ⟨u,r,?_⟩
  rcases l with l|⟨k,c,e,z⟩
  ·exact .inl l
  ·exact .inr ⟨k,c,e,cellK x c e _ z⟩
 ·obtain ⟨v,z⟩:=I.cell x c e
  exact ⟨v,cellK x c e v z⟩
 ·obtain ⟨m,⟨o,_,_,ho,_⟩,_⟩:=I.loc
  exact free _ o (fun z=>(hch _ z).2.1 rfl) ho I.free
 ·obtain ⟨v,o,ho,hd⟩:=I.cell x c e
  exact free c o (fun z=>(hch c z).2.2.1 x c e rfl) ho (I.freeC x c e)
 ·obtain ⟨e,n,ne,nf,d⟩:=I.pin p hp
  have nch:p.1∉ch:=fun z=>(hch p.1 z).2.2.2 p hp rfl
  exact ⟨keep p.1 p.2 ne nf nch e n,free p.1 p.2 nch e n,ne,nf,d⟩
theorem Inv.un {t':Nat} (I:Inv X pins σ H s) (u:Un X.fs [] H H' s.heap h') (hok:HOk X.prog X.w H' h'):Inv X pins σ H' { s with heap:=h',toks:=t' }:=by
 obtain ⟨m,⟨o,es,ep,ho,r⟩,_⟩:=id I.loc
 obtain ⟨sl,hL⟩:=u.any ho I.free (by simp)
 exact I.step (g':=s.gens) (d':=s.drawn) (ch:=[]) (fun _ z=>nomatch z) (fun b o _ hb _ e n=>u.keep b o e n hb (by simp)) (fun b o _ hb _ e n=>u.slot b o e n hb (by simp)) (fun b o _ e n=>u.free b o e n (by simp)) (fun b o _ e=>u.there b o e (by simp)) u.tups u.frzs u.tbls (fun m' hm=>by
  obtain ⟨o',es',ep',ho',r'⟩:=hm
  rw [ho] at ho';cases ho'
  exact ⟨_,es',ep',hL,r'⟩) hok I.bare
theorem Inv.call {g':Array GenState} {t':Nat} {d':Drawn} {ch:List Addr} (I:Inv X pins σ H s) (u:Un (frs X.stack) ch H H' s.heap h') (hok:HOk X.prog X.w H' h') (hg:AllBare g')
  (hch:∀ b∈ch,(b∈X.ex\/X.s₀.heap.objs.size<=b)/\b≠X.env.locals/\(∀ x c,X.env.cells.lookup x=some c->c≠b)/\∀ p∈X.pn++pins,p.1≠b) :
  Inv X pins σ H' { s with heap:=h',gens:=g',drawn:=d',toks:=t' }:=by
 obtain ⟨m,⟨o,es,ep,ho,r⟩,_⟩:=id I.loc
 obtain ⟨sl,hL⟩:=u.any ho I.free fun z=>(hch _ z).2.1 rfl
 exact I.step (ch:=ch) hch (fun b o hL hb hc e n=>u.keep b o e n (fun z=>(mem_cons.mp (I.stkSub b z)).elim hL hb) hc) (fun b o _ _ hc e n=>u.any e n hc) (fun b o hc e n=>u.free b o e n hc) (fun b o hc e=>u.there b o e hc) u.tups u.frzs u.tbls (fun m' hm=>by
  obtain ⟨o',es',ep',ho',r'⟩:=hm
  rw [ho] at ho';cases ho'
  exact ⟨_,es',ep',hL,r'⟩) hok hg
theorem Inv.turned {t':Nat} {it:Addr} (I:Inv X pins σ H s) (k:∀ b o,b≠it->s.heap.get? b=some o->h'.get? b=some o) (hn:H it=none) (hL:it≠X.env.locals)
  (h1:it∈X.ex\/X.s₀.heap.objs.size<=it) (h2:∀ x c,X.env.cells.lookup x=some c->c≠it) (h3:∀ p∈X.pn++pins,p.1≠it):Inv X pins σ H { s with heap:=h',toks:=t' }:=by
 have nit:∀ b u,H b=some u->b≠it:=fun b u e z=>by rw [z,hn] at e;cases e
 refine I.step (g':=s.gens) (d':=s.drawn) (ch:=[it]) (fun b hb=>?_) (fun b o _ _ hc e _=>k b o (fun z=>hc (by simp [z])) e) (fun b o _ _ hc e _=>⟨o.slots,k b o (fun z=>hc (by simp [z])) e⟩) (fun _ _ _ _ n=>n)
  (fun b o hc e=>⟨o,k b o (fun z=>hc (by simp [z])) e⟩) (fun _ _ e=>e) (fun _ _ _ e=>e) (fun b ps e=>⟨#[],by rw [e];simp⟩) (fun m hm=>?_) (fun b u e=>?_) I.bare
 ·have e:b=it:=by simpa using hb
  subst e
  exact ⟨h1,hL,h2,h3⟩
 ·obtain ⟨o,es,ep,ho,r⟩:=hm
  exact ⟨o,es,ep,k _ o (Ne.symm hL) ho,r⟩
 ·refine (I.hok b u e).stay (fun c v hc q=>k c v ?_ q) (fun _ q=>q) fun _ _ q=>q
  rcases hc with z|z
  ·rw [z];exact nit b u e
  ·exact nit c _ z
theorem Inv.tok (I:Inv X pins σ H s) (t:Nat):Inv X pins σ H { s with toks:=t }:=I.un (h':=s.heap) (t':=t) Un.refl I.hok
theorem Inv.kept {t':Nat} (I:Inv X pins σ H s) (k:∀ b u,s.heap.get? b=some u->h'.get? b=some u):Inv X pins σ H { s with heap:=h',toks:=t' }:=I.un (Un.kept k) (I.hok.kept k)
theorem Inv.laid {a:Addr} {o:HO} {t':Nat} (I:Inv X pins σ H s) (k:∀ b u,s.heap.get? b=some u->h'.get? b=some u) (hp:s.heap.objs.size<=a) (new:UZ X.prog X.w (upd H a o) h' a o) :
  Inv X pins σ (upd H a o) { s with heap:=h',toks:=t' }:=I.un (Un.laid k hp (I.hok.fresh hp)) (I.hok.laid k hp new)
theorem Inv.write {x e:Addr} {o:HO} {t':Nat} (I:Inv X pins σ H s) (mu:Mut (H x)) (he:e=x\/H e=some (.own x)) (k:∀ b u,b≠e->s.heap.get? b=some u->h'.get? b=some u) (heo:∃ u,h'.get? e=some u)
  (new:UZ X.prog X.w (upd H x o) h' x o):Inv X pins σ (upd H x o) { s with heap:=h',toks:=t' }:=I.un (Un.write mu he k heo) (I.hok.write mu he k heo new)
theorem Inv.pins_of {pins':List (Addr×Obj)} (I:Inv X pins σ H s) (h:∀ p∈pins',s.heap.get? p.1=some p.2/\H p.1=none/\p.1≠X.env.locals/\p.1∉X.fs/\∀ v,p.2.data≠.cell v):Inv X pins' σ H s:=
 ⟨I.ok,I.os,I.bare,I.base,I.loc,I.cell,I.free,I.freeC,fun p hp=>(List.mem_append.mp hp).elim (fun z=>I.pin p (List.mem_append_left _ z)) (h p),I.hok,I.len⟩
theorem qau {N:List Str} (hN:N.Nodup) {i j:Nat} {x:Str} (a:N[i]?=some x) (b:N[j]?=some x):i=j:=by
 obtain ⟨h1,e1⟩:=List.getElem?_eq_some_iff.mp a
 obtain ⟨h2,e2⟩:=List.getElem?_eq_some_iff.mp b
 exact (List.getElem_inj hN).mp (e1.trans e2.symm)
theorem KN {M:Model} {A:Around} {E:Value->Shared->Prop} {i:Nat} {x:Str} {v:V} {u:Value} {Q:Unit->Shared->Prop} (I:Inv X pins σ H s) (hN:X.N.Nodup) (hi:X.N[i]?=some x) (hx:Loc X.env.scope x) (r:jO v u)
  (h:∀ s',Inv X pins (σ.set i (some v)) H s'->(∃ a,Heap.SameBut a s.heap s'.heap/\(a=X.env.locals\/X.env.cells.lookup x=some a))->Q () s') (hf:X.fn x=true\/X.env.scope.names.lookup x=some .local:=by first|exact .inl rfl|exact .inr rfl|assumption):wpAny M A (storeName X.env x u) Q E s:=by
 obtain ⟨m,hn,hl⟩:=id I.loc
 have hcls:(X.env.scope.kind==.class||(X.env.scope.kind==.module&&X.env.locals != X.env.globals))=false:=by rw [I.ok.kind];rfl
 have hiσ:i<σ.length:=by rw [I.len];exact (List.getElem?_eq_some_iff.mp hi).1
 have cne:=I.cne
 have tracked:∀ {a:Addr} {h':Heap},(∃ o,s.heap.get? a=some o/\H a=none)->Heap.SameBut a s.heap h'->HOk X.prog X.w H h':=fun {a h'} ha hs b ob e=>by
  obtain ⟨_,_,hfree⟩:=ha
  refine (I.hok b ob e).stay (fun c w' hc q=>(hs.2 c ?_).trans q) (fun _ q=>q) fun _ _ q=>q
  rintro rfl
  rcases hc with rfl|hc
  ·rw [hfree] at e;cases e
  ·rw [hfree] at hc;cases hc
 rcases hx with hk|hk
 ·refine wpAny_storeName_local hk hn (fun h' hn' hs=>?_) hcls
  obtain ⟨oL,_,_,hoL,_⟩:=id hn
  refine h _ ⟨I.ok,I.os,I.bare,⟨fun b o e n hb hx=>?_,fun b o e n hb hx=>?_,I.base.free,fun b o e hx=>?_,I.base.tups,I.base.frzs,I.base.tbls⟩,⟨_,hn',fun j y v' e1 e2 e3=>?_⟩,fun y c e=>?_,I.free,I.freeC,fun p hp=>?_,tracked ⟨oL,hoL,I.free⟩ hs,by simpa using I.len⟩ ⟨_,hs,.inl rfl⟩
  ·exact (hs.2 b (Nat.ne_of_lt (Nat.lt_of_lt_of_le (Heap.lt_size e) I.ok.above))).trans (I.base.keep b o e n hb hx)
  ·obtain ⟨sl,e1⟩:=I.base.slot b o e n hb hx
   exact ⟨sl,(hs.2 b (Nat.ne_of_lt (Nat.lt_of_lt_of_le (Heap.lt_size e) I.ok.above))).trans e1⟩
  ·obtain ⟨o',e1⟩:=I.base.there b o e hx
   exact ⟨o',(hs.2 b (Nat.ne_of_lt (Nat.lt_of_lt_of_le (Heap.lt_size e) I.ok.above))).trans e1⟩
  ·by_cases hj:j=i
   ·subst hj
    rw [hi] at e1;cases e1
    rw [List.getElem?_set_self hiσ] at e2
    cases e2
    exact ⟨u,r,.inl ⟨hk,by simp⟩⟩
   ·rw [List.getElem?_set_ne (Ne.symm hj)] at e2
    obtain ⟨u',r',q⟩:=hl j y v' e1 e2 e3
    refine ⟨u',r',?_⟩
    rcases q with ⟨k,e⟩|⟨k,c,e,z⟩
    ·refine .inl ⟨k,?_⟩
     have:y≠x:=fun e=>hj (qau hN e1 (e▸hi))
     simp [this,e]
    ·exact .inr ⟨k,c,e,z.sameBut hs (cne y c e)⟩
  ·obtain ⟨w',z⟩:=I.cell y c e
   exact ⟨w',z.sameBut hs (cne y c e)⟩
  ·obtain ⟨e,n,ne,nf,d⟩:=I.pin p hp
   exact ⟨(hs.2 p.1 ne).trans e,n,ne,nf,d⟩
 ·have hfn:X.fn x=true:=by
   rcases hf with z|z
   ·exact z
   ·rw [z] at hk;cases hk
  obtain ⟨c,hc⟩:=I.ok.has x (.inl hk)
  obtain ⟨w',z⟩:=I.cell x c hc
  refine wpAny_storeName_cell I.ok.kind hk hc z (fun h' hc' hs=>?_)
  obtain ⟨oc,hoc,hocd⟩:=id z
  refine h { s with heap:=h' } ⟨I.ok,I.os,I.bare,⟨fun b o e n hb hx=>?_,fun b o e n hb hx=>?_,I.base.free,fun b o e hx=>?_,I.base.tups,I.base.frzs,I.base.tbls⟩,⟨m,hn.sameBut hs (Ne.symm (cne x c hc)),fun j y v' e1 e2 e3=>?_⟩,fun y c' e=>?_,I.free,I.freeC,fun p hp=>?_,tracked ⟨oc,hoc,I.freeC x c hc⟩ hs,by simpa using I.len⟩ ⟨c,hs,.inr hc⟩
  ·exact (hs.2 b (Nat.ne_of_lt (Nat.lt_of_lt_of_le (Heap.lt_size e) (I.ok.cab x c hfn hc)))).trans (I.base.keep b o e n hb hx)
  ·obtain ⟨sl,e1⟩:=I.base.slot b o e n hb hx
   exact ⟨sl,(hs.2 b (Nat.ne_of_lt (Nat.lt_of_lt_of_le (Heap.lt_size e) (I.ok.cab x c hfn hc)))).trans e1⟩
  ·obtain ⟨o',e1⟩:=I.base.there b o e hx
   exact ⟨o',(hs.2 b (Nat.ne_of_lt (Nat.lt_of_lt_of_le (Heap.lt_size e) (I.ok.cab x c hfn hc)))).trans e1⟩
  ·by_cases hj:j=i
   ·subst hj
    rw [hi] at e1;cases e1
    rw [List.getElem?_set_self hiσ] at e2
    cases e2
    exact ⟨u,r,.inr ⟨.inl hk,c,hc,hc'⟩⟩
   ·rw [List.getElem?_set_ne (Ne.symm hj)] at e2
    obtain ⟨u',r',q⟩:=hl j y v' e1 e2 e3
    refine ⟨u',r',?_⟩
    rcases q with q|⟨k,c',e,z'⟩
    ·exact .inl q
    ·refine .inr ⟨k,c',e,z'.sameBut hs ?_⟩
     rintro rfl
     exact hj (qau hN e1 (I.ok.inj _ _ _ e hc▸hi))
  ·by_cases hcc:c'=c
   ·subst hcc;exact ⟨_,hc'⟩
   ·obtain ⟨w2,z2⟩:=I.cell y c' e
    exact ⟨w2,z2.sameBut hs hcc⟩
  ·obtain ⟨e,n,ne,nf,d⟩:=I.pin p hp
   refine ⟨(hs.2 p.1 ?_).trans e,n,ne,nf,d⟩
   intro q
   rw [q,hoc] at e
   have q':oc=p.2:=Option.some.inj e
   exact d w' (by rw [← q'];exact hocd)
theorem EY {M:Model} {A:Around} {E:Value->Shared->Prop} {i:Nat} {x:Str} {v:V} {u:Value} {Q:Unit->Shared->Prop} (I:Inv X pins σ H s) (hN:X.N.Nodup) (hi:X.N[i]?=some x) (hx:Loc X.env.scope x) (r:jO v u)
  (h:∀ s',Inv X pins (σ.set i (some v)) H s'->Q () s') (hf:X.fn x=true\/X.env.scope.names.lookup x=some .local:=by first|exact .inl rfl|exact .inr rfl|assumption):wpAny M A (storeName X.env x u) Q E s:=
 KN I hN hi hx r (fun s' I' _=>h s' I') hf
theorem Inv.call' {s':Shared} {ch:List Addr} (I:Inv X pins σ H s) (ho:s'.os=s.os) (u:Un (frs X.stack) ch H H' s.heap s'.heap) (hok:HOk X.prog X.w H' s'.heap) (hg:AllBare s'.gens)
  (hch:∀ b∈ch,(b∈X.ex\/X.s₀.heap.objs.size<=b)/\b≠X.env.locals/\(∀ x c,X.env.cells.lookup x=some c->c≠b)/\∀ p∈X.pn++pins,p.1≠b):Inv X pins σ H' s':=by
 obtain ⟨h',g',d',t',o'⟩:=s'
 have e:o'=s.os:=ho
 subst e
 exact I.call (g':=g') (t':=t') (d':=d') u hok hg hch
end
abbrev XK:=Value->Option Addr->Hp->Prop
abbrev St:=List (Option V)
abbrev VK:=V->Hp->Prop
abbrev TE:=St->Hp->VK->Prop
abbrev TT:=St->Hp->(Bool->Hp->Prop)->Prop
abbrev TA:=St->Hp->(List V->Hp->Prop)->Prop
structure Ends where
 nx:St->Hp->Prop
 rt:VK
 bk:St->Hp->Prop:=fun _ _=>False
 ct:St->Hp->Prop:=fun _ _=>False
abbrev TS:=Ends->St->Hp->Prop
def EP (X:Cx) (pins:List (Addr×Obj)) (σ:St) (Q:VK) (u:Value) (s':Shared):Prop:=∃ v H',Inv X pins σ H' s'/\jO v u/\Q v H'
def TP (X:Cx) (pins:List (Addr×Obj)) (σ:St) (Q:Bool->Hp->Prop) (b:Bool) (s':Shared):Prop:=∃ H',Inv X pins σ H' s'/\Q b H'
def AP (X:Cx) (pins:List (Addr×Obj)) (σ:St) (Q:List V->Hp->Prop) (us:List Value) (s':Shared):Prop:=∃ vs H',Inv X pins σ H' s'/\jk vs us/\Q vs H'
def SP (X:Cx) (pins:List (Addr×Obj)) (D:Ends) (f:Flow) (s':Shared):Prop:=
 match f with
 |.next=>∃ σ' H',Inv X pins σ' H' s'/\D.nx σ' H'
 |.brk=>∃ σ' H',Inv X pins σ' H' s'/\D.bk σ' H'
 |.cont=>∃ σ' H',Inv X pins σ' H' s'/\D.ct σ' H'
 |.ret u=>∃ v σ' H',Inv X pins σ' H' s'/\jO v u/\D.rt v H'
def PE (X:Cx) (e:Expr) (t:TE):Prop:=
 ∀ (pins:List (Addr×Obj)) (s:Shared) (σ:St) (H:Hp) (Q:VK),Inv X pins σ H s->t σ H Q->wpAny (model X.prog X.w) X.A (eval e X.env) (EP X pins σ Q) X.xe s
def PT (X:Cx) (e:Expr) (t:TT):Prop:=
 ∀ (pins:List (Addr×Obj)) (s:Shared) (σ:St) (H:Hp) (Q:Bool->Hp->Prop),Inv X pins σ H s->t σ H Q->wpAny (model X.prog X.w) X.A (isTrue e X.env (eval e X.env)) (TP X pins σ Q) X.xe s
def PW (X:Cx) (e:Expr) (t:TT):Prop:=
 ∀ (whole:Sem Value) (pins:List (Addr×Obj)) (s:Shared) (σ:St) (H:Hp) (Q:Bool->Hp->Prop),Inv X pins σ H s->t σ H Q->wpAny (model X.prog X.w) X.A (isTrue e X.env whole) (TP X pins σ Q) X.xe s
theorem PW.pt {X:Cx} {e:Expr} {t:TT} (h:PW X e t):PT X e t:=h _
def PA (X:Cx) (es:List Expr) (t:TA):Prop:=
 ∀ (pos:Pos) (pins:List (Addr×Obj)) (s:Shared) (σ:St) (H:Hp) (Q:List V->Hp->Prop),Inv X pins σ H s->t σ H Q->wpAny (model X.prog X.w) X.A (spliced (backTo pos (starEach es X.env))) (AP X pins σ Q) X.xe s
def PS (X:Cx) (st:Stmt) (t:TS):Prop:=
 ∀ (pins:List (Addr×Obj)) (s:Shared) (σ:St) (H:Hp) (D:Ends),Inv X pins σ H s->t D σ H->wpAny (model X.prog X.w) X.A (exec st X.env) (SP X pins D) X.xe s
def PSs (X:Cx) (st:List Stmt) (t:TS):Prop:=
 ∀ (pins:List (Addr×Obj)) (s:Shared) (σ:St) (H:Hp) (D:Ends),Inv X pins σ H s->t D σ H->wpAny (model X.prog X.w) X.A (execs st X.env) (SP X pins D) X.xe s
theorem thn {α:Type} {t:Sem α} {Q Q':α->Shared->Prop} {M:Model} {A:Around} {E:Value->Shared->Prop} {s:Shared} (h:wpAny M A t Q E s) (hQ:∀ a s,Q a s->Q' a s):wpAny M A t Q' E s:=wpAny_mono h hQ fun _ _ x=>x
section
variable {X:Cx}
def qqY (i:Nat):TE:=fun σ H Q=>∃ v,σ[i]?=some (some v)/\Q v H
def tC (v:V):TE:=fun _ H Q=>Q v H
theorem qm0 {i:Nat} {x:Str} {pos:Pos} (hN:X.N[i]?=some x) (hv:Vis X.env.scope x) (hd:(x==("__debug__" : Str))=false:=by decide) (hcd:(x==("__classdict__" : Str))=false:=by decide):PE X (.Name x pos) (qqY i):=by
 intro pins s σ H Q I h
 obtain ⟨v,e,h⟩:=h
 obtain ⟨m,hn,hl⟩:=I.loc
 obtain ⟨u,r,l⟩:=hl i x v hN e hv
 have fin:EP X pins σ Q u s:=⟨v,H,I,r,h⟩
 rcases l with ⟨hk,hm⟩|⟨hk,c,hc,hcell⟩
 ·exact wpAny_Name (wpAny_loadName_local I.ok.kind hk hn hm fin) hd
 ·rcases hk with hk|hk
  ·exact wpAny_Name (wpAny_loadName_cell I.ok.kind hk hc hcell fin) hd
  ·exact wpAny_Name (wpAny_loadName_free I.ok.kind hk hc hcell fin hcd) hd
theorem qmz {i j pos}:PE X (.Constant (.int i) j pos) (tC (.int i)):=fun _ _ _ H _ I h=>wpAny_Constant_int ⟨.int i,H,I.tok _,⟨_,rfl⟩,h⟩
theorem qpv {b j pos}:PE X (.Constant (.bool b) j pos) (tC (.bl b)):=fun _ _ _ H _ I h=>Constant_bool ⟨.bl b,H,I,rfl,h⟩
theorem qnw {j pos}:PE X (.Constant .none j pos) (tC .non):=fun _ _ _ H _ I h=>Constant_none ⟨.non,H,I,rfl,h⟩
theorem qfp {x j pos}:PE X (.Constant (.str x) j pos) (tC (.str x)):=fun _ _ _ H _ I h=>Calls.Constant_str ⟨.str x,H,I.tok _,⟨_,rfl⟩,h⟩
def Gl (X:Cx) (x:Str):Prop:=X.env.kindOf x=some .globalImplicit
theorem qb1 {E:Value->Shared->Prop} {pins:List (Addr×Obj)} {s:Shared} {σ:St} {H:Hp} {x:Str} {u:Value} {pos:Pos} {Q:Value->Shared->Prop} (I:Inv X pins σ H s) (hg:Gl X x) (hm:X.mg x=some u) (h:Q u s)
  (hd:(x==("__debug__" : Str))=false:=by decide):wpAny (model X.prog X.w) X.A (eval (.Name x pos) X.env) Q E s:=
 Calls.Name_function_global I.ok.kind hg (Calls.loadGlobal_global (by rw [I.ok.glob];exact I.mod.glob.keeps I.bk) hm h) hd
theorem CF {E:Value->Shared->Prop} {pins:List (Addr×Obj)} {s:Shared} {σ:St} {H:Hp} {x:Str} {u:Value} {pos:Pos} {Q:Value->Shared->Prop} (I:Inv X pins σ H s) (hg:Gl X x) (hm:X.mg x=none) (hv:bootBuiltins x=some u) (h:Q u s)
  (hn:x≠"__name__" := by decide) (hd:(x==("__debug__" : Str))=false:=by decide):wpAny (model X.prog X.w) X.A (eval (.Name x pos) X.env) Q E s:=by
 obtain ⟨mb,h1,h2⟩:=I.mod.blt
 exact Calls.Name_function_global I.ok.kind hg (Calls.loadGlobal_builtin (by rw [I.ok.glob];exact I.mod.glob.keeps I.bk) hm (by rw [I.ok.blt];exact h1.keeps I.bk) ((h2 x hn).trans hv) h) hd
theorem qh3 {x:Str} {v:V} {u:Value} {pos:Pos} (hg:Gl X x) (hm:X.mg x=some u) (r:jO v u) (hd:(x==("__debug__" : Str))=false:=by decide):PE X (.Name x pos) (tC v):=
 fun _ _ _ H _ I h=>qb1 I hg hm ⟨v,H,I,r,h⟩ hd
theorem ND {x:Str} {v:V} {u:Value} {pos:Pos} (hg:Gl X x) (hm:X.mg x=none) (hv:bootBuiltins x=some u) (r:jO v u) (hn:x≠"__name__" := by decide) (hd:(x==("__debug__" : Str))=false:=by decide):PE X (.Name x pos) (tC v):=
 fun _ _ _ H _ I h=>CF I hg hm hv ⟨v,H,I,r,h⟩ hn hd
variable {a b:Expr} {ta tb:TE} {pos:Pos}
def tB (t:TE):TT:=fun σ H Q=>t σ H fun x H1=>∃ c,x=.bl c/\Q c H1
theorem ql6 {e:Expr} {t:TE} (h:PE X e t) (he:∀ whole,isTrue e X.env whole=(do let v←whole;standAt e.pos;holding [v] (truthy v)):=by intro _;rfl):PT X e (tB t):=by
 intro pins s σ H Q I hw
 refine isTrue_plain (thn (h pins s σ H _ I hw) fun v s1 ⟨x,H1,I1,r1,q1⟩=>?_) (he _)
 obtain ⟨d,rfl,q⟩:=q1
 cases r1
 exact wpAny_truthy_bool ⟨H1,I1,q⟩
variable {tA tB':TT} {ZP:List Expr}
def qqN (t u:TT):TT:=fun σ H Q=>t σ H fun c H1=>if c=true then u σ H1 Q else Q false H1
def tOr (t u:TT):TT:=fun σ H Q=>t σ H fun c H1=>if c=true then Q true H1 else u σ H1 Q
def qq8 (t:TT):TT:=fun σ H Q=>t σ H fun c H1=>Q (!c) H1
theorem qiL (ha:PT X a tA):PW X (.BoolOp .And [a] pos) tA:=by
 intro wh pins s σ H Q I h
 refine isTrue_and (thn (ha pins s σ H Q I h) fun c s1 e=>?_)
 cases c with
 |true=>exact isTrue_and_nil e
 |false=>exact e
theorem qk1 (ha:PT X a tA):PW X (.BoolOp .Or [a] pos) tA:=by
 intro wh pins s σ H Q I h
 refine isTrue_or (thn (ha pins s σ H Q I h) fun c s1 e=>?_)
 cases c with
 |false=>exact isTrue_or_nil e
 |true=>exact e
theorem ql8 (ha:PT X a tA) (hb:PW X (.BoolOp .And (b::ZP) pos) tB'):PW X (.BoolOp .And (a::b::ZP) pos) (qqN tA tB'):=by
 intro wh pins s σ H Q I h
 refine isTrue_and (thn (ha pins s σ H _ I h) fun c s1 ⟨H1,I1,q1⟩=>?_)
 cases c with
 |true=>exact hb wh pins s1 σ H1 Q I1 q1
 |false=>exact ⟨H1,I1,q1⟩
theorem qoo (ha:PT X a tA) (hb:PW X (.BoolOp .Or (b::ZP) pos) tB'):PW X (.BoolOp .Or (a::b::ZP) pos) (tOr tA tB'):=by
 intro wh pins s σ H Q I h
 refine isTrue_or (thn (ha pins s σ H _ I h) fun c s1 ⟨H1,I1,q1⟩=>?_)
 cases c with
 |true=>exact ⟨H1,I1,q1⟩
 |false=>exact hb wh pins s1 σ H1 Q I1 q1
theorem ql4 (ha:PT X a tA):PT X (.UnaryOp .Not a pos) (qq8 tA):=by
 intro pins s σ H Q I h
 exact isTrue_not (ha pins s σ H (fun c H1=>Q (!c) H1) I h)
def qoE (ta tb:TE):TE:=fun σ H Q=>ta σ H fun x H1=>∃ c,x=.bl c/\if c=true then tb σ H1 Q else Q (.bl false) H1
def qo9 (ta:TE):TE:=fun σ H Q=>ta σ H fun x H1=>∃ c,x=.bl c/\Q (.bl (!c)) H1
theorem qlY {op} {t:TE} (h:PE X a t):PE X (.BoolOp op [a] pos) t:=fun pins s σ H Q I hw=>BoolOp_one (h pins s σ H Q I hw)
theorem qmQ (ha:PE X a ta) (hb:PE X (.BoolOp .And (b::ZP) pos) tb):PE X (.BoolOp .And (a::b::ZP) pos) (qoE ta tb):=by
 intro pins s σ H Q I h
 refine BoolOp_and (thn (ha pins s σ H _ I h) fun v s1 ⟨x,H1,I1,r1,q1⟩=>?_)
 obtain ⟨c,rfl,q1⟩:=q1
 cases r1
 refine wpAny_truthy_bool ?_
 cases c with
 |true=>exact hb pins s1 σ H1 Q I1 q1
 |false=>exact ⟨.bl false,H1,I1,rfl,q1⟩
theorem qji (ha:PE X a ta):PE X (.UnaryOp .Not a pos) (qo9 ta):=by
 intro pins s σ H Q I h
 refine UnaryOp_ (thn (ha pins s σ H _ I h) fun v s1 ⟨x,H1,I1,r1,q1⟩=>?_)
 obtain ⟨c,rfl,q1⟩:=q1
 cases r1
 exact not_of (wpAny_truthy_bool ⟨.bl (!c),H1,I1,rfl,q1⟩)
def tIf (t:TT) (ta tb:TE):TE:=fun σ H Q=>t σ H fun c H1=>if c=true then ta σ H1 Q else tb σ H1 Q
theorem qeB {c:Expr} (hc:PT X c tA) (ha:PE X a ta) (hb:PE X b tb):PE X (.IfExp c a b pos) (tIf tA ta tb):=by
 intro pins s σ H Q I h
 refine wpAny_IfExp (thn (hc pins s σ H _ I h) fun d s1 ⟨H1,I1,q1⟩=>?_)
 cases d with
 |true=>exact ha pins s1 σ H1 Q I1 q1
 |false=>exact hb pins s1 σ H1 Q I1 q1
end
def SqL (K:PySem.W.Frag) (H:Hp) (a:Addr) (xs:List V):Prop:=
 Rd H a (.lst xs) ∨
  ∃ (o:Obj) (its:Array Value) (n:Nat),K.lookup a=some o/\o.cls=.type "list"/\o.dict=none/\o.data=.seq its n/\its.size<=sizeLine/\jk xs its.toList
def SqT (K:PySem.W.Frag) (H:Hp) (a:Addr) (xs:List V):Prop:=
 Rd H a (.tup xs) ∨
  ∃ (o:Obj) (its:Array Value) (n:Nat),K.lookup a=some o/\o.cls=.type "tuple"/\o.data=.seq its n/\its.size<=sizeLine/\jk xs its.toList
def qqL:Value->Option V
 |.none=>some .non
 |.bool b=>some (.bl b)
 |.int i _=>some (.int i)
 |.str x _=>some (.str x)
 |.bytes b _=>some (.byt b)
 |.float b _=>some (.flt b)
 |.ref a=>some (.ref a)
 |.type n=>some (.ty n)
 |_=>none
theorem jO.abs {x:V} {u:Value} (r:jO x u):qqL u=some x:=by
 cases x with
 |non=>cases r;rfl
 |bl _=>cases r;rfl
 |int _=>obtain ⟨t,rfl⟩:=r;rfl
 |str _=>obtain ⟨t,rfl⟩:=r;rfl
 |byt _=>obtain ⟨t,rfl⟩:=r;rfl
 |flt _=>obtain ⟨t,rfl⟩:=r;rfl
 |ref _=>cases r;rfl
 |ty _=>cases r;rfl
theorem jO.inj {x y:V} {u:Value} (r:jO x u) (q:jO y u):x=y:=Option.some.inj (r.abs.symm.trans q.abs)
theorem jk.inj:∀ {xs ys:List V} {us:List Value},jk xs us->jk ys us->xs=ys
 |_,_,_,.nil,.nil=>rfl
 |_,_,_,.cons r t,.cons r' t'=>by rw [r.inj r',jk.inj t t']
section
variable {X:Cx} {pins:List (Addr×Obj)} {σ:St} {H:Hp} {s:Shared} {a:Addr} {xs ys:List V}
theorem SqL.of {K:PySem.W.Frag} (h:H a=some (.lst xs)):SqL K H a xs:=.inl (.inl h)
theorem SqT.of {K:PySem.W.Frag} (h:H a=some (.tup xs)):SqT K H a xs:=.inl (.inl h)
theorem Inv.list (I:Inv X pins σ H s) (h:SqL X.K H a xs):∃ its:List Value,jk xs its/\PlainL s.heap a its.toArray/\xs.length<=sizeLine:=by
 rcases h with h|⟨o,its,n,hk,hc,hd,hs,hz,r⟩
 ·obtain ⟨z,its,n,r,e⟩:=h.ok I.hok
  exact ⟨its,r,⟨_,n,e,rfl,rfl,rfl⟩,z⟩
 ·refine ⟨its.toList,r,⟨o,n,I.kIn a o hk,hc,hd,by simpa using hs⟩,?_⟩
  have e:=r.length
  simp only [Array.length_toList] at e
  omega
theorem Inv.tuple (I:Inv X pins σ H s) (h:SqT X.K H a xs):∃ its:List Value,jk xs its/\IsTup s.heap a its.toArray/\xs.length<=sizeLine:=by
 rcases h with h|⟨o,its,n,hk,hc,hs,hz,r⟩
 ·obtain ⟨z,its,r,p⟩:=h.ok I.hok
  exact ⟨its,r,p,z⟩
 ·refine ⟨its.toList,r,⟨o,I.kIn a o hk,hc,n,by simpa using hs⟩,?_⟩
  have e:=r.length
  simp only [Array.length_toList] at e
  omega
theorem Inv.list_inj (I:Inv X pins σ H s) (h:SqL X.K H a xs) (h':SqL X.K H a ys):xs=ys:=by
 obtain ⟨its,r,⟨o,n,e,_,_,d⟩,_⟩:=I.list h
 obtain ⟨its',r',⟨o',n',e',_,_,d'⟩,_⟩:=I.list h'
 rw [e] at e';cases e'
 rw [d] at d'
 injection d' with d1 _
 have:its=its':=by simpa using congrArg Array.toList d1
 subst this
 exact r.inj r'
theorem Inv.tuple_inj (I:Inv X pins σ H s) (h:SqT X.K H a xs) (h':SqT X.K H a ys):xs=ys:=by
 obtain ⟨its,r,⟨o,e,_,n,d⟩,_⟩:=I.tuple h
 obtain ⟨its',r',⟨o',e',_,n',d'⟩,_⟩:=I.tuple h'
 rw [e] at e';cases e'
 rw [d] at d'
 injection d' with d1 _
 have:its=its':=by simpa using congrArg Array.toList d1
 subst this
 exact r.inj r'
end
abbrev Cx.wish (X:Cx) (E:Value->Shared->Prop):Cx:={ X with xe:=E }
abbrev Cx.nox (X:Cx):Cx:=X.wish fun _ _=>False
theorem Cx.Ok.wish {X:Cx} (ok:X.Ok) (E:Value->Shared->Prop):(X.wish E).Ok:=
 ⟨ok.mod,ok.kind,ok.glob,ok.blt,ok.above,ok.inj,ok.has,ok.cab,ok.hd,ok.frames,ok.stk,ok.exf,ok.bs,ok.bsz,ok.noex,ok.exfs,ok.funs,ok.frf⟩
theorem Cx.Ok.unwish {X:Cx} {E:Value->Shared->Prop} (ok:(X.wish E).Ok):X.Ok:=
 ⟨ok.mod,ok.kind,ok.glob,ok.blt,ok.above,ok.inj,ok.has,ok.cab,ok.hd,ok.frames,ok.stk,ok.exf,ok.bs,ok.bsz,ok.noex,ok.exfs,ok.funs,ok.frf⟩
section
variable {X:Cx} {pins:List (Addr×Obj)} {σ:St} {H:Hp} {s:Shared} {E:Value->Shared->Prop}
theorem Inv.wish (I:Inv X pins σ H s) (E:Value->Shared->Prop):Inv (X.wish E) pins σ H s:=⟨I.ok.wish E,I.os,I.bare,I.base,I.loc,I.cell,I.free,I.freeC,I.pin,I.hok,I.len⟩
theorem Inv.unwish (I:Inv (X.wish E) pins σ H s):Inv X pins σ H s:=⟨I.ok.unwish,I.os,I.bare,I.base,I.loc,I.cell,I.free,I.freeC,I.pin,I.hok,I.len⟩
theorem SP.unwish {D:Ends} {f:Flow} {s':Shared} (h:SP (X.wish E) pins D f s'):SP X pins D f s':=by
 cases f with
 |next=>obtain ⟨σ',H',I,q⟩:=h;exact ⟨σ',H',I.unwish,q⟩
 |brk=>obtain ⟨σ',H',I,q⟩:=h;exact ⟨σ',H',I.unwish,q⟩
 |cont=>obtain ⟨σ',H',I,q⟩:=h;exact ⟨σ',H',I.unwish,q⟩
 |ret u=>obtain ⟨v,σ',H',I,r,q⟩:=h;exact ⟨v,σ',H',I.unwish,r,q⟩
theorem PSs.nox {st:List Stmt} {t:TS} (h:PSs X.nox st t):PSs X st t:=fun pins s σ H D I hw=>
 wpAny_mono (h pins s σ H D (I.wish _) hw) (fun _ _ q=>q.unwish) fun _ _ z=>False.elim z
end
section
variable {X:Cx} {st:Stmt} {ZP:List Stmt} {t u:TS} {e:Expr} {te:TE} {pos:Pos}
def qoJ:TS:=fun D σ H=>D.nx σ H
def qrj (t u:TS):TS:=fun D σ H=>t { D with nx:=u D } σ H
theorem qgZ:PSs X [] qoJ:=fun _ _ σ H _ I h=>wpAny_execs_nil ⟨σ,H,I,h⟩
theorem qdP (h1:PS X st t) (h2:PSs X ZP u):PSs X (st::ZP) (qrj t u):=by
 intro pins s σ H D I h
 refine wpAny_execs_cons (thn (h1 pins s σ H { D with nx:=u D } I h) fun f s1 q=>?_)
 cases f with
 |next=>
  obtain ⟨σ',H',I',q⟩:=q
  exact h2 pins s1 σ' H' D I' q
 |ret v=>exact q
 |brk=>exact q
 |cont=>exact q
theorem qh5 (h1:PS X st t):PSs X [st] t:=by
 intro pins s σ H D I h
 refine wpAny_execs_cons (thn (h1 pins s σ H D I h) fun f s1 q=>?_)
 cases f with
 |next=>exact wpAny_execs_nil q
 |ret v=>exact q
 |brk=>exact q
 |cont=>exact q
theorem Inv.quiet {pins:List (Addr×Obj)} {σ:St} {H:Hp} {s:Shared} (I:Inv X pins σ H s):interactive X.env=false:=by simp [interactive,I.ok.kind]
def qpF (te:TE):TS:=fun D σ H=>te σ H fun _ H1=>D.nx σ H1
theorem qg4 (he:PE X e te) (hs:swapsWith e none pos.line X.env=pure false:=by rfl):PS X (.Expr e pos) (qpF te):=by
 intro pins s σ H D I h
 exact wpAny_Expr_any (thn (he pins s σ H _ I h) fun v s1 ⟨x,H1,I1,r1,q1⟩=>⟨σ,H1,I1,q1⟩) I.quiet hs
def qre (te:TE):TS:=fun D σ H=>te σ H D.rt
theorem qmZ (he:PE X e te):PS X (.Return (some e) pos) (qre te):=by
 intro pins s σ H D I h
 exact wpAny_Return_some (thn (he pins s σ H _ I h) fun v s1 ⟨x,H1,I1,r1,q1⟩=>⟨x,σ,H1,I1,r1,q1⟩)
def qq4 (c:TT) (t u:TS):TS:=fun D σ H=>c σ H fun b H1=>if b=true then t D σ H1 else u D σ H1
theorem qpq {c:Expr} {a b:List Stmt} {tc:TT} (hc:PT X c tc) (ha:PSs X a t) (hb:PSs X b u):PS X (.If c a b pos) (qq4 tc t u):=by
 intro pins s σ H D I h
 refine wpAny_If (thn (hc pins s σ H _ I h) fun d s1 ⟨H1,I1,q1⟩=>?_)
 cases d with
 |true=>exact ha pins s1 σ H1 D I1 q1
 |false=>exact hb pins s1 σ H1 D I1 q1
end
abbrev TG:=V->St->Hp->(St->Hp->Prop)->Prop
abbrev TGs:=List V->St->Hp->(St->Hp->Prop)->Prop
def PG (X:Cx) (target:Expr) (t:TG):Prop:=
 ∀ (pins:List (Addr×Obj)) (s:Shared) (σ:St) (H:Hp) (v:V) (u:Value) (Q:St->Hp->Prop),Inv X pins σ H s->jO v u->t v σ H Q ->
  wpAny (model X.prog X.w) X.A (assign target X.env u) (fun _ s'=>∃ σ' H',Inv X pins σ' H' s'/\Q σ' H') X.xe s
def PGs (X:Cx) (ts:List Expr) (t:TGs):Prop:=
 ∀ (pins:List (Addr×Obj)) (s:Shared) (σ:St) (H:Hp) (vs:List V) (us:List Value) (Q:St->Hp->Prop),Inv X pins σ H s->jk vs us->t vs σ H Q ->
  wpAny (model X.prog X.w) X.A (assignInOrder ((assignEach ts X.env).map (·.2)) us) (fun _ s'=>∃ σ' H',Inv X pins σ' H' s'/\Q σ' H') X.xe s
abbrev qpW:=V->V->V->Hp->(Hp->Prop)->Prop
def qqh (X:Cx) (t:qpW):Prop:=
 ∀ (pins:List (Addr×Obj)) (s:Shared) (σ:St) (H:Hp) (o i v:V) (ov iv u:Value) (Q:Hp->Prop),Inv X pins σ H s->jO o ov->jO i iv->jO v u->t o i v H Q ->
  wpAny (model X.prog X.w) X.A (setItem ov iv u) (fun _ s'=>∃ H',Inv X pins σ H' s'/\Q H') X.xe s
abbrev TIp:=V->V->Hp->VK->Prop
def PIp (X:Cx) (op:Operator) (t:TIp):Prop:=
 ∀ (pins:List (Addr×Obj)) (s:Shared) (σ:St) (H:Hp) (x y:V) (v u:Value) (Q:VK),Inv X pins σ H s->jO x v->jO y u->t x y H Q ->
  wpAny (model X.prog X.w) X.A (inplaceOp op v u) (EP X pins σ Q) X.xe s
section
variable {X:Cx} {pos:Pos}
def qiG (i:Nat):TG:=fun v σ H Q=>Q (σ.set i (some v)) H
theorem qiI {i:Nat} {x:Str} (hN:X.N.Nodup) (hi:X.N[i]?=some x) (hx:Loc X.env.scope x) (hf:X.fn x=true\/X.env.scope.names.lookup x=some .local:=by first|exact .inl rfl|exact .inr rfl|assumption):PG X (.Name x pos) (qiG i):=by
 intro pins s σ H v u Q I r h
 exact wpAny_assign_Name (EY I hN hi hx r (fun s' I'=>⟨_,H,I',h⟩) hf)
def qbp:TGs:=fun vs σ H Q=>vs=[]/\Q σ H
def jW (t:TG) (u:TGs):TGs:=fun vs σ H Q=>∃ v r,vs=v::r/\t v σ H fun σ' H'=>u r σ' H' Q
theorem qhN:PGs X [] qbp:=by
 intro pins s σ H vs us Q I r h
 obtain ⟨e,h⟩:=h
 subst e
 cases r
 exact assignInOrder_nil ⟨σ,H,I,h⟩
theorem qeC {e:Expr} {es:List Expr} {t:TG} {u:TGs} (h1:PG X e t) (h2:PGs X es u)
  (hs:(assignEach (e::es) X.env).map (·.2)=assign e X.env::(assignEach es X.env).map (·.2):=by rfl):PGs X (e::es) (jW t u):=by
 intro pins s σ H vs us Q I r h
 obtain ⟨v,vr,e1,h⟩:=h
 subst e1
 cases r with
 |cons r rr=>
  rw [hs]
  refine assignInOrder_cons (thn (h1 pins s σ H _ _ _ I r h) fun _ s1 ⟨σ1,H1,I1,q1⟩=>?_)
  exact h2 pins s1 σ1 H1 _ _ Q I1 rr q1
def qaY (K:PySem.W.Frag) (n:Nat) (t:TGs):TG:=fun v σ H Q=>∃ a xs,v=.ref a/\SqT K H a xs/\xs.length=n/\t xs σ H Q
theorem qms {es:List Expr} {k:Nat} {t:TGs} {n:Nat} (hc:X.calm=true) (h:PGs X es t)
  (hn:(assignEach es X.env).length=n:=by rfl) (hst:(assignEach es X.env).findIdx? (·.1)=none:=by rfl):PG X (.Tuple es k pos) (qaY X.K n t):=by
 intro pins s σ H v u Q I r hw
 obtain ⟨a,xs,e1,hq,hl,hw⟩:=hw
 subst e1
 cases r
 obtain ⟨its,rv,ht,hz⟩:=I.tuple hq
 refine assign_Tuple_tuple (I.ok.hd hc) ht (by simp [hn,← hl,rv.length]) hst fun h' hx=>?_
 have I1:Inv X pins σ H { s with heap:=h' }:=I.kept (t':=s.toks) fun b o e=>hx b o (Nat.ne_of_lt (Heap.lt_size e)) e
 exact h pins _ σ H xs _ Q I1 (by simpa using rv) hw
def qrb (to ti:TE) (t:qpW):TG:=fun v σ H Q=>to σ H fun o H1=>ti σ H1 fun i H2=>t o i v H2 fun H3=>Q σ H3
theorem qjt {o i:Expr} {to ti:TE} {t:qpW} (ho:PE X o to) (hi:PE X i ti) (hs:qqh X t)
  (ha:∀ v,assign (.Subscript o i pos) X.env v=(do
   let ov←holding [v] (eval o X.env)
   let iv←holding [v,ov] (eval i X.env)
   standAt pos
   holding [v,ov,iv] (setItem ov iv v)
   release [v,ov,iv] []):=by intro _;rfl):PG X (.Subscript o i pos) (qrb to ti t):=by
 intro pins s σ H v u Q I r h
 rw [ha]
 refine wpAny_bind (wpAny_holding (thn (ho pins s σ H _ I h) fun ov s1 ⟨x,H1,I1,r1,q1⟩=>?_))
 refine wpAny_bind (wpAny_holding (thn (hi pins s1 σ H1 _ I1 q1) fun iv s2 ⟨y,H2,I2,r2,q2⟩=>?_))
 refine wpAny_bind (wpAny_standAt (wpAny_bind (wpAny_holding (thn (hs pins s2 σ H2 x y v ov iv u _ I2 r1 r2 r q2) fun _ s3 ⟨H3,I3,q3⟩=>?_))))
 exact wpAny_release ⟨σ,H3,I3,q3⟩
def qpc (te:TE) (g:TG):TS:=fun D σ H=>te σ H fun x H1=>g x σ H1 D.nx
theorem qjq {tg e:Expr} {te:TE} {g:TG} (he:PE X e te) (hg:PG X tg g) (hs:swapsWithSole [tg] e pos.line X.env=pure false:=by rfl) (hw:swappedStores [tg] e X.env=pure none:=by rfl)
  (h1:(assignEach [tg] X.env).map (·.2)=[assign tg X.env]:=by rfl):PS X (.Assign [tg] e pos) (qpc te g):=by
 intro pins s σ H D I h
 refine wpAny_Assign_stores (thn (he pins s σ H _ I h) fun v s1 ⟨x,H1,I1,r1,q1⟩=>?_) hs hw
 rw [h1]
 exact thn (hg pins s1 σ H1 x v _ I1 r1 q1) fun _ s2 q=>q
theorem qnz {i:Nat} {x:Str} {e:Expr} {te:TE} {pos':Pos} (hN:X.N.Nodup) (hi:X.N[i]?=some x) (hx:Loc X.env.scope x) (he:PE X e te) (hs:swapsWith e (some (.Name x pos')) pos.line X.env=pure false:=by rfl) (hf:X.fn x=true\/X.env.scope.names.lookup x=some .local:=by first|exact .inl rfl|exact .inr rfl|assumption) :
  PS X (.Assign [.Name x pos'] e pos) (qpc te (qiG i)):=by
 intro pins s σ H D I h
 refine wpAny_Assign_Name (thn (he pins s σ H _ I h) fun v s1 ⟨y,H1,I1,r1,q1⟩=>?_) hs
 exact EY I1 hN hi hx r1 (fun s2 I2=>⟨_,H1,I2,q1⟩) hf
def qq2 (i j:Nat) (ta:TA):TS:=fun D σ H=>ta σ H fun vs H1=>∃ v w,vs=[v,w]/\D.nx ((σ.set i (some v)).set j (some w)) H1
theorem qkm {i j:Nat} {x y:Str} {a b:Expr} {ta:TA} {px py pt:Pos} {kt k2 pt2} (hc:X.calm=true) (hN:X.N.Nodup) (hi:X.N[i]?=some x) (hj:X.N[j]?=some y) (hij:i≠j)
  (hx:X.env.scope.names.lookup x=some .local) (hy:X.env.scope.names.lookup y=some .local) (ha:PA X [a,b] ta)
  (hw:swappedStores [.Tuple [.Name x px,.Name y py] kt pt] (.Tuple [a,b] k2 pt2) X.env=pure (some [x,y]))
  (hs:swapsWithSole [.Tuple [.Name x px,.Name y py] kt pt] (.Tuple [a,b] k2 pt2) pos.line X.env=pure false:=by rfl) :
  PS X (.Assign [.Tuple [.Name x px,.Name y py] kt pt] (.Tuple [a,b] k2 pt2) pos) (qq2 i j ta):=by
 intro pins s σ H D I h
 rw [exec_Assign_arm]
 refine wpAny_bind (wpAny_standAt ?_)
 rw [hs]
 refine wpAny_bind (wpAny_pure ?_)
 rw [if_neg (by decide)]
 refine wpAny_bind (Tuple_ (thn (ha _ pins s σ H _ I h) fun us s1 ⟨vs,H1,I1,r1,q1⟩=>?_))
 obtain ⟨v,w,e1,q1⟩:=q1
 subst e1
 obtain ⟨u1,u2,rfl,rv,rw'⟩:∃ u1 u2,us=[u1,u2]/\jO v u1/\jO w u2:=by
  cases r1 with
  |cons p q=>
   cases q with
   |cons p' q'=>
    cases q'
    exact ⟨_,_,rfl,p,p'⟩
 refine wpAny_newObj_type ?_ (by show 2<=sizeLine;decide)
 have I2:Inv X pins σ H1 { s1 with heap:=s1.heap.push { cls:=.type "tuple",data:=.seq [u1,u2].toArray } }:=I1.kept (t':=s1.toks) fun b o e=>Heap.get?_push_of_some _ e
 rw [hw]
 refine wpAny_bind (wpAny_pure ?_)
 show wpAny (model X.prog X.w) X.A (do rule "assign.swapped-stores";let items←unpackItems (.ref s1.heap.objs.size) 2 none;assignInOrder [fun v=>bindName X.env y v,fun v=>bindName X.env x v] items.reverse;pure Flow.next) _ _ _
 refine wpAny_bind (wpAny_rule (wpAny_bind (unpackItems_tuple (items:=#[u1,u2]) (I.ok.hd hc) (IsTup.new s1.heap _) fun h' hx'=>?_)))
 have I3:=I2.kept (h':=h') (t':=s1.toks) fun b o e=>hx' b o (Nat.ne_of_lt (Heap.lt_size e)) e
 show wpAny _ _ (assignInOrder [fun v=>bindName X.env y v,fun v=>bindName X.env x v] [u2,u1] >>= fun _=>pure Flow.next) _ _ _
 refine wpAny_bind (assignInOrder_cons (wpAny_bindName (EY I3 hN hj (.inl hy) rw' (fun s2 I4=>?_) (.inr hy))))
 refine assignInOrder_cons (wpAny_bindName (EY I4 hN hi (.inl hx) rv (fun s3 I5=>assignInOrder_nil (wpAny_pure ?_)) (.inr hx)))
 rw [List.set_comm _ _ (Ne.symm hij)] at I5
 exact ⟨_,H1,I5,q1⟩
def qqU (i:Nat) (te:TE) (ti:TIp):TS:=fun D σ H=>∃ x,σ[i]?=some (some x)/\te σ H fun y H1=>ti x y H1 fun z H2=>D.nx (σ.set i (some z)) H2
theorem qlV {i:Nat} {x:Str} {e:Expr} {te:TE} {op:Operator} {ti:TIp} {pos':Pos} (hN:X.N.Nodup) (hi:X.N[i]?=some x) (hx:Loc X.env.scope x) (he:PE X e te) (ho:PIp X op ti) (hf:X.fn x=true\/X.env.scope.names.lookup x=some .local:=by first|exact .inl rfl|exact .inr rfl|assumption) :
  PS X (.AugAssign (.Name x pos') op e pos) (qqU i te ti):=by
 intro pins s σ H D I h
 obtain ⟨v,e1,h⟩:=h
 obtain ⟨m,hn,hl⟩:=I.loc
 have vis:Vis X.env.scope x:=by rcases hx with k|k;exact .inl k;exact .inr (.inl k)
 obtain ⟨u,r,l⟩:=hl i x v hi e1 vis
 refine wpAny_AugAssign_Name ?_
 have go:wpAny (model X.prog X.w) X.A (eval e X.env) (fun w s₂=>wpAny (model X.prog X.w) X.A (inplaceOp op u w) (fun r s₃=>wpAny (model X.prog X.w) X.A (storeName X.env x r) (fun _=>SP X pins D .next) X.xe s₃) X.xe s₂) X.xe s:=by
  refine thn (he pins s σ H _ I h) fun w s1 ⟨y,H1,I1,r1,q1⟩=>?_
  refine thn (ho pins s1 σ H1 v y u w _ I1 r r1 q1) fun z s2 ⟨zv,H2,I2,r2,q2⟩=>?_
  exact EY I2 hN hi hx r2 (fun s3 I3=>⟨_,H2,I3,q2⟩) hf
 rcases l with ⟨hk,hm⟩|⟨hk,c,hc,hcell⟩
 ·exact wpAny_loadName_local I.ok.kind hk hn hm go
 ·rcases hk with hk|hk
  ·exact wpAny_loadName_cell I.ok.kind hk hc hcell go
  ·rcases hx with k|k
   ·have:X.env.scope.names.lookup x=some .free:=hk
    rw [k] at this;cases this
   ·have:X.env.scope.names.lookup x=some .free:=hk
    rw [k] at this;cases this
def ipI (f:Int->Int->Int):TIp:=fun x y H Q=>∃ i j,x=.int i/\y=.int j/\Q (.int (f i j)) H
theorem qjG:PIp X .Add (ipI fun i j=>i+j):=by
 intro pins s σ H x y v u Q I r1 r2 h
 obtain ⟨i,j,e1,e2,q⟩:=h
 subst e1;subst e2
 obtain ⟨t,rfl⟩:=r1
 obtain ⟨t',rfl⟩:=r2
 exact iadd_int ⟨.int _,H,I.tok _,⟨_,rfl⟩,q⟩
end
section
variable {X:Cx} {pos:Pos}
def qlr (c:TT) (tb:TS):TS:=fun D σ H=>∃ W:Nat->St->Hp->Prop,(∃ m,W m σ H)/\∀ m σ H,W m σ H ->
 c σ H fun b H1=>if b=true then ∃ N:St->Hp->Prop,(∀ σ' H',N σ' H'->∃ m',m'<m/\W m' σ' H')/\tb { D with nx:=N,ct:=N,bk:=D.nx } σ H1 else D.nx σ H1
theorem qdI {c:Expr} {body:List Stmt} {tc:TT} {tb:TS} (hp:PassesOwn (model X.prog X.w) X.A X.env X.xe) (hc:PT X c tc) (hb:PSs X body tb):PS X (.While c body [] pos) (qlr tc tb):=by
 intro pins s σ H D I h
 obtain ⟨W,⟨m0,w0⟩,turn⟩:=h
 refine wpAny_While (codeAny_whileLoop (fun n s'=>∃ σ' H',Inv X pins σ' H' s'/\W n σ' H') ?_ m0 ⟨σ,H,I,w0⟩)
 rintro n s1 ⟨σ1,H1,I1,w1⟩
 refine wpAny_passesOwn hp (thn (hc pins s1 σ1 H1 _ I1 (turn n σ1 H1 w1)) fun b s2 ⟨H2,I2,q2⟩=>?_)
 cases b with
 |true=>
  obtain ⟨N,hN,q2⟩:=q2
  rw [if_pos rfl]
  refine wpAny_passesOwn hp (thn (hb pins s2 σ1 H2 _ I2 q2) fun f s3 q3=>?_)
  cases f with
  |next=>
   obtain ⟨σ3,H3,I3,n3⟩:=q3
   obtain ⟨m',hm,w3⟩:=hN σ3 H3 n3
   exact ⟨m',hm,σ3,H3,I3,w3⟩
  |cont=>
   obtain ⟨σ3,H3,I3,n3⟩:=q3
   obtain ⟨m',hm,w3⟩:=hN σ3 H3 n3
   exact ⟨m',hm,σ3,H3,I3,w3⟩
  |brk=>exact q3
  |ret v=>exact q3
 |false=>
  rw [if_neg Bool.false_ne_true]
  exact wpAny_execs_nil ⟨σ1,H2,I2,q2⟩
end
structure It where
 go:Nat->Hp->Prop
 yld:Nat->Hp->V->Hp->Prop
 stop:Nat->Hp->Prop
def KP (X:Cx) (pins:List (Addr×Obj)) (H:Hp) (b:Addr):Prop:=
 H b=none/\b≠X.env.locals/\b∉X.fs/\(b∈X.ex\/X.s₀.heap.objs.size<=b)/\(∀ x c,X.env.cells.lookup x=some c->c≠b)/\∀ p∈X.pn++pins,p.1≠b
theorem Inv.fpOk {X:Cx} {pins:List (Addr×Obj)} {σ:St} {H H':Hp} {s:Shared} {b:Addr} (I:Inv X pins σ H s) (hb:s.heap.objs.size<=b) (hn:H' b=none):KP X pins H' b:=by
 refine ⟨hn,Nat.ne_of_gt (Nat.lt_of_lt_of_le I.lt hb),I.nofs hb,.inr (Nat.le_trans I.sz hb),fun x c e z=>?_,fun p hp z=>?_⟩
 ·obtain ⟨v,q⟩:=I.cell x c e
  exact absurd (Nat.lt_of_lt_of_le q.lt (by rw [z];exact hb)) (Nat.lt_irrefl _)
 ·exact absurd (Nat.lt_of_lt_of_le (Heap.lt_size (I.pin p hp).1) (by rw [z];exact hb)) (Nat.lt_irrefl _)
structure Turn (P:Program) (w:World) (K:PySem.W.Frag) (tg:Expr) (J:It) (fp:List Addr) (it:Addr) (tn:Nat->Heap->Prop):Prop where
 mem:it∈fp
 obj:∀ i h,tn i h->∀ b∈fp,∃ o,h.get? b=some o/\∀ v,o.data≠.cell v
 keep:∀ i h h',tn i h->(∀ b∈fp,∀ o,h.get? b=some o->h'.get? b=some o)->tn i h'
 item:∀ (X:Cx),X.prog=P->X.w=w->X.K=K->X.calm=true->∀ (i:Nat) (pins:List (Addr×Obj)) (s:Shared) (σ:St) (H:Hp) (E:Value->Shared->Prop),Inv X pins σ H s->(∀ b∈fp,KP X pins H b)->tn i s.heap->J.go i H ->
  wpAny (model P w) X.A (pyNext (.ref it)) (fun r s1=>∃ u,r=some u /\
   wpAny (model P w) X.A (letOwnedTupleGo tg (.ref it) u) (fun _ s2=>∃ x H',Inv X pins σ H' s2/\jO x u/\J.yld i H x H'/\tn (i+1) s2.heap/\∀ b∈fp,H' b=none) E s1) E s
 done:∀ (X:Cx),X.prog=P->X.w=w->X.K=K->X.calm=true->∀ (i:Nat) (pins:List (Addr×Obj)) (s:Shared) (σ:St) (H:Hp) (E:Value->Shared->Prop),Inv X pins σ H s->(∀ b∈fp,KP X pins H b)->tn i s.heap->J.stop i H ->
  wpAny (model P w) X.A (pyNext (.ref it)) (fun r s1=>r=none/\Inv X pins σ H s1) E s
 self:∀ (A:Around) (i:Nat) (s:Shared) (Q:Value->Shared->Prop) (E:Value->Shared->Prop),tn i s.heap->Q (.ref it) s->wpAny (model P w) A (pyIter (.ref it)) Q E s
abbrev TI:=St->Hp->(It->Hp->Prop)->Prop
def PIE (X:Cx) (pins:List (Addr×Obj)) (σ:St) (tg:Expr) (R:It->Hp->Prop) (itv:Value) (s2:Shared):Prop:=
 ∃ (it:Addr) (fp:List Addr) (tn:Nat->Heap->Prop) (J:It) (H':Hp),itv=.ref it/\Inv X pins σ H' s2/\Turn X.prog X.w X.K tg J fp it tn/\tn 0 s2.heap/\(∀ b∈fp,KP X pins H' b)/\R J H'
def PI (X:Cx) (tg iter:Expr) (wi:TI):Prop:=
 ∀ (pins:List (Addr×Obj)) (s:Shared) (σ:St) (H:Hp) (R:It->Hp->Prop),Inv X pins σ H s->wi σ H R ->
  wpAny (model X.prog X.w) X.A (eval iter X.env) (fun v s1=>wpAny (model X.prog X.w) X.A (pyIter v) (PIE X pins σ tg R) X.xe s1) X.xe s
theorem qhc {M:Model} {A:Around} {E:Value->Shared->Prop} {s:Shared} {tg:Expr} {it:Addr} {u:Value} {o:Obj} {n:String} {vs:Array Value} {Q:Unit->Shared->Prop} (ho:s.heap.get? it=some o) (hc:o.cls=.type n) (hd:o.data=.fields vs)
    (hn:["enumerate","zip","dict_itemiterator","dict_reverseitemiterator","odict_iterator","itertools.zip_longest","itertools.pairwise"].contains n=false) (hQ:Q () s):wpAny M A (letOwnedTupleGo tg (.ref it) u) Q E s:=by
  unfold letOwnedTupleGo
  cases tg<;>first
    |exact wpAny_pure hQ
    | (cases u<;>first
        |exact wpAny_pure hQ
        | (refine wpAny_bind (wpAny_load ho ?_)
           rw [hc,hd]
           show wpAny M A (if (["enumerate","zip","dict_itemiterator","dict_reverseitemiterator","odict_iterator","itertools.zip_longest","itertools.pairwise"].contains n&&vs[0]?==some (rawInt _))=true then _ else _) Q E s
           rw [if_neg (by intro h;rw [hn,Bool.false_and] at h;cases h)]
           exact wpAny_pure hQ))
def Itl (K:PySem.W.Frag) (a:Addr):It:=
 ⟨fun i H=>∃ xs x,SqL K H a xs/\xs[i]?=some x,fun i H x H'=>H'=H/\∀ xs,SqL K H a xs->xs[i]?=some x,fun i H=>∃ xs,SqL K H a xs/\xs.length<=i⟩
def Itt (K:PySem.W.Frag) (a:Addr):It:=
 ⟨fun i H=>∃ xs x,SqT K H a xs/\xs[i]?=some x,fun i H x H'=>H'=H/\∀ xs,SqT K H a xs->xs[i]?=some x,fun i H=>∃ xs,SqT K H a xs/\xs.length<=i⟩
def Itr (lo:Int) (n:Nat):It:=⟨fun i _=>i<n,fun i H x H'=>H'=H/\x=.int (lo+i),fun i _=>n<=i⟩
theorem qcu {P:Program} {w:World} {K:PySem.W.Frag} {tg:Expr} (a it:Addr):Turn P w K tg (Itl K a) [it] it (fun i h=>h.IsListIter it a i) where
 mem:=by simp
 obj:=fun i h st b hb=>by
  have e:b=it:=by simpa using hb
  subst e
  obtain ⟨o,e,c,d⟩:=st
  exact ⟨o,e,fun v z=>by rw [d] at z;cases z⟩
 keep:=fun i h h' st k=>st.at fun o e=>k it (by simp) o e
 item:=by
  intro X hP hw hK hc i pins s σ H E I hf st hg
  subst hP hw hK
  obtain ⟨xs,x,hq,hx⟩:=hg
  obtain ⟨its,rv,p,hz⟩:=I.list hq
  obtain ⟨u,hu,ru⟩:=rv.get hx
  obtain ⟨f0,f1,f2,f3,f4,f5⟩:=hf it (by simp)
  refine wpAny_pyNext_list_item st p.isList (x:=u) (by simpa using hu) fun h' st' sb=>?_
  have I1:Inv X pins σ H { s with heap:=h' }:=I.turned (t':=s.toks) (fun b o hb e=>(sb.2 b hb).trans e) f0 f1 f3 f4 f5
  obtain ⟨o,e,c,d⟩:=id st'
  exact ⟨u,rfl,qhc (s:={ s with heap:=h' }) e c d (by decide) ⟨x,H,I1,ru,⟨rfl,fun ys hy=>by rw [I.list_inj hy hq];exact hx⟩,st',fun b hb=>(hf b hb).1⟩⟩
 done:=by
  intro X hP hw hK hc i pins s σ H E I hf st hg
  subst hP hw hK
  obtain ⟨xs,hq,hx⟩:=hg
  obtain ⟨its,rv,p,hz⟩:=I.list hq
  obtain ⟨f0,f1,f2,f3,f4,f5⟩:=hf it (by simp)
  have hl:=rv.length
  exact wpAny_pyNext_list_end (I.ok.hd hc) st p.isList (by simp;omega) fun h' eb=>⟨rfl,I.turned (t':=s.toks) (fun b o hb e=>eb b o hb e) f0 f1 f3 f4 f5⟩
 self:=fun _ _ _ _ _ st h=>wpAny_pyIter_listiter st h
theorem qa3 {P:Program} {w:World} {K:PySem.W.Frag} {tg:Expr} (a it:Addr):Turn P w K tg (Itt K a) [it] it (fun i h=>h.IsTupleIter it a i) where
 mem:=by simp
 obj:=fun i h st b hb=>by
  have e:b=it:=by simpa using hb
  subst e
  obtain ⟨o,e,c,d⟩:=st
  exact ⟨o,e,fun v z=>by rw [d] at z;cases z⟩
 keep:=fun i h h' st k=>st.at fun o e=>k it (by simp) o e
 item:=by
  intro X hP hw hK hc i pins s σ H E I hf st hg
  subst hP hw hK
  obtain ⟨xs,x,hq,hx⟩:=hg
  obtain ⟨its,rv,p,hz⟩:=I.tuple hq
  obtain ⟨u,hu,ru⟩:=rv.get hx
  obtain ⟨f0,f1,f2,f3,f4,f5⟩:=hf it (by simp)
  refine wpAny_pyNext_tuple_item st (show s.heap.IsTuple a its.toArray from p) (x:=u) (by simpa using hu) fun h' st' sb=>?_
  have I1:Inv X pins σ H { s with heap:=h' }:=I.turned (t':=s.toks) (fun b o hb e=>(sb.2 b hb).trans e) f0 f1 f3 f4 f5
  obtain ⟨o,e,c,d⟩:=id st'
  exact ⟨u,rfl,qhc (s:={ s with heap:=h' }) e c d (by decide) ⟨x,H,I1,ru,⟨rfl,fun ys hy=>by rw [I.tuple_inj hy hq];exact hx⟩,st',fun b hb=>(hf b hb).1⟩⟩
 done:=by
  intro X hP hw hK hc i pins s σ H E I hf st hg
  subst hP hw hK
  obtain ⟨xs,hq,hx⟩:=hg
  obtain ⟨its,rv,p,hz⟩:=I.tuple hq
  obtain ⟨f0,f1,f2,f3,f4,f5⟩:=hf it (by simp)
  have hl:=rv.length
  exact wpAny_pyNext_tuple_end (I.ok.hd hc) st (show s.heap.IsTuple a its.toArray from p) (by simp;omega) fun h' eb=>⟨rfl,I.turned (t':=s.toks) (fun b o hb e=>eb b o hb e) f0 f1 f3 f4 f5⟩
 self:=fun _ _ _ _ _ st h=>wpAny_pyIter_tupleiter st h
theorem qbf {P:Program} {w:World} {K:PySem.W.Frag} {tg:Expr} (it:Addr) (lo:Int) (n:Nat):Turn P w K tg (Itr lo n) [it] it (fun i h=>IsRangeIter h it (lo+(i:Nat)*1) ((n:Int)-(i:Nat)) 1) where
 mem:=by simp
 obj:=fun i h st b hb=>by
  have e:b=it:=by simpa using hb
  subst e
  exact ⟨_,st,fun v z=>by
   have z':Data.fields _=Data.cell v:=z
   cases z'⟩
 keep:=fun i h h' st k=>k it (by simp) _ st
 item:=by
  intro X hP hw hK hc i pins s σ H E I hf st hg
  subst hP hw hK
  obtain ⟨f0,f1,f2,f3,f4,f5⟩:=hf it (by simp)
  have W:=Walks.range (prog:=X.prog) (w:=X.w) (I.ok.hd hc) it lo 1 n
  refine W.item i s _ _ hg st fun v h' tk hv st' kk=>?_
  obtain ⟨t,rfl⟩:=hv
  have I1:Inv X pins σ H { s with heap:=h',toks:=tk }:=I.turned (fun b o hb e=>kk b o (by simpa using hb) e) f0 f1 f3 f4 f5
  refine ⟨_,rfl,qhc (s:={ s with heap:=h',toks:=tk }) (n:="range_iterator") st' rfl rfl (by decide) ⟨.int (lo+i),H,I1,⟨t,?_⟩,⟨rfl,rfl⟩,st',fun b hb=>(hf b hb).1⟩⟩
  rw [Int.mul_one]
 done:=by
  intro X hP hw hK hc i pins s σ H E I hf st hg
  subst hP hw hK
  obtain ⟨f0,f1,f2,f3,f4,f5⟩:=hf it (by simp)
  exact wpAny_pyNext_range_end (I.ok.hd hc) st (by have:n<=i:=hg;omega) fun h' eb=>⟨rfl,I.turned (t':=s.toks) (fun b o hb e=>eb b o hb e) f0 f1 f3 f4 f5⟩
 self:=fun _ _ _ _ _ st h=>wpAny_pyIter_rangeiter st h
section
variable {X:Cx} {tg:Expr}
theorem qac {pins:List (Addr×Obj)} {σ:St} {H:Hp} {s:Shared} {R:It->Hp->Prop} {E:Value->Shared->Prop} {lo hi:Int} {t u v:Tok} {tk:Nat} (I:Inv X pins σ H s) (h1:-(2 ^ 62)<=lo) (h2:lo<2 ^ 62) (h3:-(2 ^ 62)<=hi) (h4:hi<2 ^ 62)
  (q:R (Itr lo (hi-lo).toNat) H):wpAny (model X.prog X.w) X.A (pyIter (.ref s.heap.objs.size)) (PIE X pins σ tg R) E { s with heap:=s.heap.push { cls:=.type "range",data:=.fields #[.int lo t,.int hi u,.int 1 v] },toks:=tk }:=by
 refine wpAny_pyIter_range (IsRange.new ..) (small_one h1 h2 h3 h4) ?_
 have I1:Inv X pins σ H { s with heap:=s.heap.push { cls:=.type "range",data:=.fields #[.int lo t,.int hi u,.int 1 v] },toks:=tk }:=I.kept fun b o e=>Heap.get?_push_of_some _ e
 refine ⟨(s.heap.push { cls:=.type "range",data:=.fields #[.int lo t,.int hi u,.int 1 v] }).objs.size,[(s.heap.push { cls:=.type "range",data:=.fields #[.int lo t,.int hi u,.int 1 v] }).objs.size],_,_,H,rfl,
  I1.kept (t':=tk) fun b o e=>Heap.get?_push_of_some _ e,qbf _ lo (hi-lo).toNat,?_,fun b hb=>?_,q⟩
 ·have e1:lo+((0:Nat):Int)*1=lo:=by simp
  have e2:(((hi-lo).toNat:Nat):Int)-((0:Nat):Int)=Builtin.Range.rangeSize lo hi 1:=by rw [rangeSize_one];split<;>omega
  show IsRangeIter _ _ (lo+((0:Nat):Int)*1) ((((hi-lo).toNat:Nat):Int)-((0:Nat):Int)) 1
  rw [e1,e2]
  exact Heap.get?_push_size _ rfl
 ·have e:b=(s.heap.push { cls:=.type "range",data:=.fields #[.int lo t,.int hi u,.int 1 v] }).objs.size:=by simpa using hb
  subst e
  exact I1.fpOk (Nat.le_refl _) (I1.hok.fresh (Nat.le_refl _))
def qpa (ta:TA):TI:=fun σ H R=>ta σ H fun vs H1=>∃ j:Int,vs=[.int j]/\-(2 ^ 62)<=j/\j<2 ^ 62/\R (Itr 0 j.toNat) H1
def qpy (ta:TA):TI:=fun σ H R=>ta σ H fun vs H1=>∃ i j:Int,vs=[.int i,.int j]/\(-(2 ^ 62)<=i/\i<2 ^ 62/\-(2 ^ 62)<=j/\j<2 ^ 62)/\R (Itr i (j-i).toNat) H1
theorem qbI {a:Expr} {ta:TA} {p pos:Pos} (hg:Gl X "range") (hm:X.mg "range" = none) (ha:PA X [a] ta) (hs:starEach [a] X.env=[(false,eval a X.env)]:=by rfl):PI X tg (.Call (.Name "range" p) [a] [] pos) (qpa ta):=by
 intro pins s σ H R I h
 refine Call_ (CF I hg hm boot_range (PyProof.Rows.callWith_type1 (thn (ha pos pins s σ H _ I h) fun us s1 ⟨vs,H1,I1,r1,q1⟩=>?_) hs rfl))
 obtain ⟨j,e,q1,q2,q⟩:=q1
 subst e
 cases r1 with
 |cons r rr=>
  cases rr
  obtain ⟨t,rfl⟩:=r
  exact call_range_1 (qac I1 (by omega) (by omega) q1 q2 (by simpa using q))
theorem qc7 {a b:Expr} {ta:TA} {p pos:Pos} (hg:Gl X "range") (hm:X.mg "range" = none) (ha:PA X [a,b] ta) (hs:starEach [a,b] X.env=[(false,eval a X.env),(false,eval b X.env)]:=by rfl) (hs2:starEach [b] X.env=[(false,eval b X.env)]:=by rfl) :
  PI X tg (.Call (.Name "range" p) [a,b] [] pos) (qpy ta):=by
 intro pins s σ H R I h
 refine Call_ (CF I hg hm boot_range (PyProof.Rows.callWith_type1 (thn (ha pos pins s σ H _ I h) fun us s1 ⟨vs,H1,I1,r1,q1⟩=>?_) (by rw [hs,hs2]) (by rw [hs2];rfl)))
 obtain ⟨i,j,e,⟨q1,q2,q3,q4⟩,q⟩:=q1
 subst e
 cases r1 with
 |cons r rr=>
  cases rr with
  |cons r' rr=>
   cases rr
   obtain ⟨t,rfl⟩:=r
   obtain ⟨t',rfl⟩:=r'
   exact call_range_2 (qac I1 q1 q2 q3 q4 q)
def qqI (wi:TI) (g:TG) (tb:TS):TS:=fun D σ H=>wi σ H fun J H1=>∃ W:Nat->Nat->St->Hp->Prop,(∃ m,W 0 m σ H1)/\∀ i m σ H,W i m σ H ->
 (J.stop i H/\D.nx σ H)\/(J.go i H/\∃ N:St->Hp->Prop,(∀ σ' H',N σ' H'->∃ m',m'<m/\W (i+1) m' σ' H')/\∀ x H',J.yld i H x H'->g x σ H' fun σ2 H2=>tb { D with nx:=N,ct:=N,bk:=D.nx } σ2 H2)
def XD (fp:List Addr) (h:Heap):List (Addr×Obj):=fp.filterMap fun b=>(h.get? b).map fun o=>(b,o)
theorem zR {fp:List Addr} {h:Heap} {b:Addr} {o:Obj} (hb:b∈fp) (e:h.get? b=some o):(b,o)∈XD fp h:=List.mem_filterMap.mpr ⟨b,hb,by rw [e];rfl⟩
theorem qde {fp:List Addr} {h:Heap} {p:Addr×Obj} (hp:p∈XD fp h):p.1∈fp/\h.get? p.1=some p.2:=by
 obtain ⟨b,hb,e⟩:=List.mem_filterMap.mp hp
 cases q:h.get? b with
 |none=>rw [q] at e;cases e
 |some o=>
  rw [q] at e
  have e':(b,o)=p:=Option.some.inj e
  subst e'
  exact ⟨hb,q⟩
theorem Inv.pinned {pins:List (Addr×Obj)} {σ:St} {H:Hp} {s:Shared} {fp:List Addr} (I:Inv X pins σ H s) (hf:∀ b∈fp,KP X pins H b) (ho:∀ b∈fp,∃ o,s.heap.get? b=some o/\∀ v,o.data≠.cell v):Inv X (pins++XD fp s.heap) σ H s:=
 I.pins_of fun p hp=>(List.mem_append.mp hp).elim (fun z=>I.pin p (mem_append_right _ z)) fun z=>by
  obtain ⟨hb,e⟩:=qde z
  obtain ⟨f0,f1,f2,_⟩:=hf p.1 hb
  obtain ⟨o,e',d⟩:=ho p.1 hb
  rw [e] at e';cases e'
  exact ⟨e,f0,f1,f2,d⟩
theorem Inv.unpinned {pins pl:List (Addr×Obj)} {σ:St} {H:Hp} {s:Shared} (I:Inv X (pins++pl) σ H s):Inv X pins σ H s:=I.pins_of fun p hp=>I.pin p (mem_append_right _ (List.mem_append_left _ hp))
theorem qmR {iter:Expr} {body:List Stmt} {wi:TI} {g:TG} {tb:TS} {pos:Pos} (hp:PassesOwn (model X.prog X.w) X.A X.env X.xe) (hc:X.calm=true) (hi:PI X tg iter wi) (hg:PG X tg g) (hb:PSs X body tb)
  (hs:∀ x,foldedSetIterable iter X.env x=pure x:=by intro _;rfl):PS X (.For tg iter body [] pos) (qqI wi g tb):=by
 intro pins s σ H D I h
 refine wpAny_For (thn (hi pins s σ H _ I h) fun v s1 h1=>thn h1 fun itv s2 h2=>?_) hs
 obtain ⟨it,fp,tn,J,H2,e,I2,T,st2,f2,W,⟨m0,w0⟩,turn⟩:=h2
 subst e
 -- what stays true of the iterator's objects through the loop
 have stat:∀ {H':Hp},(∀ b∈fp,H' b=none)->∀ b∈fp,KP X pins H' b:=fun hn b hb=>⟨hn b hb,(f2 b hb).2⟩
 refine codeAny_forLoop_any (fun n s'=>∃ i σ' H',Inv X pins σ' H' s'/\tn i s'.heap/\(∀ b∈fp,H' b=none)/\W i n σ' H') ?_ m0 ⟨0,σ,H2,I2,st2,fun b hb=>(f2 b hb).1,w0⟩
 rintro n s3 ⟨i,σ3,H3,I3,st3,fr3,w3⟩
 rcases turn i n σ3 H3 w3 with ⟨stop,qn⟩|⟨go,N,hN,step⟩
 ·refine wpAny_passesOwn hp (thn (T.done X rfl rfl rfl hc i pins s3 σ3 H3 X.xe I3 (stat fr3) st3 stop) fun r s4 ⟨hr,I4⟩=>?_)
  subst hr
  exact wpAny_execs_nil ⟨σ3,H3,I4,qn⟩
 ·refine wpAny_passesOwn hp (thn (T.item X rfl rfl rfl hc i pins s3 σ3 H3 X.xe I3 (stat fr3) st3 go) fun r s4 ⟨u,hr,h4⟩=>?_)
  subst hr
  refine wpAny_passesOwn hp (thn h4 fun _ s5 ⟨x,H5,I5,r5,y5,st5,fr5⟩=>?_)
  have I5':=I5.pinned (stat fr5) (T.obj _ _ st5)
  refine wpAny_passesOwn hp (thn (hg _ s5 σ3 H5 x u _ I5' r5 (step x H5 y5)) fun _ s6 ⟨σ6,H6,I6,q6⟩=>?_)
  refine wpAny_passesOwn hp (thn (hb _ s6 σ6 H6 _ I6 q6) fun f s7 q7=>?_)
  have again:∀ {σ7:St} {H7:Hp},Inv X (pins++XD fp s5.heap) σ7 H7 s7->N σ7 H7->∃ m,m<n/\∃ i σ' H',Inv X pins σ' H' s7/\tn i s7.heap/\(∀ b∈fp,H' b=none)/\W i m σ' H':=fun {σ7 H7} I7 n7=>by
   obtain ⟨m',hm,w7⟩:=hN σ7 H7 n7
   refine ⟨m',hm,i+1,σ7,H7,I7.unpinned,T.keep _ _ _ st5 fun b hb o e=>(I7.pin (b,o) (mem_append_right _ (mem_append_right _ (zR hb e)))).1,fun b hb=>?_,w7⟩
   obtain ⟨o,e,d⟩:=T.obj _ _ st5 b hb
   exact (I7.pin (b,o) (mem_append_right _ (mem_append_right _ (zR hb e)))).2.1
  cases f with
  |next=>obtain ⟨σ7,H7,I7,n7⟩:=q7;exact again I7 n7
  |cont=>obtain ⟨σ7,H7,I7,n7⟩:=q7;exact again I7 n7
  |brk=>obtain ⟨σ7,H7,I7,q7⟩:=q7;exact ⟨σ7,H7,I7.unpinned,q7⟩
  |ret v=>obtain ⟨x7,σ7,H7,I7,r7,q7⟩:=q7;exact ⟨x7,σ7,H7,I7.unpinned,r7,q7⟩
end
abbrev R2:=V->V->Hp->VK->Prop
def OpR (X:Cx) (f:Value->Value->Sem Value) (r:R2):Prop:=
 ∀ (pins:List (Addr×Obj)) (s:Shared) (σ:St) (H:Hp) (x y:V) (v u:Value) (Q:VK),Inv X pins σ H s->jO x v->jO y u->r x y H Q ->
  wpAny (model X.prog X.w) X.A (f v u) (EP X pins σ Q) X.xe s
def UnR (X:Cx) (f:Value->Sem Value) (r:V->Hp->VK->Prop):Prop:=
 ∀ (pins:List (Addr×Obj)) (s:Shared) (σ:St) (H:Hp) (x:V) (v:Value) (Q:VK),Inv X pins σ H s->jO x v->r x H Q ->
  wpAny (model X.prog X.w) X.A (f v) (EP X pins σ Q) X.xe s
def JN (X:Cx) (f:Value) (r:List V->Hp->VK->Prop):Prop:=
 ∀ (pins:List (Addr×Obj)) (s:Shared) (σ:St) (H:Hp) (xs:List V) (us:List Value) (Q:VK),Inv X pins σ H s->jk xs us->r xs H Q ->
  wpAny (model X.prog X.w) X.A (call f us) (EP X pins σ Q) X.xe s
def tOp (r:R2) (ta tb:TE):TE:=fun σ H Q=>ta σ H fun x H1=>tb σ H1 fun y H2=>r x y H2 Q
def tUn (r:V->Hp->VK->Prop) (ta:TE):TE:=fun σ H Q=>ta σ H fun x H1=>r x H1 Q
def rI (C:Int->Int->Prop) (g:Int->Int->V):R2:=fun x y H Q=>∃ i j,x=.int i/\y=.int j/\C i j/\Q (g i j) H
def rI0 (g:Int->Int->V):R2:=fun x y H Q=>∃ i j,x=.int i/\y=.int j/\Q (g i j) H
def rU (g:Int->V):V->Hp->VK->Prop:=fun x H Q=>∃ i,x=.int i/\Q (g i) H
section
variable {X:Cx} {a b c:Expr} {ta tb tc:TE} {pos:Pos}
theorem qom (ha:PE X a ta) (hb:PE X b tb) {pins:List (Addr×Obj)} {s:Shared} {σ:St} {H:Hp} {R:V->V->Hp->Prop} (I:Inv X pins σ H s)
  (h:ta σ H fun x H1=>tb σ H1 fun y H2=>R x y H2) {Q:Value->Shared->Prop} {f:Value->Value->Sem Value}
  (hf:∀ v u s2 x y H2,Inv X pins σ H2 s2->jO x v->jO y u->R x y H2->wpAny (model X.prog X.w) X.A (f v u) Q X.xe s2) :
  wpAny (model X.prog X.w) X.A (eval a X.env) (fun v s₁=>wpAny (model X.prog X.w) X.A (eval b X.env) (fun u s₂=>wpAny (model X.prog X.w) X.A (f v u) Q X.xe s₂) X.xe s₁) X.xe s:=by
 refine thn (ha pins s σ H _ I h) fun v s1 ⟨x,H1,I1,r1,q1⟩=>?_
 refine thn (hb pins s1 σ H1 _ I1 q1) fun u s2 ⟨y,H2,I2,r2,q2⟩=>?_
 exact hf v u s2 x y H2 I2 r1 r2 q2
theorem qok {op:Operator} {r:R2} (ho:OpR X (binaryOp op) r) (ha:PE X a ta) (hb:PE X b tb):PE X (.BinOp a op b pos) (tOp r ta tb):=by
 intro pins s σ H Q I h
 exact wpAny_BinOp (qom ha hb I h fun v u s2 x y H2 I2 rx ry q=>ho pins s2 σ H2 x y v u Q I2 rx ry q)
theorem qo6 {op:UnaryOp} {r:V->Hp->VK->Prop} (ho:UnR X (unaryOp op) r) (ha:PE X a ta):PE X (.UnaryOp op a pos) (tUn r ta):=by
 intro pins s σ H Q I h
 exact UnaryOp_ (thn (ha pins s σ H _ I h) fun v s1 ⟨x,H1,I1,r1,q1⟩=>ho pins s1 σ H1 x v Q I1 r1 q1)
theorem opI {f:Value->Value->Sem Value} {C:Int->Int->Prop} {g:Int->Int->Int}
  (rule:∀ (i j:Int) (t u:Tok) (s:Shared) (Q:Value->Shared->Prop) (E:Value->Shared->Prop),C i j->Q (.int (g i j) s.toks) { s with toks:=s.toks+1 }->wpAny (model X.prog X.w) X.A (f (.int i t) (.int j u)) Q E s) :
  OpR X f (rI C fun i j=>.int (g i j)):=by
 intro pins s σ H x y v u Q I rx ry h
 obtain ⟨i,j,rfl,rfl,hc,q⟩:=h
 obtain ⟨t,rfl⟩:=rx
 obtain ⟨t',rfl⟩:=ry
 exact rule i j t t' s _ _ hc ⟨.int (g i j),H,I.tok _,⟨_,rfl⟩,q⟩
theorem qon {f:Value->Value->Sem Value} {g:Int->Int->Int}
  (rule:∀ (i j:Int) (t u:Tok) (s:Shared) (Q:Value->Shared->Prop) (E:Value->Shared->Prop),Q (.int (g i j) s.toks) { s with toks:=s.toks+1 }->wpAny (model X.prog X.w) X.A (f (.int i t) (.int j u)) Q E s) :
  OpR X f (rI0 fun i j=>.int (g i j)):=by
 intro pins s σ H x y v u Q I rx ry h
 obtain ⟨i,j,rfl,rfl,q⟩:=h
 obtain ⟨t,rfl⟩:=rx
 obtain ⟨t',rfl⟩:=ry
 exact rule i j t t' s _ _ ⟨.int (g i j),H,I.tok _,⟨_,rfl⟩,q⟩
theorem qnR {f:Value->Value->Sem Value} {g:Int->Int->Bool}
  (rule:∀ (i j:Int) (t u:Tok) (s:Shared) (Q:Value->Shared->Prop) (E:Value->Shared->Prop),Q (.bool (g i j)) s->wpAny (model X.prog X.w) X.A (f (.int i t) (.int j u)) Q E s) :
  OpR X f (rI0 fun i j=>.bl (g i j)):=by
 intro pins s σ H x y v u Q I rx ry h
 obtain ⟨i,j,rfl,rfl,q⟩:=h
 obtain ⟨t,rfl⟩:=rx
 obtain ⟨t',rfl⟩:=ry
 exact rule i j t t' s _ _ ⟨.bl (g i j),H,I,rfl,q⟩
def qbs (i j:Int):Prop:=0<j/\j<1073741824
def qa7 (i j:Int):Prop:=0<=j/\j<=1000000/\i.natAbs<2 ^ 64
def ZF (i j:Int):Prop:=(-(2 ^ 64)<i/\i<2 ^ 64)\/(-(2 ^ 64)<j/\j<2 ^ 64)
theorem ZF.ok {i j:Int} (h:ZF i j):IntMulOk i j:=by
 rcases h with ⟨h1,h2⟩|⟨h1,h2⟩
 ·exact .of_left (intBits_le_64 h1 h2)
 ·exact .of_right (intBits_le_64 h1 h2)
theorem qaU (k:Nat):(0:Int)<=2 ^ k:=by
 rw [two_pow_cast]
 exact Int.natCast_nonneg _
theorem qm8:OpR X (binaryOp .Add) (rI0 fun i j=>.int (i+j)):=qon fun _ _ _ _ _ _ _ q=>add_int q
theorem qlm:OpR X (binaryOp .Sub) (rI0 fun i j=>.int (i-j)):=qon fun _ _ _ _ _ _ _ q=>sub_int q
theorem qm9:OpR X (binaryOp .Mult) (rI ZF fun i j=>.int (i*j)):=opI fun _ _ _ _ _ _ _ hc q=>mul_int q hc.ok
theorem qid:OpR X (binaryOp .FloorDiv) (rI qbs fun i j=>.int (i/j)):=opI fun i j _ _ _ _ _ hc q=>by
 have h1:(0:Int)<j:=hc.1
 have h2:j<1073741824:=hc.2
 exact floordiv_int (by omega) (by rw [Int.fdiv_eq_ediv_of_nonneg i (by omega)];exact q) (.inl (PyProof.noPylong_small (by omega)))
theorem qny:OpR X (binaryOp .Mod) (rI (fun _ j=>0<j) fun i j=>.int (i%j)):=opI fun i j _ _ _ _ _ hc q=>by
 have h1:(0:Int)<j:=hc
 exact mod_int' (by omega) (by rw [Int.fmod_eq_emod_of_nonneg i (by omega)];exact q)
theorem qkf:OpR X (binaryOp .Pow) (rI qa7 fun i j=>.int (i ^ j.toNat)):=opI fun _ _ _ _ _ _ _ hc q=>pow_int_small hc.1 hc.2.1 hc.2.2 q
theorem qja:OpR X (binaryOp .LShift) (rI qa7 fun i j=>.int (i*2 ^ j.toNat)):=opI fun _ _ _ _ _ _ _ hc q=>lshift_int_small hc.1 hc.2.1 hc.2.2 q
theorem qlz:OpR X (binaryOp .RShift) (rI (fun _ j=>0<=j) fun i j=>.int (i/2 ^ j.toNat)):=opI fun i j _ _ _ _ _ hc q=>
 rshift_int hc (by rw [Int.fdiv_eq_ediv_of_nonneg i (qaU _)];exact q)
theorem qlR:OpR X (binaryOp .BitAnd) (rI0 fun i j=>.int (Builtin.bitAnd i j)):=qon fun _ _ _ _ _ _ _ q=>and_int q
theorem unI {f:Value->Sem Value} {g:Int->Int}
  (rule:∀ (i:Int) (t:Tok) (s:Shared) (Q:Value->Shared->Prop) (E:Value->Shared->Prop),Q (.int (g i) s.toks) { s with toks:=s.toks+1 }->wpAny (model X.prog X.w) X.A (f (.int i t)) Q E s) :
  UnR X f (rU fun i=>.int (g i)):=by
 intro pins s σ H x v Q I rx h
 obtain ⟨i,rfl,q⟩:=h
 obtain ⟨t,rfl⟩:=rx
 exact rule i t s _ _ ⟨.int (g i),H,I.tok _,⟨_,rfl⟩,q⟩
theorem qne:UnR X (unaryOp .USub) (rU fun i=>.int (-i)):=unI fun _ _ _ _ _ q=>neg_int q
end
def qo3:V->V->Bool
 |.non,.non=>true|.non,.int _=>true|.int _,.non=>true|.non,.bl _=>true|.bl _,.non=>true|.non,.str _=>true|.str _,.non=>true
 |.int _,.int _=>true|.bl _,.bl _=>true|.str _,.str _=>true|.byt _,.byt _=>true
 |.int _,.str _=>true|.str _,.int _=>true|.bl _,.str _=>true|.str _,.bl _=>true
 |_,_=>false
def rEq:R2:=fun x y H Q=>qo3 x y=true/\Q (.bl (decide (x=y))) H
def rNe:R2:=fun x y H Q=>qo3 x y=true/\Q (.bl (!decide (x=y))) H
theorem qbG {i j:Int}:decide (V.int i=V.int j)=(i==j):=by
 rw [Bool.eq_iff_iff]
 simp
theorem qgK {i j:Bool}:decide (V.bl i=V.bl j)=(i==j):=by
 rw [Bool.eq_iff_iff]
 simp
theorem qb0 {i j:Str}:decide (V.str i=V.str j)=(i==j):=by
 rw [Bool.eq_iff_iff]
 simp
theorem qcv {i j:Array UInt8}:decide (V.byt i=V.byt j)=(i.toList==j.toList):=by
 rw [Bool.eq_iff_iff]
 cases i
 cases j
 simp
section
variable {X:Cx} {a b c:Expr} {ta tb tc:TE} {pos:Pos}
theorem zf {pins:List (Addr×Obj)} {σ:St} {H:Hp} {s:Shared} {Q:VK} {k k':Bool} (I:Inv X pins σ H s) (q:Q (.bl k) H) (e:k=k'):EP X pins σ Q (.bool k') s:=by
 subst e
 exact ⟨.bl k,H,I,rfl,q⟩
theorem qpS:OpR X (compareOp .Eq) rEq:=by
 intro pins s σ H x y v u Q I rx ry h
 obtain ⟨hs,q⟩:=h
 cases x with
 |non=>
  cases rx
  cases y with
  |non=>cases ry;exact PySem.EqNone.eq_none_none (zf I q (by simp))
  |bl j=>cases ry;exact PySem.EqNone.eq_none_bool (zf I q (by simp))
  |int j=>obtain ⟨t',rfl⟩:=ry;exact PySem.EqNone.eq_none_int (zf I q (by simp))
  |str j=>obtain ⟨t',rfl⟩:=ry;exact PySem.EqNone.eq_none_str (zf I q (by simp))
  |_=>exact absurd (show false=true from hs) Bool.false_ne_true
 |bl i=>
  cases rx
  cases y with
  |non=>cases ry;exact PySem.EqNone.eq_bool_none (zf I q (by simp))
  |bl j=>cases ry;exact eq_bool (zf I q qgK)
  |str j=>obtain ⟨t',rfl⟩:=ry;exact PySem.EqMixed.eq_bool_str (zf I q (by simp))
  |_=>exact absurd (show false=true from hs) Bool.false_ne_true
 |int i=>
  obtain ⟨t,rfl⟩:=rx
  cases y with
  |non=>cases ry;exact PySem.EqNone.eq_int_none (zf I q (by simp))
  |int j=>obtain ⟨t',rfl⟩:=ry;exact eq_int (zf I q qbG)
  |str j=>obtain ⟨t',rfl⟩:=ry;exact PySem.EqMixed.eq_int_str (zf I q (by simp))
  |_=>exact absurd (show false=true from hs) Bool.false_ne_true
 |str i=>
  obtain ⟨t,rfl⟩:=rx
  cases y with
  |non=>cases ry;exact PySem.EqNone.eq_str_none (zf I q (by simp))
  |bl j=>cases ry;exact PySem.EqMixed.eq_str_bool (zf I q (by simp))
  |int j=>obtain ⟨t',rfl⟩:=ry;exact PySem.EqMixed.eq_str_int (zf I q (by simp))
  |str j=>obtain ⟨t',rfl⟩:=ry;exact eq_str (zf I q qb0)
  |_=>exact absurd (show false=true from hs) Bool.false_ne_true
 |byt i=>
  obtain ⟨t,rfl⟩:=rx
  cases y with
  |byt j=>obtain ⟨t',rfl⟩:=ry;exact PySem.W.eq_bytes (zf I q qcv)
  |_=>exact absurd (show false=true from hs) Bool.false_ne_true
 |_=>cases y<;>exact absurd (show false=true from hs) Bool.false_ne_true
theorem qo7:OpR X (compareOp .NotEq) rNe:=by
 intro pins s σ H x y v u Q I rx ry h
 obtain ⟨hs,q⟩:=h
 cases x with
 |non=>
  cases rx
  cases y with
  |non=>cases ry;exact PySem.EqNone.ne_none_none (zf I q (by simp))
  |bl j=>cases ry;exact PySem.EqNone.ne_none_bool (zf I q (by simp))
  |int j=>obtain ⟨t',rfl⟩:=ry;exact PySem.EqNone.ne_none_int (zf I q (by simp))
  |str j=>obtain ⟨t',rfl⟩:=ry;exact PySem.EqNone.ne_none_str (zf I q (by simp))
  |_=>exact absurd (show false=true from hs) Bool.false_ne_true
 |bl i=>
  cases rx
  cases y with
  |non=>cases ry;exact PySem.EqNone.ne_bool_none (zf I q (by simp))
  |bl j=>cases ry;exact ne_bool (zf I q (congrArg not qgK))
  |str j=>obtain ⟨t',rfl⟩:=ry;exact PySem.EqMixed.ne_bool_str (zf I q (by simp))
  |_=>exact absurd (show false=true from hs) Bool.false_ne_true
 |int i=>
  obtain ⟨t,rfl⟩:=rx
  cases y with
  |non=>cases ry;exact PySem.EqNone.ne_int_none (zf I q (by simp))
  |int j=>obtain ⟨t',rfl⟩:=ry;exact ne_int (zf I q (congrArg not qbG))
  |str j=>obtain ⟨t',rfl⟩:=ry;exact PySem.EqMixed.ne_int_str (zf I q (by simp))
  |_=>exact absurd (show false=true from hs) Bool.false_ne_true
 |str i=>
  obtain ⟨t,rfl⟩:=rx
  cases y with
  |non=>cases ry;exact PySem.EqNone.ne_str_none (zf I q (by simp))
  |bl j=>cases ry;exact PySem.EqMixed.ne_str_bool (zf I q (by simp))
  |int j=>obtain ⟨t',rfl⟩:=ry;exact PySem.EqMixed.ne_str_int (zf I q (by simp))
  |str j=>obtain ⟨t',rfl⟩:=ry;exact ne_str (zf I q (congrArg not qb0))
  |_=>exact absurd (show false=true from hs) Bool.false_ne_true
 |byt i=>
  obtain ⟨t,rfl⟩:=rx
  cases y with
  |byt j=>obtain ⟨t',rfl⟩:=ry;exact PySem.W.ne_bytes (zf I q (congrArg not qcv))
  |_=>exact absurd (show false=true from hs) Bool.false_ne_true
 |_=>cases y<;>exact absurd (show false=true from hs) Bool.false_ne_true
theorem TV:OpR X (compareOp .Lt) (rI0 fun i j=>.bl (decide (i<j))):=qnR fun _ _ _ _ _ _ _ q=>lt_int q
theorem qhH:OpR X (compareOp .LtE) (rI0 fun i j=>.bl (decide (i<=j))):=qnR fun _ _ _ _ _ _ _ q=>le_int q
theorem qbr:OpR X (compareOp .Gt) (rI0 fun i j=>.bl (decide (j<i))):=qnR fun _ _ _ _ _ _ _ q=>gt_int q
theorem qj6:OpR X (compareOp .GtE) (rI0 fun i j=>.bl (decide (j<=i))):=qnR fun _ _ _ _ _ _ _ q=>ge_int q
theorem qbS:OpR X (compareOp .Is) (fun x y H Q=>y=.non/\Q (.bl (decide (x=.non))) H):=by
 intro pins s σ H x y v u Q I rx ry h
 obtain ⟨rfl,q⟩:=h
 cases ry
 refine is_none_gen (zf I q ?_)
 cases x<;>first
  | (cases rx;rfl)
  | (obtain ⟨t,rfl⟩:=rx;rfl)
theorem qg7:OpR X (compareOp .IsNot) (fun x y H Q=>y=.non/\Q (.bl (!decide (x=.non))) H):=by
 intro pins s σ H x y v u Q I rx ry h
 obtain ⟨rfl,q⟩:=h
 cases ry
 refine isnot_none_gen (zf I q ?_)
 cases x<;>first
  | (cases rx;rfl)
  | (obtain ⟨t,rfl⟩:=rx;rfl)
theorem OpR.or {f:Value->Value->Sem Value} {r r':R2} (h:OpR X f r) (h':OpR X f r'):OpR X f (fun x y H Q=>r x y H Q\/r' x y H Q):=by
 intro pins s σ H x y v u Q I rx ry q
 rcases q with q|q
 ·exact h pins s σ H x y v u Q I rx ry q
 ·exact h' pins s σ H x y v u Q I rx ry q
theorem qu (b:Expr) {op:CmpOp} (h:op≠.In:=by decide) (h2:op≠.NotIn:=by decide):behindInMarks op b=false:=by
 have e1:(op==CmpOp.In)=false:=by cases op<;>first|rfl|exact absurd rfl h
 have e2:(op==CmpOp.NotIn)=false:=by cases op<;>first|rfl|exact absurd rfl h2
 cases b<;>simp [behindInMarks,e1,e2]
theorem qiE {op:CmpOp} {r:R2} (ho:OpR X (compareOp op) r) (ha:PE X a ta) (hb:PE X b tb) (hm:behindInMarks op b=false):PE X (.Compare a [op] [b] pos) (tOp r ta tb):=by
 intro pins s σ H Q I h
 exact wpAny_Compare1 (qom ha hb I h fun v u s2 x y H2 I2 rx ry q=>ho pins s2 σ H2 x y v u Q I2 rx ry q) hm
def qmg (t:TE):TT:=fun σ H Q=>t σ H fun x H'=>∃ k,x=.bl k/\Q k H'
theorem qhK {op:CmpOp} {r:R2} (ho:OpR X (compareOp op) r) (ha:PE X a ta) (hb:PE X b tb) (hm:behindInMarks op b=false):PT X (.Compare a [op] [b] pos) (qmg (tOp r ta tb)):=by
 intro pins s σ H Q I h
 refine wpAny_isTrue_Compare1 (thn (ha pins s σ H _ I h) fun v s1 ⟨x,H1,I1,r1,q1⟩=>thn (hb pins s1 σ H1 _ I1 q1) fun u s2 ⟨y,H2,I2,r2,q2⟩=>
  thn (ho pins s2 σ H2 x y v u _ I2 r1 r2 q2) fun c s3 ⟨z,H3,I3,r3,k,e,q3⟩=>?_) hm
 subst e
 cases r3
 exact wpAny_truthy_bool ⟨H3,I3,q3⟩
def qfv (r r':R2) (ta tb tc:TE):TE:=fun σ H Q=>ta σ H fun x H1=>tb σ H1 fun y H2=>r x y H2 fun z H3=>∃ k,z=.bl k /\
 (if k=true then tc σ H3 fun w' H4=>r' y w' H4 Q else Q (.bl false) H3)
theorem qer {op op':CmpOp} {r r':R2} (ho:OpR X (compareOp op) r) (ho':OpR X (compareOp op') r') (ha:PE X a ta) (hb:PE X b tb) (hc:PE X c tc)
  (hm:lastMarks [op,op'] [b,c]=false:=by with_unfolding_all rfl):PE X (.Compare a [op,op'] [b,c] pos) (qfv r r' ta tb tc):=by
 intro pins s σ H Q I h
 refine Compare_chain (thn (ha pins s σ H _ I h) fun v s1 ⟨x,H1,I1,r1,q1⟩=>chain_link (thn (hb pins s1 σ H1 _ I1 q1) fun u s2 ⟨y,H2,I2,r2,q2⟩=>
  thn (ho pins s2 σ H2 x y v u _ I2 r1 r2 q2) fun d s3 ⟨z,H3,I3,r3,k,e,q3⟩=>?_)) hm
 subst e
 cases r3
 refine wpAny_truthy_bool ?_
 cases k with
 |false=>exact ite_ff ⟨.bl false,H3,I3,rfl,q3⟩
 |true=>exact ite_tt (chain_last (thn (hc pins s3 σ H3 _ I3 q3) fun w' s4 ⟨z',H4,I4,r4,q4⟩=>ho' pins s4 σ H4 y z' u w' Q I4 r2 r4 q4))
theorem LY:(sizeLine:Nat)<2 ^ 63:=by rw [sizeLine_eq];decide
theorem WA {x:V} {us:List Value} (r:jk [x] us):∃ u,us=[u]/\jO x u:=by
 cases r with
 |cons r1 r2=>cases r2;exact ⟨_,rfl,r1⟩
theorem qcb {x y:V} {us:List Value} (r:jk [x,y] us):∃ u w',us=[u,w']/\jO x u/\jO y w':=by
 cases r with
 |cons r1 r2=>
  cases r2 with
  |cons r3 r4=>cases r4;exact ⟨_,_,rfl,r1,r3⟩
theorem qaf:JN X (.builtin "abs") (fun xs H Q=>∃ i,xs=[.int i]/\Q (.int (if i<0 then -i else i)) H):=by
 intro pins s σ H xs us Q I r h
 obtain ⟨i,rfl,q⟩:=h
 obtain ⟨u,rfl,t,rfl⟩:=WA r
 exact call_abs_int fun u tk=>⟨.int (if i<0 then -i else i),H,I.tok _,⟨_,rfl⟩,q⟩
theorem qc9 (hc:X.calm=true):JN X (.builtin "min") (fun xs H Q=>∃ i j,xs=[.int i,.int j]/\Q (.int (if j<i then j else i)) H):=by
 intro pins s σ H xs us Q I r h
 obtain ⟨i,j,rfl,q⟩:=h
 obtain ⟨u,w',rfl,⟨t,rfl⟩,⟨t',rfl⟩⟩:=qcb r
 refine min_two_ints (I.ok.hd hc) fun h' tk k=>⟨_,H,I.kept k,?_,q⟩
 by_cases hj:j<i
 ·rw [if_pos hj,if_pos hj];exact ⟨_,rfl⟩
 ·rw [if_neg hj,if_neg hj];exact ⟨_,rfl⟩
theorem CV:JN X (.type "int") (fun xs H Q=>(∃ i,xs=[.int i]/\Q (.int i) H)\/∃ k,xs=[.bl k]/\Q (.int (if k then 1 else 0)) H):=by
 intro pins s σ H xs us Q I r h
 rcases h with ⟨i,rfl,q⟩|⟨k,rfl,q⟩
 ·obtain ⟨u,rfl,t,rfl⟩:=WA r
  exact call_int_int ⟨.int i,H,I,⟨_,rfl⟩,q⟩
 ·obtain ⟨u,rfl,r1⟩:=WA r
  cases r1
  exact call_int_bool ⟨.int (if k then 1 else 0),H,I.tok _,⟨_,rfl⟩,q⟩
def qqn (K:PySem.W.Frag) (x:V) (H:Hp) (n:Nat):Prop:=
 match x with
 |.str y=>y.length<=sizeLine/\n=y.length
 |.byt y=>y.size<=sizeLine/\n=y.size
 |.ref p=>(∃ xs,SqL K H p xs/\n=xs.length)\/∃ xs,SqT K H p xs/\n=xs.length
 |_=>False
theorem zp:JN X (.builtin "len") (fun xs H Q=>∃ x n,xs=[x]/\qqn X.K x H n/\Q (.int n) H):=by
 intro pins s σ H xs us Q I r h
 obtain ⟨x,n,rfl,e,q⟩:=h
 obtain ⟨u,rfl,rx⟩:=WA r
 have hl:=LY
 have hs:sizeLine=16777216:=sizeLine_eq
 cases x with
 |str y=>
  obtain ⟨t,rfl⟩:=rx
  obtain ⟨hy,e'⟩:y.length<=sizeLine/\n=y.length:=e
  subst e'
  exact len_str (by omega) ⟨.int _,H,I.tok _,⟨_,rfl⟩,q⟩
 |byt y=>
  obtain ⟨t,rfl⟩:=rx
  obtain ⟨hy,e'⟩:y.size<=sizeLine/\n=y.size:=e
  subst e'
  exact PySem.W.len_bytes (by omega) ⟨.int _,H,I.tok _,⟨_,rfl⟩,q⟩
 |ref p=>
  cases rx
  have e':(∃ xs,SqL X.K H p xs/\n=xs.length)\/∃ xs,SqT X.K H p xs/\n=xs.length:=e
  rcases e' with ⟨xs,hx,e'⟩|⟨xs,hx,e'⟩
  ·subst e'
   obtain ⟨its,r',pl,hz⟩:=I.list hx
   have hlen:=r'.length
   exact Calls.call_len_list pl.isList (by simp only [size_toArray];omega) ⟨.int xs.length,H,I.tok _,⟨_,by simp only [size_toArray];rw [hlen]⟩,q⟩
  ·subst e'
   obtain ⟨its,r',pl,hz⟩:=I.tuple hx
   have hlen:=r'.length
   exact len_tuple pl (by simp only [size_toArray];omega) ⟨.int xs.length,H,I.tok _,⟨_,by simp only [size_toArray];rw [hlen]⟩,q⟩
 |_=>exact (show False from e).elim
end
section
variable {prog:Program} {w:World} {A:Around} {E:Value->Shared->Prop} {s:Shared} {K:PySem.W.Frag} {x dx C f:Addr} {mA:Str->Option Value} {name:Str} {v:Value}
end
section
variable {P:Program} {w:World} {H H':Hp} {h h':Heap} {a C dx:Addr} {fs fs':List (Str×V)}
end
section
variable {X:Cx} {pins:List (Addr×Obj)} {σ:St} {H:Hp} {s:Shared} {a C dx:Addr} {fs:List (Str×V)} {f:Str} {v:V} {A:Around} {E:Value->Shared->Prop}
end
section
variable {X:Cx} {o e value:Expr} {f:Str} {pos pos' tpos:Pos} {ta tv:TE}
end
section
variable {X:Cx} {pins:List (Addr×Obj)} {σ:St} {H:Hp} {s:Shared} {A:Around} {E:Value->Shared->Prop} {Q:Value->Shared->Prop} {c:Value} {b:Bool}
end
structure Room (k:Nat) (A:Around):Prop where
 hd:A.handled=none
 dp:A.depth+3*k+5<recursionLimit
 un:A.units+16*k+200<cLine
 gd:A.guards=some []
theorem Room.mono {j k:Nat} {A:Around} (r:Room k A) (h:j<=k):Room j A:=⟨r.hd,by have:=r.dp;omega,by have:=r.un;omega,r.gd⟩
theorem Room.deeper {k:Nat} {A:Around} (r:Room (k+1) A) (env:Env):Room k (A.deeper env):=
 ⟨r.hd,by have:=r.dp;show A.depth+1+3*k+5<_;omega,by have:=r.un;show A.units+3+16*k+200<_;omega,r.gd⟩
theorem Room.in1 {k:Nat} {A:Around} (r:Room (k+1) A):Room k A.in1:=
 ⟨r.hd,by have:=r.dp;show A.depth+3*k+5<_;omega,by have:=r.un;show A.units+1+16*k+200<_;omega,r.gd⟩
theorem Room.depth {k:Nat} {A:Around} (r:Room k A):A.depth<recursionLimit:=by have:=r.dp;omega
theorem Room.units {k:Nat} {A:Around} (r:Room k A):A.units+64<cLine:=by have:=r.un;omega
def qqZ:TA:=fun _ H Q=>Q [] H
def qoL (ta:TE) (tr:TA):TA:=fun σ H Q=>ta σ H fun x H1=>tr σ H1 fun xs H2=>Q (x::xs) H2
section
variable {X:Cx} {e:Expr} {es:List Expr} {te:TE} {t:TA} {pos:Pos}
theorem SY:PA X [] qqZ:=fun _ _ _ _ H Q I h=>Calls.spliced_nil ⟨[],H,I,.nil,h⟩
theorem YK (ha:PE X e te) (hr:PA X es t) (hs:starEach (e::es) X.env=(false,eval e X.env)::starEach es X.env:=by rfl):PA X (e::es) (qoL te t):=by
 intro pos pins s σ H Q I h
 rw [hs]
 show wpAny _ _ (spliced ((false,eval e X.env)::backTo pos (starEach es X.env))) _ _ s
 refine Calls.spliced_cons (thn (ha pins s σ H _ I h) fun u s1 ⟨x,H1,I1,r1,q1⟩=>?_)
 exact thn (hr pos pins s1 σ H1 _ I1 q1) fun us s2 ⟨xs,H2,I2,r2,q2⟩=>⟨x::xs,H2,I2,.cons r1 r2,q2⟩
def qra (t:TA):TE:=fun σ H Q=>t σ H fun xs H1=>xs.length<=sizeLine/\∀ p,H1 p=none->Q (.ref p) (upd H1 p (.tup xs))
def qrc (t:TA):TE:=fun σ H Q=>t σ H fun xs H1=>xs.length<=sizeLine/\∀ p,H1 p=none->Q (.ref p) (upd H1 p (.lst xs))
theorem qfR {x1} (h:PA X es t):PE X (.Tuple es x1 pos) (qra t):=by
 intro pins s σ H Q I hq
 refine wpAny_Tuple_spliced (thn (h pos pins s σ H _ I hq) fun us s1 ⟨xs,H1,I1,r,z,q⟩=>⟨by rw [← r.length];exact z,?_⟩)
 have hf:H1 s1.heap.objs.size=none:=I1.hok.fresh (Nat.le_refl _)
 refine ⟨.ref s1.heap.objs.size,upd H1 s1.heap.objs.size (.tup xs),I1.laid (t':=s1.toks) (fun b u e=>Heap.get?_push_of_some _ e) (Nat.le_refl _) ?_,rfl,q _ hf⟩
 exact ⟨z,us,r,⟨_,Heap.get?_push_size _ rfl,rfl,_,rfl⟩⟩
theorem qmT (h:PA X es t):PE X (.List es pos) (qrc t):=by
 intro pins s σ H Q I hq
 refine wpAny_List_spliced (thn (h pos pins s σ H _ I hq) fun us s1 ⟨xs,H1,I1,r,z,q⟩=>⟨by rw [← r.length];exact z,?_⟩)
 have hf:H1 s1.heap.objs.size=none:=I1.hok.fresh (Nat.le_refl _)
 refine ⟨.ref s1.heap.objs.size,upd H1 s1.heap.objs.size (.lst xs),I1.laid (t':=s1.toks) (fun b u e=>Heap.get?_push_of_some _ e) (Nat.le_refl _) ?_,rfl,q _ hf⟩
 exact ⟨z,us,0,r,Heap.get?_push_size _ rfl⟩
end
abbrev Sp:=List V->Hp->VK->XK->Prop
abbrev CXT:=List Env->Hp->Shared->XK->Value->Shared->Prop
structure Env0 (P:Program) (w:World) (K:PySem.W.Frag) (mg:Str->Option Value) (base:Heap) (A:Around) (outer:List Env) (s:Shared) (H:Hp):Prop where
 frames:A.frames=some outer
 mod:Mod K mg base
 bs:∀ b o,base.get? b=some o->s.heap.get? b=some o/\H b=none
 bsz:base.objs.size<=s.heap.objs.size
 funs:s.heap.FunFrames base outer
 frf:∀ b∈frs outer,H b=none
 hok:HOk P w H s.heap
 bare:AllBare s.gens
def CE (outer:List Env) (P:Program) (w:World) (H:Hp) (s:Shared) (Q:VK) (u:Value) (s':Shared):Prop:=
 ∃ v H',s'.os=s.os/\AllBare s'.gens/\Un (frs outer) [] H H' s.heap s'.heap/\HOk P w H' s'.heap/\jO v u/\Q v H'
def CR (CX:CXT) (outer:List Env) (P:Program) (w:World) (H:Hp) (s:Shared) (Q:VK) (E:XK) (r:Result) (s':Shared):Prop:=
 match r with
 |.ok (.ret u)=>CE outer P w H s Q u s'
 |.ok _=>False
 |.error e=>CX outer H s E e s'
structure FnOk (P:Program) (w:World) (K:PySem.W.Frag) (mg:Str->Option Value) (base:Heap) (CX:CXT) (k:Nat) (f:Addr) (fd:FuncData) (ps:List Str) (sp:Sp):Prop where
 len:∀ vs H Q E,sp vs H Q E->vs.length=ps.length
 run:∀ (A:Around) (outer:List Env) (s:Shared) (H:Hp) (args:Args) (us:List Value) (vs:List V) (Q:VK) (E:XK),Room k A->Env0 P w K mg base A outer s H->BindsTo s fd args (ps.zip us)->jk vs us->sp vs H Q E ->
  codeAny (model P w) A (.call (.ref f) args) (CR CX outer P w H s Q E) s
theorem FnOk.mono {P:Program} {w:World} {K:PySem.W.Frag} {mg:Str->Option Value} {base:Heap} {CX:CXT} {j k:Nat} {f:Addr} {fd:FuncData} {ps:List Str} {sp:Sp} (F:FnOk P w K mg base CX j f fd ps sp) (h:j<=k) :
  FnOk P w K mg base CX k f fd ps sp:=⟨F.len,fun A outer s H args us vs Q E hr=>F.run A outer s H args us vs Q E (hr.mono h)⟩
theorem Env0.in1 {P:Program} {w:World} {K:PySem.W.Frag} {mg:Str->Option Value} {base:Heap} {A:Around} {outer:List Env} {s:Shared} {H:Hp} (e:Env0 P w K mg base A outer s H) :
  Env0 P w K mg base A.in1 outer s H:=⟨e.frames,e.mod,e.bs,e.bsz,e.funs,e.frf,e.hok,e.bare⟩
section
variable {X:Cx} {pins:List (Addr×Obj)} {σ:St} {H:Hp} {s s':Shared}
theorem Inv.env0 (I:Inv X pins σ H s):Env0 X.prog X.w X.K X.mg X.base X.A X.stack s H:=
 ⟨I.ok.frames,I.ok.mod,I.bs,Nat.le_trans I.ok.bsz I.sz,I.stack,I.stkFree,I.hok,I.bare⟩
theorem Inv.after {Q:VK} {u:Value} (I:Inv X pins σ H s) (h:CE X.stack X.prog X.w H s Q u s'):EP X pins σ Q u s':=by
 obtain ⟨v,H',os,bare,un,hok,r,q⟩:=h
 obtain ⟨hh,g,d,t,os'⟩:=s'
 obtain rfl:os'=s.os:=os
 exact ⟨v,H',I.call (h':=hh) (g':=g) (d':=d) (t':=t) (ch:=[]) un hok bare (fun b z=>absurd z (by simp)),r,q⟩
end
def qoz (sp:Sp) (dvs:List V) (E:XK) (t:TA):TE:=fun σ H Q=>t σ H fun vs H1=>sp (vs++dvs) H1 Q E
def zd (K:PySem.W.Frag) (fd:FuncData) (ps:List Str) (ds:List Value):Prop:=
 ∀ (s:Shared) (us:List Value),K.In s.heap->(us++ds).length=ps.length->BindsTo s fd ⟨us,[]⟩ (ps.zip (us++ds))
theorem zd.all {K:PySem.W.Frag} {fd:FuncData} {ps:List Str} (h:∀ us:List Value,us.length=ps.length->bindArgs fd ⟨us,[]⟩=pure (ps.zip us)):zd K fd ps []:=fun s us _ hl=>by
 rw [List.append_nil] at hl ⊢
 exact .of_eq (h us hl)
def qbx (CX:CXT) (X:Cx) (E:XK):Prop:=∀ (pins:List (Addr×Obj)) (σ:St) (H:Hp) (s:Shared) (e:Value) (s':Shared),Inv X pins σ H s->CX X.stack H s E e s'->X.xe e s'
section
variable {X:Cx} {CX:CXT} {k:Nat} {f C:Addr} {fd:FuncData} {ps:List Str} {sp:Sp} {dvs:List V} {ds:List Value} {E:XK} {x m:Str} {p pos apos:Pos} {e o:Expr} {es:List Expr} {ta:TE} {t:TA}
theorem qlW {pins:List (Addr×Obj)} {σ:St} {H:Hp} {s:Shared} {Q:VK} {us:List Value} {vs:List V} (F:FnOk X.prog X.w X.K X.mg X.base CX k f fd ps sp) (hr:Room k X.A) (hb:zd X.K fd ps ds) (hd:jk dvs ds) (hx:qbx CX X E)
  (I:Inv X pins σ H s) (r:jk vs us) (h:sp (vs++dvs) H Q E):wpAny (model X.prog X.w) X.A (call (.ref f) us) (EP X pins σ Q) X.xe s:=by
 have r2:jk (vs++dvs) (us++ds):=r.append hd
 have hl:(us++ds).length=ps.length:=by rw [← r2.length];exact F.len _ _ _ _ h
 refine wpAny_call (codeAny_mono (F.run X.A X.stack s H ⟨us,[]⟩ (us++ds) (vs++dvs) Q E hr I.env0 (hb s us I.kIn hl) r2 h) fun r s' hq=>?_)
 cases r with
 |error e=>exact hx pins σ H s e s' I hq
 |ok fl=>
  cases fl with
  |ret u=>exact I.after hq
  |next=>exact False.elim hq
  |brk=>exact False.elim hq
  |cont=>exact False.elim hq
theorem qhE (F:FnOk X.prog X.w X.K X.mg X.base CX k f fd ps sp) (hr:Room k X.A) (hg:Gl X x) (hm:X.mg x=some (.ref f)) (hk:PySem.W.keepIn X.K (.ref f)=true) (hb:zd X.K fd ps ds) (hd:jk dvs ds) (hx:qbx CX X E)
  (ha:PA X (e::es) t) (hdb:(x==("__debug__" : Str))=false:=by decide) (he:starEach (e::es) X.env=(false,eval e X.env)::starEach es X.env:=by rfl) (hpl:(backTo pos (starEach es X.env)).any (·.1)=false:=by rfl) :
  PE X (.Call (.Name x p) (e::es) [] pos) (qoz sp dvs E t):=by
 intro pins s σ H Q I h
 refine wpAny_Call_Name_kw (qb1 I hg hm ?_ hdb)
 refine PySem.W.callWith_K (h₀:=X.base) I.ok.mod.kin hk (thn (ha pos pins s σ H _ I h) fun us s1 ⟨vs,H1,I1,r,q⟩=>⟨I1.kIn,?_⟩) he hpl
 exact qlW F hr hb hd hx I1 r q
end
section
variable {X:Cx} {CX:CXT} {k:Nat} {f C:Addr} {fd:FuncData} {ps ks:List Str} {sp:Sp} {E:XK} {x m:Str} {p pos apos kpos:Pos} {e o:Expr} {es:List Expr} {kws:List Keyword} {te ta:TE} {t tk:TA} {nm:Option Str}
variable {g:List Value->List Value->List Value} {gV:List V->List V->List V}
end
structure FnScope (N P:List Str) (sc:Scope):Prop where
 kind:sc.kind=.function
 co:sc.isCoroutine=false
 gen:sc.isGenerator=false
 nd:N.Nodup
 pre:N.take P.length=P
 par:∀ x∈P,sc.names.lookup x=some .local\/sc.names.lookup x=some .cell
 nofree:∀ y∈sc.names,y.2≠.free
theorem KM {kindOf:Str->Option NameKind} {x:Str}:∀ {binds:List (Str×Value)} {m:Str->Option Value},(∀ v,(x,v)∉binds)->bindL kindOf binds m x=m x
 |[],_,_=>rfl
 | (n,v)::r,m,h=>by
  unfold bindL
  rw [KM fun w hw=>h w (List.mem_cons_of_mem _ hw)]
  split
  ·have:x≠n:=by rintro rfl;exact h v List.mem_cons_self
   simp [this]
  ·rfl
theorem K8 {kindOf:Str->Option NameKind} {x:Str}:∀ {binds:List (Str×Value)} {m:Str->Option Value},(∀ v,(x,v)∉binds)->bindC kindOf binds m x=m x
 |[],_,_=>rfl
 | (n,v)::r,m,h=>by
  unfold bindC
  rw [K8 fun w hw=>h w (List.mem_cons_of_mem _ hw)]
  split
  ·rfl
  ·have:x≠n:=by rintro rfl;exact h v List.mem_cons_self
   simp [this]
theorem LJ {kindOf:Str->Option NameKind} {x:Str} {v:Value}:∀ {P:List Str} {vs:List Value} {i:Nat} {m:Str->Option Value},P.Nodup->P[i]?=some x->vs[i]?=some v->kindOf x=some .local ->
  bindL kindOf (P.zip vs) m x=some v
 |[],_,_,_,_,h,_,_=>by simp at h
 |_::_,[],_,_,_,_,h,_=>by simp at h
 |p::P,w::vs,0,m,nd,h1,h2,hk=>by
  simp at h1 h2;subst h1;subst h2
  show bindL kindOf ((p,w)::P.zip vs) m p=_
  unfold bindL
  rw [KM fun v hv=>(List.nodup_cons.mp nd).1 (List.of_mem_zip hv).1,if_pos hk]
  simp
 |p::P,w::vs,i+1,m,nd,h1,h2,hk=>by
  show bindL kindOf ((p,w)::P.zip vs) m x=_
  unfold bindL
  exact LJ (i:=i) (List.nodup_cons.mp nd).2 (by simpa using h1) (by simpa using h2) hk
theorem K2 {kindOf:Str->Option NameKind} {x:Str} {v:Value}:∀ {P:List Str} {vs:List Value} {i:Nat} {m:Str->Option Value},P.Nodup->P[i]?=some x->vs[i]?=some v->kindOf x≠some .local ->
  bindC kindOf (P.zip vs) m x=some v
 |[],_,_,_,_,h,_,_=>by simp at h
 |_::_,[],_,_,_,_,h,_=>by simp at h
 |p::P,w::vs,0,m,nd,h1,h2,hk=>by
  simp at h1 h2;subst h1;subst h2
  show bindC kindOf ((p,w)::P.zip vs) m p=_
  unfold bindC
  rw [K8 fun v hv=>(List.nodup_cons.mp nd).1 (List.of_mem_zip hv).1,if_neg hk]
  simp
 |p::P,w::vs,i+1,m,nd,h1,h2,hk=>by
  show bindC kindOf ((p,w)::P.zip vs) m x=_
  unfold bindC
  exact K2 (i:=i) (List.nodup_cons.mp nd).2 (by simpa using h1) (by simpa using h2) hk
def RD (N:List Str) (vs:List V):St:=vs.map some++List.replicate (N.length-vs.length) none
def qdC (CX:CXT) (P:Program) (w:World) (K:PySem.W.Frag) (mg:Str->Option Value) (base:Heap) (N:List Str) (qual:Str) (scope:Scope) (f:Addr) (cd:Value) (A:Around) (outer:List Env) (s:Shared) (H:Hp) (E:XK):Cx where
 prog:=P
 w:=w
 K:=K
 mg:=mg
 base:=base
 A:=A.deeper (envOfC qual scope s.heap.objs.size f cd)
 N:=N
 s₀:=s
 H₀:=H
 env:=envOfC qual scope s.heap.objs.size f cd
 outer:=outer
 stack:=envOfC qual scope s.heap.objs.size f cd::outer
 ex:=[]
 calm:=true
 fn:=fun _=>true
 pn:=[]
 xe:=fun e s'=>wpAny (model P w) (A.deeper (envOfC qual scope s.heap.objs.size f cd)) (leaving (envOfC qual scope s.heap.objs.size f cd) e) (fun _ s''=>CX outer H s E e s'') (fun e' s''=>CX outer H s E e' s'') s'
theorem qat {sc:Scope} {n:Nat} {x:Str} (h:sc.names.lookup x=some .cell):∃ c,(cellsFrom n sc.names []).lookup x=some c:=by
 have q:=PySem.W.cellsFrom_some sc.names n [] (.inl h)
 exact Option.isSome_iff_exists.mp q
theorem qb4 {CX:CXT} {P:Program} {w:World} {K:PySem.W.Frag} {mg:Str->Option Value} {base:Heap} {N ps:List Str} {qual:Str} {scope:Scope} {f:Addr} {cd:Value} {A:Around} {outer:List Env} {s s1:Shared} {H:Hp} {E:XK} {us:List Value} {vs:List V}
  (S:FnScope N ps scope) (hd:A.handled=none) (e0:Env0 P w K mg base A outer s H) (hl:vs.length=ps.length) (r:jk vs us)
  (x:InCallC s s.heap.objs.size (bindL (envOfC qual scope s.heap.objs.size f cd).kindOf (ps.zip us) fun _=>none) (cellsFrom (s.heap.objs.size+1) scope.names []) (bindC (envOfC qual scope s.heap.objs.size f cd).kindOf (ps.zip us) fun _=>none) s1) :
  Inv (qdC CX P w K mg base N qual scope f cd A outer s H E) [] (RD N vs) H s1:=by
 have hpl:ps.length<=N.length:=by have:=congrArg List.length S.pre;rw [List.length_take] at this;omega
 obtain ⟨h1,tk,rfl,hk⟩:=x.done
 have noA:∀ b:Addr,b∉(qdC CX P w K mg base N qual scope f cd A outer s H E).ex:=fun b z=>absurd (show b∈([]:List Addr) from z) (by simp)
 refine ⟨⟨e0.mod,S.kind,rfl,rfl,Nat.le_refl _,fun y z c h1 h2=>?_,fun y hy=>?_,fun y c _ h=>?_,fun _=>hd,Around.frames_deeper e0.frames,.inr ⟨rfl,rfl⟩,fun b z=>absurd z (noA b),e0.bs,e0.bsz,fun b _ _=>noA b,fun b z=>absurd z (noA b),e0.funs,e0.frf⟩,
  rfl,e0.bare,Un.kept hk,⟨_,x.toInCall.ns,fun i y v h1 h2 h3=>?_⟩,fun y c h=>⟨_,x.cell y c h⟩,e0.hok.fresh (Nat.le_refl _),fun y c h=>?_,fun p hp=>absurd (show p∈([]:List (Addr×Obj)) from hp) (by simp),e0.hok.kept hk,?_⟩
 ·exact name_of_addr x.apart (PySem.mem_of_lookup h1) (PySem.mem_of_lookup h2)
 ·have hy:scope.names.lookup y=some .cell\/scope.names.lookup y=some .free:=hy
  rcases hy with hy|hy
  ·exact qat hy
  ·exact absurd rfl (S.nofree _ (PySem.mem_of_lookup hy))
 ·exact Nat.le_of_lt (x.above y c (PySem.mem_of_lookup h))
 ·have hi:i<vs.length:=by
   unfold RD at h2
   by_cases hi:i<vs.length
   ·exact hi
   ·rw [List.getElem?_append_right (by simpa using hi)] at h2
    rw [List.getElem?_replicate] at h2
    split at h2<;>cases h2
  have ha:vs[i]?=some v:=by
   unfold RD at h2
   rw [List.getElem?_append_left (by simpa using hi),getElem?_map] at h2
   cases e:vs[i]? with
   |none=>rw [e] at h2;cases h2
   |some a=>rw [e] at h2;cases h2;rfl
  obtain ⟨u,hu,rv⟩:=r.get ha
  have hp:ps[i]?=some y:=by
   rw [← S.pre,List.getElem?_take_of_lt (by omega)];exact h1
  have ndP:ps.Nodup:=by rw [← S.pre];exact S.nd.sublist (List.take_sublist _ _)
  refine ⟨u,rv,?_⟩
  rcases S.par y (mem_of_getElem? hp) with k|k
  ·exact .inl ⟨k,LJ ndP hp hu k⟩
  ·obtain ⟨c,e⟩:=qat (n:=s.heap.objs.size+1) k
   refine .inr ⟨.inl k,c,e,?_⟩
   have q:=x.cell y c e
   rw [K2 ndP hp hu (by show scope.names.lookup y≠_;rw [k];decide)] at q
   exact q
 ·exact e0.hok.fresh (Nat.le_of_lt (x.above y c (PySem.mem_of_lookup h)))
 ·unfold RD
  show _=N.length
  rw [length_append,length_map,List.length_replicate]
  omega
theorem qpw {CX:CXT} {P:Program} {w:World} {K:PySem.W.Frag} {mg:Str->Option Value} {base:Heap} {k:Nat} {f:Addr} {name qual:Str} {params:Arguments} {body:List Stmt} {scope:Scope} {dV kV doc pm cdv ct oc:Value} {an od:Option Addr}
  {osl:Array (Option Value)} {N ps:List Str} {sp:Sp} (lk:K.lookup f=some ⟨oc,od,.func (PySem.W.fnOf name qual params body scope dV kV doc pm an cdv ct),osl⟩) (hcd:PySem.W.codeIn K cdv qual=true) (S:FnScope N ps scope)
  (len:∀ vs H Q E,sp vs H Q E->vs.length=ps.length)
  (hbody:∀ (A:Around) (outer:List Env) (s:Shared) (H:Hp) (vs:List V) (Q:VK) (E:XK),Room k (A.deeper (envOfC qual scope s.heap.objs.size f cdv))->sp vs H Q E ->
   ∃ t,PSs (qdC CX P w K mg base N qual scope f cdv A outer s H E) body t/\t { nx:=fun _ H'=>Q .non H',rt:=Q } (RD N vs) H) :
  FnOk P w K mg base CX (k+1) f (PySem.W.fnOf name qual params body scope dV kV doc pm an cdv ct) ps sp:=by
 refine ⟨len,fun A outer s H args us vs Q E hr e0 hb r hsp=>?_⟩
 have hl:=len _ _ _ _ hsp
 have KX:K.In s.heap:=e0.mod.kin.keeps fun b o e=>(e0.bs b o e).1
 have lim:s.heap.NoLimit:=e0.mod.nolimit.keeps fun b o e=>(e0.bs b o e).1
 have hkind:∀ y∈ps.zip us,scope.names.lookup y.1=some .local\/(scope.names.lookup y.1=some .cell/\((cellsFrom (s.heap.objs.size+1) scope.names []).lookup y.1).isSome=true):=fun ⟨n,v⟩ hy=>by
  rcases S.par n (List.of_mem_zip hy).1 with q|q
  ·exact .inl q
  ·exact .inr ⟨q,PySem.W.cellsFrom_some _ _ _ (.inl q)⟩
 refine codeAny_call_function hr.depth (KX _ _ lk) rfl S.co S.gen rfl (PySem.W.codeRec_of KX hcd) (hb _ _ _ _ ?_)
 refine wpAny_newFunctionEnv_cells S.kind hkind fun env he s1 x=>?_
 subst he
 refine ⟨lim.keeps x.toInCall.keep,codeAny_func ?_⟩
 obtain ⟨t,ht,hq⟩:=hbody A outer s H vs Q E (hr.deeper _) hsp
 have I:Inv (qdC CX P w K mg base N qual scope f cdv A outer s H E) [] (RD N vs) H s1:=qb4 S hr.hd e0 hl r x
 refine wpAny_mono (ht [] s1 (RD N vs) H _ I hq) (fun fl s' hs=>?_) fun e s' hs=>hs
 have fin:∀ {σ':St} {H':Hp} {v:V} {u:Value},Inv (qdC CX P w K mg base N qual scope f cdv A outer s H E) [] σ' H' s'->jO v u->Q v H'->CE outer P w H s Q u s':=
  fun {σ' H' v u} J rv q=>⟨v,H',J.os,J.bare,J.base,J.hok,rv,q⟩
 cases fl with
 |ret u=>
  obtain ⟨v,σ',H',J,rv,q⟩:=hs
  exact fin J rv q
 |next=>
  obtain ⟨σ',H',J,q⟩:=hs
  exact fin (v:=V.non) (u:=Value.none) J rfl q
 |brk=>
  obtain ⟨_,_,_,q⟩:=hs
  exact False.elim q
 |cont=>
  obtain ⟨_,_,_,q⟩:=hs
  exact False.elim q
section
variable {X:Cx} {x:Str} {p pos:Pos} {e:Expr} {es:List Expr} {t:TA} {id T:String} {r:List V->Hp->VK->Prop}
def tCB (r:List V->Hp->VK->Prop) (t:TA):TE:=fun σ H Q=>t σ H fun vs H1=>r vs H1 Q
theorem X3 (hc:JN X (.builtin id) r) (hg:Gl X x) (hm:X.mg x=none) (hv:bootBuiltins x=some (.builtin id)) (ha:PA X (e::es) t) (hn:x≠"__name__" := by decide) (hdb:(x==("__debug__" : Str))=false:=by decide)
  (he:starEach (e::es) X.env=(false,eval e X.env)::starEach es X.env:=by rfl) (hpl:(backTo pos (starEach es X.env)).any (·.1)=false:=by rfl):PE X (.Call (.Name x p) (e::es) [] pos) (tCB r t):=by
 intro pins s σ H Q I h
 refine wpAny_Call_Name_kw (CF I hg hm hv ?_ hn hdb)
 exact PyProof.Rows.callWith_builtin1 (thn (ha pos pins s σ H _ I h) fun us s1 ⟨vs,H1,I1,r1,q1⟩=>hc pins s1 σ H1 vs us Q I1 r1 q1) he hpl
theorem LC (hc:JN X (.type T) r) (hg:Gl X x) (hm:X.mg x=none) (hv:bootBuiltins x=some (.type T)) (ha:PA X (e::es) t) (hn:x≠"__name__" := by decide) (hdb:(x==("__debug__" : Str))=false:=by decide)
  (he:starEach (e::es) X.env=(false,eval e X.env)::starEach es X.env:=by rfl) (hpl:(backTo pos (starEach es X.env)).any (·.1)=false:=by rfl):PE X (.Call (.Name x p) (e::es) [] pos) (tCB r t):=by
 intro pins s σ H Q I h
 refine wpAny_Call_Name_kw (CF I hg hm hv ?_ hn hdb)
 exact PyProof.Rows.callWith_type1 (thn (ha pos pins s σ H _ I h) fun us s1 ⟨vs,H1,I1,r1,q1⟩=>hc pins s1 σ H1 vs us Q I1 r1 q1) he hpl
end
end L2
namespace HT
open PySem PyProof.Rows
section
open PySem.SeqAt
open PySem.MeetsSeq PySem.MeetsSeq2 PySem.MeetsSeq3
end
section
variable {prog:Program} {w:World} {A:Around} {E:Value->Shared->Prop} {s:Shared}
theorem qiq {t b:Addr} {vs ws:List Value} {Q:Value->Shared->Prop} (ht:IsTup s.heap t vs.toArray) (hb:IsTup s.heap b ws.toArray) (hv:vs≠[])
  (h1:ws=[]->Q (.ref t) s) (h2:ws≠[]->Q (.ref s.heap.objs.size) { s with heap:=s.heap.push { cls:=.type "tuple",data:=.seq (vs++ws).toArray } })
  (hsz:vs.length+ws.length<=sizeLine):wpAny (model prog w) A (binaryOp .Add (.ref t) (.ref b)) Q E s:=by
 obtain ⟨⟨cls,dd,data,sl⟩,ho,hc,n,hd⟩:=id ht
 obtain ⟨⟨cls2,dd2,data2,sl2⟩,ho2,hc2,n2,hd2⟩:=id hb
 simp only at hc hd hc2 hd2
 subst hc hd hc2 hd2
 have e:vs.toArray++ws.toArray=(vs++ws).toArray:=by simp
 by_cases hw:ws=[]
 ·exact concat_meets ⟨_,ho,rfl⟩ ⟨_,ho2,rfl⟩ noFill_tuple_add seq_tuple_add PySem.F.slot_tuple_add PySem.F.entry_tuple_add (PySem.F.args_tuple_add_2 _ _)
   (tuple_addW1 t b vs.toArray ws.toArray n n2 dd dd2 sl sl2 (by simpa using hv) (by simp [hw])) ⟨ho,ho2,h1 hw⟩
 ·refine concat_meets ⟨_,ho,rfl⟩ ⟨_,ho2,rfl⟩ noFill_tuple_add seq_tuple_add PySem.F.slot_tuple_add PySem.F.entry_tuple_add (PySem.F.args_tuple_add_2 _ _)
   (tuple_addW2 t b vs.toArray ws.toArray n n2 dd dd2 sl sl2 (by simpa using hv) (by simpa using hw) (by rw [size_toArray,size_toArray];exact hsz)) ⟨ho,ho2,?_⟩
  rw [e]
  exact h2 hw
def sIx (n d:Nat):Option Int->Nat
 |none=>d
 |some v=>if v<0 then (v+(n:Int)).toNat else min v.toNat n
theorem N8 (n d:Nat):sIx n d none=d:=rfl
theorem qcn (n d k:Nat):sIx n d (some (k:Int))=min k n:=by
 show (if (k:Int)<0 then ((k:Int)+(n:Int)).toNat else min (k:Int).toNat n)=min k n
 rw [if_neg (by omega),Int.toNat_natCast]
theorem qkH (n d:Nat) (hd:d<=n) (o:Option Int):sIx n d o<=n:=by
 cases o with
 |none=>exact hd
 |some v=>
  show (if v<0 then (v+(n:Int)).toNat else min v.toNat n)<=n
  by_cases hv:v<0
  ·rw [if_pos hv];omega
  ·rw [if_neg hv];exact Nat.min_le_right _ _
theorem qdv (v:Int) (n d:Nat):(if v<0 then max (v+(n:Int)) 0 else min v (n:Int))=((sIx n d (some v):Nat):Int):=by
 show (if v<0 then max (v+(n:Int)) 0 else min v (n:Int))=(((if v<0 then (v+(n:Int)).toNat else min v.toNat n):Nat):Int)
 by_cases hv:v<0
 ·simp only [if_pos hv];omega
 ·simp only [if_neg hv];omega
theorem qaW (lo hi:Option Int) (n:Nat):Builtin.Slice.sliceAdjust lo hi 1 (n:Int)=(((sIx n 0 lo:Nat):Int),((sIx n n hi:Nat):Int)):=by
 have h1:¬ ((1:Int)<0):=by omega
 unfold Builtin.Slice.sliceAdjust
 simp only [h1,if_false]
 refine Prod.ext ?_ ?_
 ·cases lo with
  |none=>rfl
  |some v=>exact qdv v n 0
 ·cases hi with
  |none=>rfl
  |some v=>exact qdv v n n
theorem qbh (i j:Nat):Builtin.Slice.slicePlaces (i:Int) (j:Int) 1=j-i:=by
 unfold Builtin.Slice.slicePlaces
 have h1:(1:Int) > 0:=by omega
 simp only [h1,if_true,Int.ediv_one]
 split<;>omega
theorem SX {v:Value} {o:Option Int} {Q:Option Int->Shared->Prop} (p:IsPart v o) (h:Q o s):wpAny (model prog w) A (Builtin.Slice.slicePartIndex v) Q E s:=by
 cases p with
 |none=>exact slicePart_none h
 |int i t=>exact slicePart_int h
theorem XV {sl:Addr} {vl vu:Value} {lo hi:Option Int} {n:Nat} {Q:Int×Int×Nat->Shared->Prop} (hs:s.heap.IsSliceOf sl vl vu .none) (pl:IsPart vl lo) (pu:IsPart vu hi)
  (h:Q (((sIx n 0 lo:Nat):Int),1,sIx n n hi-sIx n 0 lo) s):wpAny (model prog w) A (Builtin.Slice.sliceApplied (.ref sl) (pure (n:Int))) Q E s:=by
 obtain ⟨os,hos,hcs,hds⟩:=id hs
 unfold Builtin.Slice.sliceApplied Builtin.Slice.sliceFields
 refine wpAny_bind (wpAny_bind (wpAny_field hos hds (x:=vl) rfl (wpAny_bind (wpAny_field hos hds (x:=vu) rfl (wpAny_bind (wpAny_field hos hds (x:=.none) rfl (wpAny_pure ?_)))))))
 refine wpAny_bind (slicePart_none ?_)
 show wpAny _ _ (if ((1:Int)==0)=true then _ else _) _ _ s
 rw [if_neg (by decide)]
 refine wpAny_bind (SX pl (wpAny_bind (SX pu (wpAny_bind (wpAny_pure ?_)))))
 show wpAny _ _ (match Builtin.Slice.sliceAdjust lo hi 1 (n:Int) with|(lo,hi)=>pure (lo,(1:Int),Builtin.Slice.slicePlaces lo hi 1)) _ _ s
 rw [qaW lo hi n]
 show wpAny _ _ (pure (((sIx n 0 lo:Nat):Int),(1:Int),Builtin.Slice.slicePlaces ((sIx n 0 lo:Nat):Int) ((sIx n n hi:Nat):Int) 1)) _ _ s
 rw [qbh]
 exact wpAny_pure h
theorem qea (xs:Array Value) (i k:Nat):((List.range k).filterMap fun (m:Nat)=>xs[((i:Int)+(m:Int)*1).toNat]?).toArray=((xs.toList.drop i).take k).toArray:=by
 have e:(fun (m:Nat)=>xs[((i:Int)+(m:Int)*1).toNat]?)=fun m=>xs[i+m]?:=by
  funext m
  have:((i:Int)+(m:Int)*1).toNat=i+m:=by omega
  rw [this]
 rw [e]
 have:=pick_run xs i k
 rw [List.filterMap_map] at this
 have e2:((fun x=>xs[x]?)∘fun x=>i+x)=fun m=>xs[i+m]?:=rfl
 rw [e2] at this
 rw [this]
theorem WF {t sl:Addr} {items:Array Value} {vl vu:Value} {lo hi:Option Int} {Q:Value->Shared->Prop} (ht:IsTup s.heap t items) (hs:s.heap.IsSliceOf sl vl vu .none) (pl:IsPart vl lo) (pu:IsPart vu hi)
  (hw:¬ (sIx items.size 0 lo=0/\sIx items.size items.size hi=items.size))
  (h:Q (.ref s.heap.objs.size) { s with heap:=s.heap.push { cls:=.type "tuple",data:=.seq ((items.toList.drop (sIx items.size 0 lo)).take (sIx items.size items.size hi-sIx items.size 0 lo)).toArray } })
  (hsz:items.size<=sizeLine):wpAny (model prog w) A (getItem (.ref t) (.ref sl)) Q E s:=by
 have htake:sizeOk (.seq ((items.toList.drop (sIx items.size 0 lo)).take (sIx items.size items.size hi-sIx items.size 0 lo)).toArray):=by
  show ((items.toList.drop (sIx items.size 0 lo)).take (sIx items.size items.size hi-sIx items.size 0 lo)).toArray.size<=sizeLine
  rw [size_toArray,List.length_take,List.length_drop,Array.length_toList]
  omega
 have hj:sIx items.size items.size hi<=items.size:=qkH _ _ (Nat.le_refl _) hi
 obtain ⟨os,hos,hcs,hds⟩:=id hs
 have hTs:s.TypeIs (.ref sl) "slice" := ⟨os,hos,hcs⟩
 unfold getItem
 try with_reducible refine wpAny_holding ?_
 first|refine wpAny_bind (wpAny_pure ?_)|skip
 refine wpAny_bind (wpAny_sequenceKey ht.typeIs (by decide) ?_)
 refine wpAny_bind (wpAny_callSpecial?_slot (name:=Str.ofString "__getitem__") ht.typeIs PyProof.Rows.slot_tuple_getitem
  (wpAny_call_entry PyProof.Rows.slot_tuple_getitem ht.typeIs entry_tuple_getitem ?_ (args_tuple_getitem _ _)))
 show wpAny _ _ (Builtin.Tuple.tupleItemsOf (.ref t) >>= _) _ _ s
 refine wpAny_bind (tupleItemsOf_ ht ?_)
 refine wpAny_bind (wpAny_typeOf hTs ?_)
 rw [if_pos (by decide)]
 refine wpAny_bind (XV hs pl pu ?_)
 have hno:¬ ((((sIx items.size 0 lo:Nat):Int)==0&&(1:Int)==1&&(sIx items.size items.size hi-sIx items.size 0 lo)==items.size)=true):=by
  intro q
  rw [Bool.and_eq_true,Bool.and_eq_true] at q
  have q1:((sIx items.size 0 lo:Nat):Int)=0:=eq_of_beq q.1.1
  have q2:sIx items.size items.size hi-sIx items.size 0 lo=items.size:=eq_of_beq q.2
  exact hw ⟨by omega,by omega⟩
 show wpAny _ _ (if (((sIx items.size 0 lo:Nat):Int)==0&&(1:Int)==1&&(sIx items.size items.size hi-sIx items.size 0 lo)==items.size)=true then _ else _) _ _ s
 rw [if_neg hno,qea]
 first
  |exact wpAny_bind (m:=Builtin.Tuple.tupleExact _) (wpAny_newObj_type (wpAny_pure ⟨_,rfl,wpAny_pure h⟩) htake)
  |exact wpAny_bind (m:=Builtin.Tuple.tupleExact _) (wpAny_newObj_type (wpAny_bind (wpAny_pure (wpAny_pure ⟨_,rfl,wpAny_pure h⟩))) htake)
  |exact wpAny_bind (wpAny_bind (m:=Builtin.Tuple.tupleExact _) (wpAny_newObj_type (wpAny_pure (wpAny_pure ⟨_,rfl,wpAny_pure h⟩)) htake))
  |exact wpAny_bind (wpAny_bind (m:=Builtin.Tuple.tupleExact _) (wpAny_newObj_type (wpAny_pure ⟨_,rfl,wpAny_pure h⟩) htake))
end
end HT
namespace L2
open PySem PySem.Spec PyProof.Rows
abbrev TO:=St->Hp->(Option Int->Hp->Prop)->Prop
def PO (X:Cx) (e:Option Expr) (t:TO):Prop:=
 ∀ (pins:List (Addr×Obj)) (s:Shared) (σ:St) (H:Hp) (Q:Option Int->Hp->Prop),Inv X pins σ H s->t σ H Q ->
  wpAny (model X.prog X.w) X.A (evalPart e X.env) (fun u s'=>∃ o H',Inv X pins σ H' s'/\IsPart u o/\Q o H') X.xe s
def qhQ:TO:=fun _ H Q=>Q none H
def qoj (t:TE):TO:=fun σ H Q=>t σ H fun x H1=>∃ i,x=.int i/\Q (some i) H1
section
variable {X:Cx} {e:Expr} {te:TE} {lo hi:Option Expr} {tl th:TO} {pos p2:Pos}
theorem qiM:PO X none qhQ:=by
 intro pins s σ H Q I h
 rw [evalPart_none]
 exact wpAny_pure ⟨none,H,I,.none,h⟩
theorem qg1 (h:PE X e te):PO X (some e) (qoj te):=by
 intro pins s σ H Q I hw
 rw [evalPart_some]
 refine thn (h pins s σ H _ I hw) fun u s1 ⟨x,H1,I1,r1,q1⟩=>?_
 obtain ⟨i,rfl,q⟩:=q1
 obtain ⟨t,rfl⟩:=r1
 exact ⟨some i,H1,I1,.int i t,q⟩
def SlR (X:Cx) (r:V->Option Int->Option Int->Hp->VK->Prop):Prop:=
 ∀ (pins:List (Addr×Obj)) (s:Shared) (σ:St) (H:Hp) (x:V) (v vl vu:Value) (lo hi:Option Int) (sl:Addr) (Q:VK),Inv X pins σ H s->jO x v->s.heap.IsSliceOf sl vl vu .none->IsPart vl lo->IsPart vu hi->r x lo hi H Q ->
  ∃ T id,typeLookup (.type T) "__getitem__" = pure (some (.builtin id))/\s.TypeIs v T/\wpAny (model X.prog X.w) X.A (getItem v (.ref sl)) (EP X pins σ Q) X.xe s
theorem SlR.or {r r':V->Option Int->Option Int->Hp->VK->Prop} (h:SlR X r) (h':SlR X r'):SlR X (fun x lo hi H Q=>r x lo hi H Q\/r' x lo hi H Q):=by
 intro pins s σ H x v vl vu lo hi sl Q I rx hs pl pu q
 rcases q with q|q
 ·exact h pins s σ H x v vl vu lo hi sl Q I rx hs pl pu q
 ·exact h' pins s σ H x v vl vu lo hi sl Q I rx hs pl pu q
def tSl (r:V->Option Int->Option Int->Hp->VK->Prop) (te:TE) (tl th:TO):TE:=fun σ H Q=>te σ H fun x H1=>tl σ H1 fun l H2=>th σ H2 fun u H3=>r x l u H3 Q
theorem qeh {r:V->Option Int->Option Int->Hp->VK->Prop} (hr:SlR X r) (he:PE X e te) (hl:PO X lo tl) (hu:PO X hi th):PE X (.Subscript e (.Slice lo hi none p2) pos) (tSl r te tl th):=by
 intro pins s σ H Q I h
 refine Subscript_ (thn (he pins s σ H _ I h) fun v s1 ⟨x,H1,I1,r1,q1⟩=>?_)
 refine wpAny_Slice (thn (hl pins s1 σ H1 _ I1 q1) fun vl s2 ⟨l,H2,I2,pl,q2⟩=>thn (hu pins s2 σ H2 _ I2 q2) fun vu s3 ⟨u,H3,I3,pu,q3⟩=>?_)
 rw [evalPart_none]
 refine wpAny_pure ?_
 have I4:Inv X pins σ H3 { s3 with heap:=s3.heap.push { cls:=.type "slice",data:=.fields #[vl,vu,.none] } }:=I3.kept (t':=s3.toks) fun b ob q=>Heap.get?_push_of_some _ q
 obtain ⟨T,id,hT,ht,hg⟩:=hr pins { s3 with heap:=s3.heap.push { cls:=.type "slice",data:=.fields #[vl,vu,.none] } } σ H3 x v vl vu l u s3.heap.objs.size Q I4 r1 (Heap.IsSliceOf.new ..) pl pu q3
 show wpAny (model X.prog X.w) X.A (subscriptTail e (.Slice lo hi none p2) v (.ref s3.heap.objs.size)) (EP X pins σ Q) X.xe { s3 with heap:=s3.heap.push { cls:=.type "slice",data:=.fields #[vl,vu,.none] } }
 exact tail_any (ops:=[.ref s3.heap.objs.size,v]) ht hT hg (by with_unfolding_all rfl)
def qe6 (xs:List V) (lo hi:Option Int):List V:=(xs.drop (HT.sIx xs.length 0 lo)).take (HT.sIx xs.length xs.length hi-HT.sIx xs.length 0 lo)
theorem RP (xs:List V) (lo hi:Option Int):(qe6 xs lo hi).length<=xs.length:=by
 unfold qe6
 rw [List.length_take,List.length_drop]
 omega
def qrd (K:PySem.W.Frag):V->Option Int->Option Int->Hp->VK->Prop:=fun x lo hi H Q=>∃ a xs,x=.ref a/\SqT K H a xs /\
 ¬ (HT.sIx xs.length 0 lo=0/\HT.sIx xs.length xs.length hi=xs.length)/\∀ p,H p=none->Q (.ref p) (upd H p (.tup (qe6 xs lo hi)))
theorem ql0:SlR X (qrd X.K):=by
 intro pins s σ H x v vl vu lo hi sl Q I rx hs pl pu h
 obtain ⟨a,xs,rfl,hx,hw,q⟩:=h
 cases rx
 obtain ⟨its,r,ht,hz⟩:=I.tuple hx
 have hlen:its.toArray.size=xs.length:=by rw [size_toArray];exact r.length.symm
 refine ⟨"tuple",_,PyProof.Rows.slot_tuple_getitem.lookup,ht.typeIs,?_⟩
 refine HT.WF ht hs pl pu (by rw [hlen];exact hw) ?_ (by rw [hlen];exact hz)
 rw [hlen]
 refine ⟨.ref s.heap.objs.size,_,I.laid (t':=s.toks) (o:=.tup (qe6 xs lo hi)) (fun b ob q=>Heap.get?_push_of_some _ q) (Nat.le_refl _) ?_,rfl,q _ (I.hok.fresh (Nat.le_refl _))⟩
 exact ⟨Nat.le_trans (RP xs lo hi) hz,_,(r.drop (HT.sIx xs.length 0 lo)).take (HT.sIx xs.length xs.length hi-HT.sIx xs.length 0 lo),IsTup.new _ _⟩
def qjP (K:PySem.W.Frag):R2:=fun x y H Q=>∃ a b xs ys,x=.ref a/\y=.ref b/\SqT K H a xs/\SqT K H b ys/\xs≠[]/\xs.length+ys.length<=sizeLine /\
 (ys=[]->Q (.ref a) H)/\(ys≠[]->∀ p,H p=none->Q (.ref p) (upd H p (.tup (xs++ys))))
theorem jk.nil_iff {xs:List V} {us:List Value} (r:jk xs us):us=[]↔xs=[]:=by
 cases r with
 |nil=>simp
 |cons _ _=>simp
theorem qg0:OpR X (binaryOp .Add) (qjP X.K):=by
 intro pins s σ H x y v u Q I rx ry h
 obtain ⟨a,b,xs,ys,rfl,rfl,ha,hb,hx,hz,q1,q2⟩:=h
 cases rx
 cases ry
 obtain ⟨its,r1,p1,_⟩:=I.tuple ha
 obtain ⟨its2,r2,p2,_⟩:=I.tuple hb
 refine HT.qiq p1 p2 (fun z=>hx (r1.nil_iff.mp z)) (fun z=>⟨.ref a,H,I,rfl,q1 (r2.nil_iff.mp z)⟩) (fun z=>?_) (by rw [← r1.length,← r2.length];exact hz)
 refine ⟨.ref s.heap.objs.size,_,I.laid (t':=s.toks) (o:=.tup (xs++ys)) (fun b ob q=>Heap.get?_push_of_some _ q) (Nat.le_refl _) ?_,rfl,q2 (fun w=>z (r2.nil_iff.mpr w)) _ (I.hok.fresh (Nat.le_refl _))⟩
 exact ⟨by rw [length_append];exact hz,_,r1.append r2,IsTup.new _ _⟩
end
def ixN (n:Nat) (i:Int):Option Nat:=if 0<=i then (if i<n then some i.toNat else none) else if -(n:Int)<=i then some (i+n).toNat else none
def atI {α:Type} (xs:List α) (i:Int):Option α:=(ixN xs.length i).bind fun j=>xs[j]?
theorem qdg {n:Nat} {i:Int} {j:Nat} (h:ixN n i=some j):seqIndex? i n=some j/\j<n/\-(n:Int)<=i/\i<n:=by
 unfold ixN at h
 by_cases h0:0<=i
 ·rw [if_pos h0] at h
  by_cases h1:i<n
  ·rw [if_pos h1] at h
   have e:i.toNat=j:=Option.some.inj h
   exact ⟨by rw [seqIndex_of h0 h1,e],by omega,by omega,h1⟩
  ·rw [if_neg h1] at h;cases h
 ·rw [if_neg h0] at h
  by_cases h1:-(n:Int)<=i
  ·rw [if_pos h1] at h
   have e:(i+n).toNat=j:=Option.some.inj h
   exact ⟨by rw [seqIndex_neg (by omega) h1,e],by omega,h1,by omega⟩
  ·rw [if_neg h1] at h;cases h
theorem MS {α:Type} {xs:List α} {i:Int} {v:α} (h:atI xs i=some v):∃ j,seqIndex? i xs.length=some j/\xs[j]?=some v/\j<xs.length/\-(xs.length:Int)<=i/\i<xs.length:=by
 unfold atI at h
 cases e:ixN xs.length i with
 |none=>rw [e] at h;cases h
 |some j=>
  rw [e] at h
  obtain ⟨h1,h2,h3,h4⟩:=qdg e
  exact ⟨j,h1,h,h2,h3,h4⟩
def WZ (b:Expr):Prop:=∀ o i,subscripted b false o i=operate [o,i] (getItem o i)
def IxR (X:Cx) (r:R2):Prop:=
 ∀ (value slice:Expr) (pins:List (Addr×Obj)) (s:Shared) (σ:St) (H:Hp) (x y:V) (v u:Value) (Q:VK),Inv X pins σ H s->jO x v->jO y u->r x y H Q ->
  subscripted slice false v u=operate [v,u] (getItem v u)->wpAny (model X.prog X.w) X.A (subscriptTail value slice v u) (EP X pins σ Q) X.xe s
def MtR (X:Cx) (id:String) (r:V->List V->Hp->VK->Prop):Prop:=
 ∀ (pins:List (Addr×Obj)) (s:Shared) (σ:St) (H:Hp) (x:V) (xs:List V) (v:Value) (us:List Value) (Q:VK),Inv X pins σ H s->jO x v->jk xs us->r x xs H Q ->
  wpAny (model X.prog X.w) X.A (call (.builtin id) (v::us)) (EP X pins σ Q) X.xe s
section
variable {X:Cx} {a b:Expr} {ta tb:TE} {pos:Pos}
theorem IxR.or {r r':R2} (h:IxR X r) (h':IxR X r'):IxR X (fun x y H Q=>r x y H Q\/r' x y H Q):=by
 intro value slice pins s σ H x y v u Q I rx ry q hs
 rcases q with q|q
 ·exact h value slice pins s σ H x y v u Q I rx ry q hs
 ·exact h' value slice pins s σ H x y v u Q I rx ry q hs
theorem qlB {r:R2} (hr:IxR X r) (ha:PE X a ta) (hb:PE X b tb) (hs:WZ b):PE X (.Subscript a b pos) (tOp r ta tb):=by
 intro pins s σ H Q I h
 exact Subscript_ (qom ha hb I h fun v u s2 x y H2 I2 rx ry q=>hr a b pins s2 σ H2 x y v u Q I2 rx ry q (hs _ _))
def qqm (K:PySem.W.Frag):R2:=fun x y H Q=>∃ p xs i v,x=.ref p/\y=.int i/\SqL K H p xs/\atI xs i=some v/\Q v H
def qqt (K:PySem.W.Frag):R2:=fun x y H Q=>∃ p xs i v,x=.ref p/\y=.int i/\SqT K H p xs/\atI xs i=some v/\Q v H
def qp6:R2:=fun x y H Q=>∃ z i c,x=.str z/\y=.int i/\z.length<=sizeLine/\atI z.cps.toList i=some c/\Q (.str ⟨#[c]⟩) H
theorem qg6:IxR X (qqm X.K):=by
 intro value slice pins s σ H x y v u Q I rx ry h hs
 obtain ⟨p,xs,i,z,rfl,rfl,hq,he,q⟩:=h
 cases rx
 obtain ⟨t,rfl⟩:=ry
 obtain ⟨its,r,pl,hz⟩:=I.list hq
 obtain ⟨j,h1,h2,h3,h4,h5⟩:=MS he
 obtain ⟨w,ew,rw'⟩:=r.get h2
 have hl:=r.length
 have hn:=LY
 have fin:EP X pins σ Q w s:=⟨z,H,I,rw',q⟩
 by_cases h0:0<=i
 ·have hj:i.toNat=j:=by
   rw [seqIndex_of h0 h5] at h1
   exact Option.some.inj h1
  exact item_listR pl.isList h0 (by omega) (by rw [hj];simpa using ew) fin hs
 ·have hj:(i+(its.toArray.size:Int)).toNat=j:=by
   rw [seqIndex_neg (by omega) h4] at h1
   rw [size_toArray,← hl]
   exact Option.some.inj h1
  exact subscriptTail_builtinR (x:=w) pl.isList.typeIs slot_list_getitem.lookup
   (wpAny_getItem_list_neg (Q:=fun r s'=>r=w/\EP X pins σ Q r s') pl.isList (by omega) (by rw [size_toArray]<;>omega) (by omega) (by rw [hj];simpa using ew) ⟨rfl,fin⟩) hs
theorem qmf:IxR X (qqt X.K):=by
 intro value slice pins s σ H x y v u Q I rx ry h hs
 obtain ⟨p,xs,i,z,rfl,rfl,hq,he,q⟩:=h
 cases rx
 obtain ⟨t,rfl⟩:=ry
 obtain ⟨its,r,pl,hz⟩:=I.tuple hq
 obtain ⟨j,h1,h2,h3,h4,h5⟩:=MS he
 obtain ⟨w,ew,rw'⟩:=r.get h2
 have hl:=r.length
 have hn:=LY
 have fin:EP X pins σ Q w s:=⟨z,H,I,rw',q⟩
 exact subscriptTail_builtinR (x:=w) pl.typeIs slot_tuple_getitem.lookup
  (getItem_tuple (j:=j) (Q:=fun r s'=>r=w/\EP X pins σ Q r s') pl (by omega) (by omega) (by rw [size_toArray,← hl];exact h1) (by simpa using ew) ⟨rfl,fin⟩) hs
theorem qnF:IxR X qp6:=by
 intro value slice pins s σ H x y v u Q I rx ry h hs
 obtain ⟨z,i,c,rfl,rfl,hz,he,q⟩:=h
 obtain ⟨t,rfl⟩:=rx
 obtain ⟨t',rfl⟩:=ry
 obtain ⟨j,h1,h2,h3,h4,h5⟩:=MS he
 have hl:z.cps.toList.length=z.length:=by simp [Str.length]
 rw [hl] at h1 h4 h5
 have hn:=LY
 exact tail_any (typeIs_str s z t) slot_str_getitem.lookup (getItem_str (c:=c) (by
  have e1:decide (i < -(2 ^ 63:Int))=false:=decide_eq_false (by omega)
  have e2:decide (i ≥ 2 ^ 63)=false:=decide_eq_false (by omega)
  rw [e1,e2,Bool.or_false]) (by rw [h1];simpa using h2) ⟨.str ⟨#[c]⟩,H,I.tok _,⟨_,rfl⟩,q⟩) hs
def rIx (K:PySem.W.Frag):R2:=fun x y H Q=>qqm K x y H Q\/qqt K x y H Q\/qp6 x y H Q
theorem qjA:IxR X (rIx X.K):=qg6.or (qmf.or qnF)
theorem qaS (its:List Value) (n j:Nat) (u:Value):Obj.mapSeq (·.setIfInBounds j u) { cls:=.type "list",data:=.seq its.toArray n }={ cls:=.type "list",data:=.seq (its.set j u).toArray n }:=by
 simp [Obj.mapSeq]
theorem Inv.lst {pins:List (Addr×Obj)} {σ:St} {H:Hp} {s:Shared} {p:Addr} {xs:List V} (I:Inv X pins σ H s) (h:H p=some (.lst xs)) :
  ∃ (its:List Value) (n:Nat),jk xs its/\s.heap.get? p=some { cls:=.type "list",data:=.seq its.toArray n }/\xs.length<=sizeLine:=by
 obtain ⟨z,its,n,r,e⟩:=I.hok p _ h
 exact ⟨its,n,r,e,z⟩
theorem Inv.lstUpd {pins:List (Addr×Obj)} {σ:St} {H:Hp} {s:Shared} {p:Addr} {xs ys:List V} {its its':List Value} {n n':Nat} {f:Obj->Obj} (I:Inv X pins σ H s) (h:H p=some (.lst xs))
  (ho:s.heap.get? p=some { cls:=.type "list",data:=.seq its.toArray n }) (hf:f { cls:=.type "list",data:=.seq its.toArray n }={ cls:=.type "list",data:=.seq its'.toArray n' }) (r:jk ys its') (hz:ys.length<=sizeLine) (t:Nat) :
  Inv X pins σ (upd H p (.lst ys)) { s with heap:=s.heap.update p f,toks:=t }:=by
 have e:(s.heap.update p f).get? p=some { cls:=.type "list",data:=.seq its'.toArray n' }:=by
  rw [Heap.get?_update_self f ho (by rw [hf]<;>rfl),hf]
 refine I.write (x:=p) (e:=p) (by rw [h];trivial) (.inl rfl) (fun b u hb q=>(Heap.get?_update_other _ _ (Ne.symm hb)).trans q) ⟨_,e⟩ ?_
 exact ⟨hz,its',n',r,e⟩
def qoZ:V->V->V->Hp->(Hp->Prop)->Prop:=fun o i v H Q=>∃ p xs k j,o=.ref p/\i=.int k/\H p=some (.lst xs)/\ixN xs.length k=some j/\Q (upd H p (.lst (xs.set j v)))
theorem qd1:qqh X qoZ:=by
 intro pins s σ H o i v ov iv u Q I ro ri rv h
 obtain ⟨p,xs,k,j,rfl,rfl,hp,hj,q⟩:=h
 cases ro
 obtain ⟨t,rfl⟩:=ri
 obtain ⟨its,n,r,ho,hz⟩:=I.lst hp
 obtain ⟨h1,h2,h3,h4⟩:=qdg hj
 have hl:=r.length
 have hn:=LY
 have I':Inv X pins σ (upd H p (.lst (xs.set j v))) { s with heap:=s.heap.update p (Obj.mapSeq (·.setIfInBounds j u)) }:=
  I.lstUpd hp ho (qaS its n j u) (r.set rv j) (by rw [List.length_set];exact hz) s.toks
 by_cases h0:0<=k
 ·have hk:k.toNat=j:=by
   rw [seqIndex_of h0 h4] at h1
   exact Option.some.inj h1
  exact PySem.W.ki_setAt ho h0 (by omega) (by rw [size_toArray,← hl];exact h4) (by rw [hk];exact ⟨_,I',q⟩)
 ·have hk:(k+(its.toArray.size:Int)).toNat=j:=by
   rw [seqIndex_neg (by omega) h3] at h1
   rw [size_toArray,← hl]
   exact Option.some.inj h1
  exact PySem.W.ki_setBack ho (by omega) (by rw [size_toArray,← hl];exact h3) (by omega) (by rw [hk];exact ⟨_,I',q⟩)
theorem K4 (lo hi:Option Int) (n:Nat):(sliceBounds lo hi none n).1=((HT.sIx n 0 lo:Nat):Int)/\(sliceBounds lo hi none n).2.1=((HT.sIx n n hi:Nat):Int)/\(sliceBounds lo hi none n).2.2=1:=by
 refine ⟨?_,?_,rfl⟩
 ·cases lo with
  |none=>simp [sliceBounds,HT.sIx]
  |some i=>
   simp only [sliceBounds,HT.sIx,Option.getD_none,show (1:Int) > 0 by decide,if_true]
   by_cases h:i<0
   ·simp only [h,if_true]<;>omega
   ·simp only [h,if_false]<;>omega
 ·cases hi with
  |none=>simp [sliceBounds,HT.sIx]
  |some i=>
   simp only [sliceBounds,HT.sIx,Option.getD_none,show (1:Int) > 0 by decide,if_true]
   by_cases h:i<0
   ·simp only [h,if_true]<;>omega
   ·simp only [h,if_false]<;>omega
theorem KF (its:List Value) (lo hi:Option Int):slicePick its.toArray lo hi none=((its.drop (HT.sIx its.length 0 lo)).take (HT.sIx its.length its.length hi-HT.sIx its.length 0 lo)).toArray:=by
 obtain ⟨h1,h2,h3⟩:=K4 lo hi its.toArray.size
 unfold slicePick
 rw [h1,h2,h3]
 simp only [sliceRange_one,pick_run,size_toArray]<;>rfl
def qri (K:PySem.W.Frag):V->Option Int->Option Int->Hp->VK->Prop:=fun x lo hi H Q=>∃ a xs,x=.ref a/\SqL K H a xs/\∀ p,H p=none->Q (.ref p) (upd H p (.lst (qe6 xs lo hi)))
theorem qhf:SlR X (qri X.K):=by
 intro pins s σ H x v vl vu lo hi sl Q I rx hs pl pu h
 obtain ⟨a,xs,rfl,hx,q⟩:=h
 cases rx
 obtain ⟨its,r,ht,hz⟩:=I.list hx
 have hlen:=r.length
 refine ⟨"list",_,slot_list_getitem.lookup,ht.isList.typeIs,?_⟩
 refine wpAny_getItem_list_slice ht.isList hs pl pu .none (by simp) ?_ (by rw [size_toArray]<;>omega)
 rw [KF,← hlen]
 refine ⟨.ref s.heap.objs.size,_,I.laid (t':=s.toks) (o:=.lst (qe6 xs lo hi)) (fun b ob q=>Heap.get?_push_of_some _ q) (Nat.le_refl _) ?_,rfl,q _ (I.hok.fresh (Nat.le_refl _))⟩
 exact ⟨Nat.le_trans (RP xs lo hi) hz,_,0,(r.drop (HT.sIx xs.length 0 lo)).take (HT.sIx xs.length xs.length hi-HT.sIx xs.length 0 lo),Heap.get?_push_size _ rfl⟩
def R6:V->Bool
 |.non=>true
 |.bl _=>true
 |.int _=>true
 |.str _=>true
 |_=>false
def eqV:V->V->Bool
 |.non,.non=>true
 |.bl a,.bl b=>a==b
 |.bl a,.int b=>(if a then 1 else 0)==b
 |.int a,.bl b=>a==(if b then 1 else 0)
 |.int a,.int b=>a==b
 |.str a,.str b=>a==b
 |_,_=>false
theorem qnn {A:Around} {s:Shared} {y x:V} {u v:Value} (ry:jO y u) (rx:jO x v) (fy:R6 y=true) (fx:R6 x=true):SeqAt.EqAt A s u v (eqV y x):=by
 cases y with
 |non=>
  cases ry
  cases x with
  |non=>cases rx;exact SeqAt.EqAt.same _
  |bl b=>cases rx;exact SeqAt.EqAt.none_bool b
  |int b=>obtain ⟨t,rfl⟩:=rx;exact SeqAt.EqAt.none_int b t
  |str b=>obtain ⟨t,rfl⟩:=rx;exact SeqAt.EqAt.none_str b t
  |_=>exact absurd (show false=true from fx) Bool.false_ne_true
 |bl a=>
  cases ry
  cases x with
  |non=>cases rx;exact SeqAt.EqAt.bool_none a
  |bl b=>cases rx;exact SeqAt.EqAt.bool_bool a b
  |int b=>obtain ⟨t,rfl⟩:=rx;exact SeqAt.EqAt.bool_int a b t
  |str b=>obtain ⟨t,rfl⟩:=rx;exact SeqAt.EqAt.bool_str a b t
  |_=>exact absurd (show false=true from fx) Bool.false_ne_true
 |int a=>
  obtain ⟨t',rfl⟩:=ry
  cases x with
  |non=>cases rx;exact SeqAt.EqAt.int_none a t'
  |bl b=>cases rx;exact SeqAt.EqAt.int_bool a t' b
  |int b=>obtain ⟨t,rfl⟩:=rx;exact SeqAt.EqAt.int_int a t' b t
  |str b=>obtain ⟨t,rfl⟩:=rx;exact SeqAt.EqAt.int_str a t' b t
  |_=>exact absurd (show false=true from fx) Bool.false_ne_true
 |str a=>
  obtain ⟨t',rfl⟩:=ry
  cases x with
  |non=>cases rx;exact SeqAt.EqAt.str_none a t'
  |bl b=>cases rx;exact SeqAt.EqAt.str_bool a t' b
  |int b=>obtain ⟨t,rfl⟩:=rx;exact SeqAt.EqAt.str_int a t' b t
  |str b=>obtain ⟨t,rfl⟩:=rx;exact SeqAt.EqAt.str_str a t' b t
  |_=>exact absurd (show false=true from fx) Bool.false_ne_true
 |_=>exact absurd (show false=true from fy) Bool.false_ne_true
def eqU (x:V) (u:Value):Bool:=match u with
 |.none=>eqV .non x
 |.bool b=>eqV (.bl b) x
 |.int i _=>eqV (.int i) x
 |.str z _=>eqV (.str z) x
 |_=>false
theorem qga {x y:V} {u:Value} (r:jO y u) (f:R6 y=true):eqU x u=eqV y x:=by
 cases y with
 |non=>cases r;rfl
 |bl b=>cases r;rfl
 |int i=>obtain ⟨t,rfl⟩:=r;rfl
 |str z=>obtain ⟨t,rfl⟩:=r;rfl
 |_=>exact absurd (show false=true from f) Bool.false_ne_true
theorem CG {x:V}:∀ {xs:List V} {us:List Value},jk xs us->xs.all R6=true->us.any (eqU x)=xs.any fun y=>eqV y x
 |_,_,.nil,_=>rfl
 |y::xs,u::us,.cons r t,f=>by
  rw [List.all_cons,Bool.and_eq_true] at f
  rw [List.any_cons,List.any_cons,qga r f.1,CG t f.2]
theorem E9 {A:Around} {s:Shared} {x:V} {v:Value} (rx:jO x v) (fx:R6 x=true):∀ {xs:List V} {us:List Value},jk xs us->xs.all R6=true->∀ u∈us,SeqAt.EqAt A s u v (eqU x u)
 |_,_,.nil,_=>fun u hu=>by cases hu
 |y::xs,u::us,.cons r t,f=>fun u' hu=>by
  rw [List.all_cons,Bool.and_eq_true] at f
  rcases mem_cons.mp hu with rfl|hu
  ·rw [qga r f.1];exact qnn r rx f.1 fx
  ·exact E9 rx fx t f.2 u' hu
def inV (x:V) (xs:List V):Bool:=xs.any fun y=>eqV y x
def rIn (K:PySem.W.Frag) (neg:Bool):R2:=fun x y H Q=>∃ p xs,y=.ref p/\(SqL K H p xs\/SqT K H p xs)/\R6 x=true/\xs.all R6=true/\Q (.bl (if neg then !inV x xs else inV x xs)) H
theorem qbN:OpR X (compareOp .In) (rIn X.K false):=by
 intro pins s σ H x y v u Q I rx ry h
 obtain ⟨p,xs,rfl,hq,fx,fs,q⟩:=h
 cases ry
 rcases hq with hq|hq
 ·obtain ⟨its,r,pl,hz⟩:=I.list hq
  refine SeqAt.in_listAt (eqU x) pl.isList (fun w hw=>E9 rx fx r fs w (by simpa using hw)) ⟨.bl _,H,I,rfl,?_⟩
  rw [show its.toArray.any (eqU x)=its.any (eqU x) by simp,CG r fs]
  exact q
 ·obtain ⟨its,r,pl,hz⟩:=I.tuple hq
  refine SeqAt.in_tupleAt (eqU x) pl (fun w hw=>E9 rx fx r fs w (by simpa using hw)) ⟨.bl _,H,I,rfl,?_⟩
  rw [show its.toArray.any (eqU x)=its.any (eqU x) by simp,CG r fs]
  exact q
theorem XR:OpR X (compareOp .NotIn) (rIn X.K true):=by
 intro pins s σ H x y v u Q I rx ry h
 obtain ⟨p,xs,rfl,hq,fx,fs,q⟩:=h
 cases ry
 rcases hq with hq|hq
 ·obtain ⟨its,r,pl,hz⟩:=I.list hq
  refine SeqAt.notIn_listAt (eqU x) pl.isList (fun w hw=>E9 rx fx r fs w (by simpa using hw)) ⟨.bl _,H,I,rfl,?_⟩
  rw [show its.toArray.any (eqU x)=its.any (eqU x) by simp,CG r fs]
  exact q
 ·obtain ⟨its,r,pl,hz⟩:=I.tuple hq
  refine SeqAt.notIn_tupleAt (eqU x) pl (fun w hw=>E9 rx fx r fs w (by simpa using hw)) ⟨.bl _,H,I,rfl,?_⟩
  rw [show its.toArray.any (eqU x)=its.any (eqU x) by simp,CG r fs]
  exact q
theorem XC:JN X (.type "list") (fun xs H Q=>∃ p ys,xs=[.ref p]/\(SqL X.K H p ys\/SqT X.K H p ys)/\∀ l,H l=none->Q (.ref l) (upd H l (.lst ys))):=by
 intro pins s σ H xs us Q I r h
 obtain ⟨p,ys,rfl,hq,q⟩:=h
 obtain ⟨u,rfl,rx⟩:=WA r
 cases rx
 have fin:∀ (its:List Value),jk ys its->ys.length<=sizeLine->∀ (h':Heap) (c':Nat),(∀ b o',s.heap.get? b=some o'->h'.get? b=some o') ->
   h'.get? s.heap.objs.size=some { cls:=.type "list",dict:=none,data:=.seq its.toArray c',slots:=#[] }->EP X pins σ Q (.ref s.heap.objs.size) { s with heap:=h' }:=fun its r' hz h' c' kp e=>
  ⟨.ref s.heap.objs.size,_,I.laid (t':=s.toks) kp (Nat.le_refl _) (show UZ X.prog X.w _ h' _ (.lst ys) from ⟨hz,its,c',r',e⟩),rfl,q _ (I.hok.fresh (Nat.le_refl _))⟩
 rcases hq with hq|hq
 ·obtain ⟨its,r',pl,hz⟩:=I.list hq
  have hlen:=r'.length
  obtain ⟨o,ho,hc,n,hd⟩:=pl.isList
  exact call_list_seq p (.inl rfl) ho hc hd (fun h' c' kp e=>fin its r' hz h' c' kp e) (by simp only [size_toArray]<;>omega)
 ·obtain ⟨its,r',pl,hz⟩:=I.tuple hq
  have hlen:=r'.length
  obtain ⟨o,ho,hc,n,hd⟩:=pl
  exact call_list_seq p (.inr rfl) ho hc hd (fun h' c' kp e=>fin its r' hz h' c' kp e) (by simp only [size_toArray]<;>omega)
theorem q0:JN X (.type "tuple") (fun xs H Q=>∃ p ys,xs=[.ref p]/\((SqL X.K H p ys/\∀ l,H l=none->Q (.ref l) (upd H l (.tup ys)))\/(SqT X.K H p ys/\Q (.ref p) H))):=by
 intro pins s σ H xs us Q I r h
 obtain ⟨p,ys,rfl,h⟩:=h
 obtain ⟨u,rfl,rx⟩:=WA r
 cases rx
 rcases h with ⟨hq,q⟩|⟨hq,q⟩
 ·obtain ⟨its,r',pl,hz⟩:=I.list hq
  have hlen:=r'.length
  refine call_tuple_list pl.isList (fun h' kp=>?_) (by simp only [size_toArray]<;>omega)
  have I1:Inv X pins σ H { s with heap:=h' }:=I.kept (t':=s.toks) kp
  have I2:Inv X pins σ (upd H h'.objs.size (.tup ys)) { s with heap:=h'.push { cls:=.type "tuple",data:=.seq its.toArray } }:=
   I1.laid (t':=s.toks) (fun b o e=>Heap.get?_push_of_some _ e) (Nat.le_refl _) (show UZ X.prog X.w _ _ _ (.tup ys) from ⟨hz,its,r',IsTup.new _ _⟩)
  exact ⟨.ref h'.objs.size,_,I2,rfl,q _ (I1.hok.fresh (Nat.le_refl _))⟩
 ·obtain ⟨its,r',pl,hz⟩:=I.tuple hq
  exact call_tuple_same pl ⟨.ref p,H,I,rfl,q⟩
def tyV (K:PySem.W.Frag) (T:String) (x:V) (H:Hp):Prop:=match x with
 |.str _=>T="str"
 |.int _=>T="int"
 |.ref p=>(T="list"/\∃ xs,SqL K H p xs)\/(T="tuple"/\∃ o,K.lookup p=some o/\o.cls=.type "tuple"/\o.dict=none) ∨
   (T="dict"/\((∃ kvs,H p=some (.dK kvs))\/∃ kvs,H p=some (.dT kvs)))\/(T="set"/\∃ S n,H p=some (.set S n))
 |_=>False
theorem qjZ {pins:List (Addr×Obj)} {σ:St} {H:Hp} {s:Shared} {T:String} {x:V} {v:Value} (I:Inv X pins σ H s) (r:jO x v) (ty:tyV X.K T x H) :
  s.TypeIs v T/\∀ a,v=.ref a->∃ ob,s.heap.get? a=some ob/\ob.dict=none:=by
 cases x with
 |str z=>
  obtain ⟨t,rfl⟩:=r
  cases (show T="str" from ty)
  exact ⟨typeIs_str s z t,fun _ e=>nomatch e⟩
 |int i=>
  obtain ⟨t,rfl⟩:=r
  cases (show T="int" from ty)
  exact ⟨typeIs_int s i t,fun _ e=>nomatch e⟩
 |ref p=>
  cases r
  rcases ty with ⟨rfl,xs,hq⟩|⟨rfl,o,hk,hc,hd⟩|⟨rfl,hk⟩|⟨rfl,S,n,hk⟩
  ·obtain ⟨its,_,pl,_⟩:=I.list hq
   refine ⟨pl.isList.typeIs,fun a e=>?_⟩
   cases e
   obtain ⟨o,n,e,c,hd,_⟩:=pl
   exact ⟨o,e,hd⟩
  ·refine ⟨⟨o,I.kIn p o hk,hc⟩,fun a e=>?_⟩
   cases e
   exact ⟨o,I.kIn _ o hk,hd⟩
  ·have z:∃ o,s.heap.get? p=some o/\o.ExactDict:=by
    rcases hk with ⟨kvs,hk⟩|⟨kvs,hk⟩
    ·obtain ⟨_,_,_,_,o,_,_,e,ex,_⟩:=I.hok p _ hk
     exact ⟨o,e,ex⟩
    ·obtain ⟨_,_,_,_,o,_,_,e,ex,_⟩:=I.hok p _ hk
     exact ⟨o,e,ex⟩
   obtain ⟨o,e,ex⟩:=z
   refine ⟨⟨o,e,ex.1⟩,fun a e2=>?_⟩
   cases e2
   exact ⟨o,e,ex.2.1⟩
  ·obtain ⟨o,_,_,_,e,ex,_⟩:=I.hok p _ hk
   refine ⟨⟨o,e,ex.1⟩,fun a e2=>?_⟩
   cases e2
   exact ⟨o,e,ex.2.1⟩
 |_=>exact False.elim ty
def tBM (K:PySem.W.Frag) (T:String) (r:V->List V->Hp->VK->Prop) (to:TE) (t:TA):TE:=fun σ H Q=>to σ H fun x H1=>tyV K T x H1/\t σ H1 fun xs H2=>r x xs H2 Q
variable {o e:Expr} {es:List Expr} {to:TE} {t:TA} {name:Str} {apos cpos:Pos} {T id:String} {r:V->List V->Hp->VK->Prop}
theorem qoU (pa:PlainAttrs T) (slot:Slot T name id) (hty:typeOf (.builtin id)=pure (.type "method_descriptor")) (hm:MtR X id r) (ho:PE X o to) (ha:PA X (e::es) t)
  (hbase:attributeBase o name X.env (eval o X.env)=eval o X.env:=by rfl)
  (hfew:((backTo cpos (starEach (e::es) X.env)).all (fun x=>!x.1)&&(backToKw cpos (keywordEach [] X.env)).all (fun x=>x.1.isSome)
   && decide ((e::es).length+([]:List Keyword).length+(if ([]:List Keyword).isEmpty then 0 else 1)<30))=true:=by rfl)
  (hline:(apos.endLine==cpos.line)=true:=by rfl) (hs:starEach (e::es) X.env=(false,eval e X.env)::starEach es X.env:=by rfl) (hplain:(backTo cpos (starEach es X.env)).any (·.1)=false:=by rfl) :
  PE X (.Call (.Attribute o name apos) (e::es) [] cpos) (tBM X.K T r to t):=by
 intro pins s σ H Q I h
 refine wpAny_Call_method_late hbase hfew hline rfl (thn (ho pins s σ H _ I h) fun v s1 ⟨x,H1,I1,r1,ty,q1⟩=>?_)
 obtain ⟨h1,h2⟩:=qjZ I1 r1 ty
 refine ⟨T,id,pa,slot,hty,h1,h2,?_⟩
 have hA:=ha cpos pins s1 σ H1 _ I1 q1
 rw [hs] at hA ⊢
 refine Calls.callWith_builtin (by show (false||(backTo cpos (starEach es X.env)).any (·.1))=false;rw [hplain]<;>rfl) (Calls.evalArgs_plain ?_)
 exact thn hA fun us s2 ⟨vs,H2,I2,r2,q2⟩=>hm pins s2 σ H2 x vs v us Q I2 r1 r2 q2
end
def MtM (X:Cx) (id:String) (r:V->List V->Hp->VK->Prop):Prop:=
 ∀ (pins:List (Addr×Obj)) (s:Shared) (σ:St) (H:Hp) (x:V) (xs:List V) (v:Value) (us:List Value) (Q:VK),Inv X pins σ H s->jO x v->jk xs us->r x xs H Q ->
  wpAny (model X.prog X.w) X.A (call (.builtin id) (v::us)) (EP X pins σ Q) X.xe s
theorem jk.one:∀ {x:V} {us:List Value},jk [x] us->∃ u,us=[u]/\jO x u
 |_,_,.cons r .nil=>⟨_,rfl,r⟩
theorem jk.reverse {xs:List V} {us:List Value} (h:jk xs us):jk xs.reverse us.reverse:=by
 induction h with
 |nil=>exact .nil
 |cons r t ih=>rw [List.reverse_cons,List.reverse_cons];exact jk.append ih (.cons r .nil)
section
variable {X:Cx} {pins:List (Addr×Obj)} {σ:St} {H:Hp} {s:Shared} {l b:Addr} {xs ys zs:List V}
theorem Inv.lset {its its':List Value} {n:Nat} {f:Array Value->Array Value} {t':Nat} (I:Inv X pins σ H s) (hH:H l=some (.lst xs))
  (e:s.heap.get? l=some { cls:=.type "list",data:=.seq its.toArray n }) (hf:f its.toArray=its'.toArray) (hv:jk ys its') (hz:ys.length<=sizeLine) :
  Inv X pins σ (upd H l (.lst ys)) { s with heap:=s.heap.update l (Obj.mapSeq f),toks:=t' }:=by
 have q:=PySem.IsL.update e f
 rw [hf] at q
 refine I.write (x:=l) (e:=l) (by rw [hH];exact trivial) (.inl rfl) (fun b' u hb hu=>(Heap.get?_update_other s.heap (Obj.mapSeq f) (Ne.symm hb)).trans hu) ⟨_,q⟩ ?_
 exact ⟨hz,its',_,hv,q⟩
theorem Inv.lnew {its:List Value} {t':Nat} (I:Inv X pins σ H s) (hv:jk ys its) (hz:ys.length<=sizeLine) :
  Inv X pins σ (upd H s.heap.objs.size (.lst ys)) { s with heap:=s.heap.push { cls:=.type "list",data:=.seq its.toArray },toks:=t' }:=
 I.laid (fun _ _ q=>Heap.get?_push_of_some _ q) (Nat.le_refl _) ⟨hz,its,0,hv,Heap.get?_push_size _ rfl⟩
theorem Inv.fresh (I:Inv X pins σ H s):H s.heap.objs.size=none:=I.hok.fresh (Nat.le_refl _)
theorem Inv.lstM (I:Inv X pins σ H s) (hH:H l=some (.lst xs)):xs.length<=sizeLine/\∃ (its:List Value) (n:Nat),jk xs its/\xs.length=its.length/\s.heap.get? l=some { cls:=.type "list",data:=.seq its.toArray n }:=by
 obtain ⟨z,its,n,r,e⟩:=I.hok l _ hH
 exact ⟨z,its,n,r,r.length,e⟩
theorem qeu {n:Nat} (h:n<=sizeLine):Builtin.List.listTooLong n=false:=by
 unfold Builtin.List.listTooLong
 exact decide_eq_false (by omega)
end
section
variable {X:Cx}
def qb9:V->List V->Hp->VK->Prop:=fun x vs H Q=>∃ l xs y,x=.ref l/\vs=[y]/\H l=some (.lst xs)/\xs.length<sizeLine/\Q .non (upd H l (.lst (xs++[y])))
theorem DS:MtM X "list.append" qb9:=by
 intro pins s σ H x vs v us Q I rx rv h
 obtain ⟨l,xs,y,rfl,rfl,hH,hz,q⟩:=h
 cases rx
 obtain ⟨u,rfl,ru⟩:=rv.one
 obtain ⟨z,its,n,r,hl,e⟩:=I.lstM hH
 refine call_meets F.slot_list_append ⟨_,e,rfl⟩ F.entry_list_append (F.args_list_append_2 _ _) (PySem.list_append l its.toArray n u (by rw [size_toArray];omega)) ⟨e,?_⟩
 refine ⟨.non,_,I.lset (its':=its++[u]) hH e (by simp) (r.append (.cons ru .nil)) ?_,rfl,q⟩
 rw [length_append,List.length_singleton]
 omega
def qdu:V->List V->Hp->VK->Prop:=fun x vs H Q=>∃ l b xs zs,x=.ref l/\vs=[.ref b]/\H l=some (.lst xs)/\H b=some (.lst zs)/\xs.length+zs.length<=sizeLine/\Q .non (upd H l (.lst (xs++zs)))
theorem qc2:MtM X "list.extend" qdu:=by
 intro pins s σ H x vs v us Q I rx rv h
 obtain ⟨l,b,xs,zs,rfl,rfl,hH,hB,hz,q⟩:=h
 cases rx
 obtain ⟨u,rfl,ru⟩:=rv.one
 cases ru
 obtain ⟨z,its,n,r,hl,e⟩:=I.lstM hH
 obtain ⟨z2,its2,n2,r2,hl2,e2⟩:=I.lstM hB
 have hsz:its.toArray.size+its2.toArray.size<=sizeLine:=by rw [size_toArray,size_toArray];omega
 have hlong:¬ (!its.toArray.isEmpty&&Builtin.List.listTooLong (its.toArray.size+its2.toArray.size))=true:=by
  rw [qeu hsz,Bool.and_false]
  exact Bool.false_ne_true
 refine call_meets F.slot_list_extend ⟨_,e,rfl⟩ F.entry_list_extend (F.args_list_extend_2 _ _)
  (AutoSeq1.list_extend_list_list_0 l its.toArray n b its2.toArray n2 hlong (by rw [size_toArray];omega) (by omega)) ⟨e,e2,?_⟩
 refine ⟨.non,_,I.lset (its':=its++its2) hH e (by simp) (r.append r2) ?_,rfl,q⟩
 rw [length_append]
 omega
def qqd:R2:=fun x y H Q=>∃ l b xs zs,x=.ref l/\y=.ref b/\H l=some (.lst xs)/\H b=some (.lst zs)/\xs.length+zs.length<=sizeLine/\∀ p,H p=none->Q (.ref p) (upd H p (.lst (xs++zs)))
theorem qkJ:OpR X (binaryOp .Add) qqd:=by
 intro pins s σ H x y v u Q I rx ry h
 obtain ⟨l,b,xs,zs,rfl,rfl,hH,hB,hz,q⟩:=h
 cases rx
 cases ry
 obtain ⟨z,its,n,r,hl,e⟩:=I.lstM hH
 obtain ⟨z2,its2,n2,r2,hl2,e2⟩:=I.lstM hB
 refine PySem.P.add_list e e2 ?_ (by rw [size_toArray,size_toArray];omega)
 have ea:its.toArray++its2.toArray=(its++its2).toArray:=by simp
 rw [ea]
 exact ⟨.ref _,_,I.lnew (t':=s.toks) (r.append r2) (by rw [length_append];omega),rfl,q _ I.fresh⟩
end
section
variable {prog:Program} {w:World} {A:Around} {E:Value->Shared->Prop} {s:Shared}
end
section
variable {X:Cx}
end
end L2
namespace Att
open PySem PySem.W PySem.Calls PyProof.Rows
theorem CS {P:Params} {h:Heap}:∀ (ns:List Int) (vs:List Value),WellAll P h vs (ns.map WData.int)->IntsAre vs ns:=by
 intro ns
 induction ns with
 |nil=>
  intro vs w
  rw [List.map_nil] at w
  cases w
  exact .nil
 |cons n ns ih=>
  intro vs w
  rw [map_cons] at w
  cases w with
  |cons a b=>
   cases a
   exact .cons _ _ (ih _ b)
theorem qbX {l:OpenLaw} {n:Nat} (hn:l.most=some n) {P:Params} {h:Heap} {args:List WData} {vals:List Value}
  (hpre:l.row.toRowW.claim.pre args=true) (hwl:WellAll P h vals args) :
  ∃ a vs ns,vals=[Value.ref a]/\args=[WData.list (ns.map WData.int)]/\h.get? a=some { cls:=.type "list",data:=.seq vs.toArray }/\IntsAre vs ns/\ns.length<=n:=by
 have hsh:WShape.hasAll [] args [.list .int]=true:=(pre_splitW hpre).1
 have hc:l.pre.holds [] { args:=args }=true:=(pre_splitW hpre).2
 obtain ⟨d,r,rfl,h1,h2⟩:=hasAllW_cons hsh
 obtain rfl:=hasAllW_nil h2
 obtain ⟨xs,rfl,h3⟩:=hasW_list h1
 obtain ⟨ns,rfl⟩:=items_int h3
 have hlen:ns.length<=n:=by
  unfold OpenLaw.pre at hc
  have h4:(WTm.not (.lt (.lit (.int (n:Int))) (.len (.arg 0)))).holds [] { args:=[.list (ns.map .int)] }=true:=by
   have h4:=(holds_andW hc).1
   rw [hn] at h4
   exact h4
  have h5:=condW_of h4 (w_not (w_lt w_lit (w_len_list (w_arg rfl))))
  rw [length_map] at h5
  refine Nat.le_of_not_lt fun q=>?_
  have q':(n:Int)<((ns.length:Nat):Int):=by omega
  first
   | (rw [decide_eq_true q'] at h5;exact absurd h5 (by decide))
   | (simp at h5;omega)
 cases hwl with
 |cons w1 w2=>
  cases w2
  cases w1 with
  |list ho hall=>exact ⟨_,_,ns,rfl,rfl,ho,CS ns _ hall,hlen⟩
theorem qdj (l:OpenLaw) (args:List WData):l.row.toRowW.claim.post args (.bool true) args=true:=
 postW_of (r:=l.row.toRowW) (X:=(true==true))
  (show WShape.has [] (.bool true) .bool=true by first|rfl|decide|simp [WShape.has,WShape.arms,WShape.armsAll])
  (show (WTm.eq .res (.lit (.bool true))).value [] { args:=args,res:=some (.bool true),after:=args }=some (.bool (true==true)) from w_eq_bool (w_res rfl) w_lit) rfl
theorem MR {l:OpenLaw} {n:Nat} {q:Program} {loose:List Str} {XP:(Str->Option Value)->Heap->Prop} {YP:World->Heap->Prop} {d:DefRec}
  (hn:l.most=some n) (hdf:d.params.defaults=[])
  (call:∀ (w:World) (s₀ s₁:Shared) (mg mb:Str->Option Value) (fa:Addr) (o:Obj) (pm cd doc:Value) (a:Addr) (vs:List Value) (ns:List Int),
   Ground q loose [] XP w s₀ mg mb s₁.heap->YP w s₁.heap ->
   s₁.heap.get? fa=some o->o.data=.func (docDef d.name d.params d.body d.scope pm cd doc)->s₁.heap.CodeRec cd d.name->mg d.name=some (.ref fa) ->
   s₁.heap.get? a=some { cls:=.type "list",data:=.seq vs.toArray }->IntsAre vs ns->ns.length<=n->s₁.gens=#[] ->
   codeAny (model l.prog w) callerA (.call (.ref fa) ⟨[.ref a],[]⟩) (fun r s'=>r=.ok (.ret (.bool true))/\OldK s₁.heap s'.heap/\s'.os=s₁.os/\AllBare s'.gens) s₁) :
  WalkO q loose XP YP l.row.toRowW d [] (fun f vs=>PySem.call f vs):=by
 intro w s₀ s₁ mg mb G Y fa o pm cd doc dV kV ho hd hcd hD hmg hg args vals as hpre hlay hrd hwl hlo
 obtain rfl:dV=.none:=Dflts.none hD hdf
 obtain rfl:kV=.none:=Dflts.noKw hD
 obtain ⟨a,vs,ns,rfl,rfl,hobj,hints,hlen⟩:=qbX hn hpre hwl
 refine enter_call (codeAny_mono (call w s₀ s₁ mg mb fa o pm cd doc a vs ns G Y ho (fd_plain hd) hcd hmg hobj hints hlen hg) fun r s' hq=>?_)
 obtain ⟨rfl,h2,h3,h4⟩:=hq
 exact ⟨.inl ⟨.bool true,.bool true,[],rfl,fun _=>rfl,.bool true,qdj l _,fun _=>⟨List.Pairwise.nil,fun _ hm=>(nomatch hm)⟩⟩,h2,h3,h4⟩
section
variable {prog:Program} {w:World} {A:Around} {E:Value->Shared->Prop} {s:Shared} {K:Frag}
end
end Att
namespace L2
open PySem PySem.Spec PyProof.Rows
theorem LW:∀ {vs:List Value} {ns:List Int},IntsAre vs ns->jk (ns.map V.int) vs
 |_,_,.nil=>.nil
 |_,_,.cons n t h=>.cons ⟨t,rfl⟩ (LW h)
def qnS (H:Hp):Prop:=∀ b,H b=none\/∃ o xs,H b=some (.frz o (.lst xs))
theorem qey {P:Program} {w:World} {K:PySem.W.Frag} {mg mb:Str->Option Value} {CX:CXT} {k:Nat} {fa a:Addr} {fd:FuncData} {x:Str} {sp:Sp} {s₁:Shared} {vs:List Value} {ns:List Int}
  (KX:K.In s₁.heap) (hns:s₁.heap.Ns mainGlobals mg) (hb:s₁.heap.Ns builtinsNs mb) (hbb:∀ x:Str,x≠"__name__" -> mb x=bootBuiltins x) (hlim:s₁.heap.NoLimit) (hg:s₁.gens=#[])
  (ha:s₁.heap.get? a=some { cls:=.type "list",data:=.seq vs.toArray }) (hi:IntsAre vs ns) (hl:ns.length<=sizeLine) (hr:Room k callerA)
  (F:∀ base:Heap,K.In base->base.Ns mainGlobals mg->FnOk P w K mg base CX k fa fd [x] sp) (hbind:∀ (s:Shared) (u:Value),BindsTo s fd ⟨[u],[]⟩ [(x,u)])
  (hsp:∀ H:Hp,qnS H->SqL K H a (ns.map V.int)->sp [.ref a] H (fun v _=>v=.bl true) fun _ _ _=>False)
  (hCX:∀ H e s',CX [] H s₁ (fun _ _ _=>False) e s'->False) :
  codeAny (model P w) callerA (.call (.ref fa) ⟨[.ref a],[]⟩) (fun r s'=>r=.ok (.ret (.bool true))/\OldK s₁.heap s'.heap/\s'.os=s₁.os/\AllBare s'.gens) s₁:=by
 have rv:=LW hi
 have lenV:=hi.length
 -- from an abstract heap in which nothing but the script may be tracked
 have core:∀ H:Hp,qnS H->SqL K H a (ns.map V.int)->HOk P w H s₁.heap->(∀ b,H b≠none->b=a)->(H a≠none->K.lookup a=none) ->
   codeAny (model P w) callerA (.call (.ref fa) ⟨[.ref a],[]⟩) (fun r s'=>r=.ok (.ret (.bool true))/\OldK s₁.heap s'.heap/\s'.os=s₁.os/\AllBare s'.gens) s₁:=by
  intro H hO hS hok hA hK
  have base_of:∀ {b:Addr} {o:Obj},s₁.heap.get? b=some o->H b=none->(qeo s₁.heap H).get? b=some o:=fun e n=>qdW e n
  have noA:∀ {b:Addr} {o:Obj} {es:Array DictEntry} {ep:Nat},s₁.heap.get? b=some o->o.data=.dict es ep->H b=none:=fun {b o es ep} e d=>by
   cases q:H b with
   |none=>rfl
   |some u=>
    have e':b=a:=hA b (by rw [q];simp)
    subst e'
    rw [ha] at e;cases e
    have d':Data.seq vs.toArray _=Data.dict es ep:=d
    cases d'
  have nsK:∀ {b:Addr} {m:Str->Option Value},s₁.heap.Ns b m->(qeo s₁.heap H).Ns b m:=fun {b m} ⟨o,es,ep,e,d,r⟩=>⟨o,es,ep,base_of e (noA e d),d,r⟩
  have hKb:K.In (qeo s₁.heap H):=fun b o e=>base_of (KX b o e) (by
   cases q:H b with
   |none=>rfl
   |some u=>
    have e':b=a:=hA b (by rw [q];simp)
    subst e'
    rw [hK (by rw [q];simp)] at e;cases e)
  have hM:Mod K mg (qeo s₁.heap H):=⟨hKb,nsK hns,⟨mb,nsK hb,hbb⟩,let ⟨mc,h1,h2⟩:=hlim;⟨mc,nsK h1,h2⟩⟩
  have e0:Env0 P w K mg (qeo s₁.heap H) callerA [] s₁ H:=⟨rfl,hM,fun b o e=>qg2 e,Nat.le_of_eq (qbR _ _),trivial,fun b hb=>absurd (show b∈([]:List Addr) from hb) (by simp),hok,.of_eq hg⟩
  refine codeAny_mono ((F _ hKb (nsK hns)).run callerA [] s₁ H ⟨[.ref a],[]⟩ [.ref a] [.ref a] _ _ hr e0 (hbind s₁ (.ref a)) (.cons rfl .nil) (hsp H hO hS)) fun r s' h=>?_
  cases r with
  |error e=>exact (hCX H e s' h).elim
  |ok fl=>
   cases fl with
   |next=>exact False.elim h
   |brk=>exact False.elim h
   |cont=>exact False.elim h
   |ret u=>
    obtain ⟨v,H',os,bare,un,hok',r',q⟩:=h
    have q':v=.bl true:=q
    subst q'
    obtain rfl:u=Value.bool true:=r'
    refine ⟨rfl,OldK.of_keep fun b o e=>?_,os,bare⟩
    cases q:H b with
    |none=>exact un.keep b o e q (by intro z;exact absurd (show b∈([]:List Addr) from z) (by simp)) (by simp)
    |some u=>
     rcases hO b with z|⟨ob,xs,z⟩
     ·rw [q] at z;cases z
     ·have z2:=un.frzs b ob _ z
      obtain ⟨e1,_⟩:=hok b _ z
      obtain ⟨e2,_⟩:=hok' b _ z2
      rw [e] at e1;cases e1
      exact e2
 cases hk:K.lookup a with
 |some o=>
  -- the script is one of the module's own objects
  have e:=KX a o hk
  rw [ha] at e
  cases e
  refine core (fun _=>none) (fun _=>.inl rfl) (.inr ⟨_,vs.toArray,_,hk,rfl,rfl,rfl,by rw [size_toArray,lenV];exact hl,by simpa using rv⟩) (fun b u z=>by have z':(none:Option HO)=some u:=z;cases z') (fun b z=>absurd rfl z) fun z=>absurd rfl z
 |none=>
  refine core (fun b=>if b=a then some (.frz { cls:=.type "list",data:=.seq vs.toArray } (.lst (ns.map V.int))) else none) (fun b=>?_) (.inl (.inr ⟨{ cls:=.type "list",data:=.seq vs.toArray },if_pos rfl⟩)) (fun b u z=>?_) (fun b z=>?_) fun _=>hk
  ·by_cases hb:b=a
   ·exact .inr ⟨_,_,if_pos hb⟩
   ·exact .inl (if_neg hb)
  ·by_cases hb:b=a
   ·have z':=(if_pos hb).symm.trans z
    cases z'
    subst hb
    exact ⟨ha,by rw [length_map];exact hl,vs,_,rv,ha⟩
   ·have z':=(if_neg hb).symm.trans z
    cases z'
  ·by_cases hb:b=a
   ·exact hb
   ·exact absurd (if_neg hb) z
theorem qiF {l:PySem.W.OpenLaw} {n k:Nat} {q:Program} {loose:List Str} {XP:(Str->Option Value)->Heap->Prop} {YP:World->Heap->Prop} {d:DefRec} {K:Params->PySem.W.Frag} {CX:World->CXT} {sp:World->Sp} {x:Str}
  (hn:l.most=some n) (hn2:n<=sizeLine) (hdf:d.params.defaults=[]) (hr:Room k callerA)
  (hY:∀ (w:World) (h:Heap),YP w h->(K w.params).In h)
  (F:∀ (w:World) (mg:Str->Option Value) (fa:Addr) (h:Heap),(K w.params).In h->h.Ns mainGlobals mg->mg d.name=some (.ref fa) ->
   ∃ fd:FuncData,(∀ (s:Shared) (u:Value),BindsTo s fd ⟨[u],[]⟩ [(x,u)]) /\
    ∀ base:Heap,(K w.params).In base->base.Ns mainGlobals mg->FnOk l.prog w (K w.params) mg base (CX w) k fa fd [x] (sp w))
  (hsp:∀ (w:World) (H:Hp) (a:Addr) (ns:List Int),ns.length<=n->qnS H->SqL (K w.params) H a (ns.map V.int)->sp w [.ref a] H (fun v _=>v=.bl true) fun _ _ _=>False)
  (hCX:∀ (w:World) (H:Hp) (s:Shared) (e:Value) (s':Shared),CX w [] H s (fun _ _ _=>False) e s'->False) :
  PySem.W.WalkO q loose XP YP l.row.toRowW d [] (fun f vs=>PySem.call f vs):=by
 refine Att.MR hn hdf fun w s₀ s₁ mg mb fa o pm cd doc a vs ns G Y ho hd hcd hmg hobj hints hlen hg=>?_
 have KX:=hY w _ Y
 obtain ⟨fd,hb,hF⟩:=F w mg fa _ KX G.T.g hmg
 exact qey KX G.T.g G.T.b G.T.builtins G.T.nolimit hg hobj hints (Nat.le_trans hlen hn2) hr hF hb (fun H hO hS=>hsp w H a ns hlen hO hS) fun H e s'=>hCX w H s₁ e s'
def YB (s:Stmt):Arguments:=match s with
 |.FunctionDef _ a _ _ _ _ _ _ _ _=>a
 |_=>{ posonlyargs:=[],args:=[],vararg:=none,kwonlyargs:=[],kw_defaults:=[],kwarg:=none,defaults:=[] }
def jQ (s:Stmt):List Stmt:=match s with
 |.FunctionDef _ _ b _ _ _ _ _ _ _=>b
 |_=>[]
def qi (s:Stmt):Scope:=match s with
 |.FunctionDef _ _ _ _ _ _ sc _ _ _=>sc
 |_=>{ kind:=.function,names:=[],isGenerator:=false,isCoroutine:=false }
abbrev CX0:CXT:=fun _ _ _ _ _ _=>False
abbrev E0:XK:=fun _ _ _=>False
theorem qph {X:Cx}:qbx CX0 X E0:=fun _ _ _ _ _ _ _ h=>h.elim
structure Fun (K:PySem.W.Frag) (x qual:Str) (st:Stmt) (f:Addr) (fd:FuncData):Prop where
 ex:∃ (oc:Value) (od:Option Addr) (kV doc pm:Value) (an:Option Addr) (cdv ct:Value) (osl:Array (Option Value)),
  fd=PySem.W.fnOf x qual (YB st) (jQ st) (qi st) .none kV doc pm an cdv ct/\K.lookup f=some ⟨oc,od,.func fd,osl⟩/\PySem.W.codeIn K cdv qual=true
 kp:PySem.W.keepIn K (.ref f)=true
section
variable {P:Program} {w:World} {K:PySem.W.Frag} {mg:Str->Option Value} {base:Heap}
theorem Fun.ok {x qual:Str} {st:Stmt} {f:Addr} {fd:FuncData} {N ps:List Str} {k:Nat} {sp:Sp} (F:Fun K x qual st f fd) (S:FnScope N ps (qi st)) (len:∀ vs H Q E,sp vs H Q E->vs.length=ps.length)
  (hbody:∀ (cdv:Value) (A:Around) (outer:List Env) (s:Shared) (H:Hp) (vs:List V) (Q:VK) (E:XK),Room k (A.deeper (envOfC qual (qi st) s.heap.objs.size f cdv))->sp vs H Q E ->
   ∃ t,PSs (qdC CX0 P w K mg base N qual (qi st) f cdv A outer s H E).nox (jQ st) t/\t { nx:=fun _ H'=>Q .non H',rt:=Q } (RD N vs) H):FnOk P w K mg base CX0 (k+1) f fd ps sp:=by
 obtain ⟨oc,od,kV,doc,pm,an,cdv,ct,osl,rfl,lk,hcd⟩:=F.ex
 refine qpw lk hcd S len fun A outer s H vs Q E hr hsp=>?_
 obtain ⟨t,h,q⟩:=hbody cdv A outer s H vs Q E hr hsp
 exact ⟨t,h.nox,q⟩
theorem Fun.binds {x qual:Str} {st:Stmt} {f:Addr} {fd:FuncData} {ps:List Str} (F:Fun K x qual st f fd)
  (h:∀ (kV doc pm:Value) (an:Option Addr) (cdv ct:Value) (us:List Value),us.length=ps.length->bindArgs (PySem.W.fnOf x qual (YB st) (jQ st) (qi st) .none kV doc pm an cdv ct) ⟨us,[]⟩=pure (ps.zip us)):zd K fd ps []:=by
 obtain ⟨oc,od,kV,doc,pm,an,cdv,ct,osl,rfl,lk,hcd⟩:=F.ex
 exact .all (h kV doc pm an cdv ct)
theorem qnO {x qual:Str} {st:Stmt} {f:Addr} {oc:Value} {od an:Option Addr} {osl:Array (Option Value)} {kV doc pm cdv ct:Value} (l:K.lookup f=some ⟨oc,od,.func (PySem.W.fnOf x qual (YB st) (jQ st) (qi st) .none kV doc pm an cdv ct),osl⟩)
  (c:PySem.W.codeIn K cdv qual=true) (k:PySem.W.keepIn K (.ref f)=true):Fun K x qual st f (PySem.W.fnOf x qual (YB st) (jQ st) (qi st) .none kV doc pm an cdv ct):=⟨⟨oc,od,kV,doc,pm,an,cdv,ct,osl,rfl,l,c⟩,k⟩
end
section
variable {X:Cx}
end
theorem qnY {A B:Prop} (h:B):if false=true then A else B:=by
 rw [if_neg Bool.false_ne_true]
 exact h
theorem qn3 {A B:Prop} (h:A):if true=true then A else B:=by
 rw [if_pos rfl]
 exact h
end L2
set_option maxHeartbeats 4000000
namespace L3
open PySem PySem.Spec PyProof.Rows L2
set_option genInjectivity true in
inductive T where
 |non|bl (b:Bool)|int (i:Int)|str (x:Str)|tup (xs:List T)|ref (a:Addr)
inductive O where
 |lst (xs:List T)
 |frz (xs:List T)
abbrev Gp:=Addr->Option O
def gu (G:Gp) (a:Addr) (o:O):Gp:=fun b=>if b=a then some o else G b
theorem qw {G:Gp} {a:Addr} {o:O}:gu G a o a=some o:=by unfold gu;rw [if_pos rfl]
theorem jF {G:Gp} {a b:Addr} {o:O} (h:b≠a):gu G a o b=G b:=by unfold gu;rw [if_neg h]
mutual
inductive Rp (K:PySem.W.Frag) (H:Hp):T->V->Prop
 |non:Rp K H .non .non
 |bl (b:Bool):Rp K H (.bl b) (.bl b)
 |int (i:Int):Rp K H (.int i) (.int i)
 |str (x:Str):Rp K H (.str x) (.str x)
 |ref (a:Addr):Rp K H (.ref a) (.ref a)
 |tup {xs:List T} {a:Addr} {vs:List V}:SqT K H a vs->Rps K H xs vs->Rp K H (.tup xs) (.ref a)
inductive Rps (K:PySem.W.Frag) (H:Hp):List T->List V->Prop
 |nil:Rps K H [] []
 |cons {x:T} {v:V} {xs:List T} {vs:List V}:Rp K H x v->Rps K H xs vs->Rps K H (x::xs) (v::vs)
end
def OR (K:PySem.W.Frag) (H:Hp) (a:Addr):O->Prop
 |.lst xs=>∃ vs,H a=some (.lst vs)/\Rps K H xs vs
 |.frz xs=>∃ vs,(∃ o,H a=some (.frz o (.lst vs)))/\Rps K H xs vs
def HR (K:PySem.W.Frag) (G:Gp) (H:Hp):Prop:=∀ a o,G a=some o->OR K H a o
def Kp (G:Gp) (H:Hp) (G':Gp) (H':Hp):Prop:=∀ a o,H a=some o->G a=none->H' a=some o/\G' a=none
theorem Kp.refl {G:Gp} {H:Hp}:Kp G H G H:=fun _ _ h g=>⟨h,g⟩
theorem Kp.trans {G G1 G2:Gp} {H H1 H2:Hp} (a:Kp G H G1 H1) (b:Kp G1 H1 G2 H2):Kp G H G2 H2:=fun x o h g=>
 let ⟨h1,g1⟩:=a x o h g;b x o h1 g1
section
variable {K:PySem.W.Frag} {G G':Gp} {H H':Hp}
theorem HR.noneT (hr:HR K G H) {a:Addr} {vs:List V} (h:Rd H a (.tup vs)):G a=none:=by
 cases e:G a with
 |none=>rfl
 |some o=>
  have q:=hr a o e
  cases o with
  |lst xs=>
   obtain ⟨us,q1,_⟩:=q
   rcases h with h|⟨ob,h⟩<;>(rw [q1] at h;cases h)
  |frz xs=>
   obtain ⟨us,⟨o1,q1⟩,_⟩:=q
   rcases h with h|⟨ob,h⟩<;>(rw [q1] at h;cases h)
theorem S9 (hr:HR K G H) (k:Kp G H G' H') {a:Addr} {vs:List V} (h:SqT K H a vs):SqT K H' a vs:=by
 rcases h with h|h
 ·have g:=hr.noneT h
  rcases h with h|⟨o,h⟩
  ·exact .inl (.inl (k a _ h g).1)
  ·exact .inl (.inr ⟨o,(k a _ h g).1⟩)
 ·exact .inr h
mutual
theorem Rp.keep (hr:HR K G H) (k:Kp G H G' H'):∀ {x:T} {v:V},Rp K H x v->Rp K H' x v
 |_,_,.non=>.non
 |_,_,.bl b=>.bl b
 |_,_,.int i=>.int i
 |_,_,.str x=>.str x
 |_,_,.ref a=>.ref a
 |_,_,.tup h hs=>.tup (S9 hr k h) (Rps.keep hr k hs)
theorem Rps.keep (hr:HR K G H) (k:Kp G H G' H'):∀ {x:List T} {v:List V},Rps K H x v->Rps K H' x v
 |_,_,.nil=>.nil
 |_,_,.cons a b=>.cons (Rp.keep hr k a) (Rps.keep hr k b)
end
theorem Rps.length:∀ {xs:List T} {vs:List V},Rps K H xs vs->xs.length=vs.length
 |_,_,.nil=>rfl
 |_,_,.cons _ b=>by simp [Rps.length b]
theorem Rps.get:∀ {xs:List T} {vs:List V} {i:Nat} {x:T},Rps K H xs vs->xs[i]?=some x->∃ v,vs[i]?=some v/\Rp K H x v
 |_,_,_,_,.nil,e=>by simp at e
 |_,_,0,_,.cons r _,e=>by simp at e;subst e;exact ⟨_,rfl,r⟩
 |_,_,i+1,x,.cons _ t,e=>by
  obtain ⟨u,h1,h2⟩:=Rps.get (i:=i) (x:=x) t (by simpa using e)
  exact ⟨u,by simpa using h1,h2⟩
theorem Rps.append:∀ {xs ys:List T} {vs us:List V},Rps K H xs vs->Rps K H ys us->Rps K H (xs++ys) (vs++us)
 |_,_,_,_,.nil,s=>s
 |_,_,_,_,.cons r t,s=>.cons r (Rps.append t s)
theorem Rps.take:∀ {xs:List T} {vs:List V} (n:Nat),Rps K H xs vs->Rps K H (xs.take n) (vs.take n)
 |_,_,0,_=>.nil
 |_,_,_+1,.nil=>.nil
 |_,_,n+1,.cons r t=>.cons r (Rps.take n t)
theorem Rps.drop:∀ {xs:List T} {vs:List V} (n:Nat),Rps K H xs vs->Rps K H (xs.drop n) (vs.drop n)
 |_,_,0,r=>r
 |_,_,_+1,.nil=>.nil
 |_,_,n+1,.cons _ t=>Rps.drop n t
theorem Rps.set {x:T} {v:V} (r:Rp K H x v):∀ {xs:List T} {vs:List V} (i:Nat),Rps K H xs vs->Rps K H (xs.set i x) (vs.set i v)
 |_,_,_,.nil=>.nil
 |_,_,0,.cons _ t=>.cons r t
 |_,_,i+1,.cons q t=>.cons q (Rps.set r i t)
theorem Rps.ints:∀ (ns:List Int),Rps K H (ns.map T.int) (ns.map V.int)
 |[]=>.nil
 |n::r=>.cons (.int n) (Rps.ints r)
theorem Rps.reverse {xs:List T} {vs:List V} (h:Rps K H xs vs):Rps K H xs.reverse vs.reverse:=by
 induction xs generalizing vs with
 |nil=>cases h;exact .nil
 |cons x r ih=>
  cases h with
  |cons a b=>
   rw [List.reverse_cons,List.reverse_cons]
   exact (ih b).append (.cons a .nil)
theorem Kp.laid {p:Addr} {ho:HO} (hp:H p=none):Kp G H G (upd H p ho):=fun a o h g=>⟨by rw [qN (qD h hp)];exact h,g⟩
theorem HR.free (hr:HR K G H) {p:Addr} (hp:H p=none):G p=none:=by
 cases e:G p with
 |none=>rfl
 |some o=>
  have q:=hr p o e
  cases o with
  |lst xs=>obtain ⟨us,q1,_⟩:=q;rw [hp] at q1;cases q1
  |frz xs=>obtain ⟨us,⟨o1,q1⟩,_⟩:=q;rw [hp] at q1;cases q1
theorem OR.keep (hr:HR K G H) (k:Kp G H G' H') {a:Addr} {o:O} (h:OR K H a o) (e:∀ u,H a=some u->H' a=some u):OR K H' a o:=by
 cases o with
 |lst xs=>obtain ⟨vs,h1,h2⟩:=h;exact ⟨vs,e _ h1,h2.keep hr k⟩
 |frz xs=>obtain ⟨vs,⟨o,h1⟩,h2⟩:=h;exact ⟨vs,⟨o,e _ h1⟩,h2.keep hr k⟩
theorem HR.laid (hr:HR K G H) {p:Addr} {ho:HO} (hp:H p=none):HR K G (upd H p ho):=fun a o e=>
 (hr a o e).keep hr (Kp.laid hp) fun u h=>by rw [qN (qD h hp)];exact h
theorem Kp.newL {p:Addr} {ho:HO} {o':O} (hp:H p=none):Kp G H (gu G p o') (upd H p ho):=fun a o h g=>
 ⟨by rw [qN (qD h hp)];exact h,by rw [jF (qD h hp)];exact g⟩
theorem HR.newL (hr:HR K G H) {p:Addr} {xs:List T} {vs:List V} (hp:H p=none) (r:Rps K H xs vs):HR K (gu G p (.lst xs)) (upd H p (.lst vs)):=fun a o e=>by
 by_cases ha:a=p
 ·subst ha
  rw [qw] at e;cases e
  exact ⟨vs,zj,r.keep hr (Kp.laid hp)⟩
 ·rw [jF ha] at e
  exact (hr a o e).keep hr (Kp.laid hp) fun u h=>by rw [qN ha];exact h
theorem Kp.wr {p:Addr} {ho:HO} {o o':O} (g:G p=some o):Kp G H (gu G p o') (upd H p ho):=fun a ob h ga=>by
 have ha:a≠p:=by intro e;subst e;rw [g] at ga;cases ga
 exact ⟨by rw [qN ha];exact h,by rw [jF ha];exact ga⟩
theorem HR.wr (hr:HR K G H) {p:Addr} {ys xs:List T} {vs:List V} (g:G p=some (.lst ys)) (r:Rps K H xs vs):HR K (gu G p (.lst xs)) (upd H p (.lst vs)):=fun a o e=>by
 have k:Kp G H (gu G p (.lst xs)) (upd H p (.lst vs)):=Kp.wr g
 by_cases ha:a=p
 ·subst ha
  rw [qw] at e;cases e
  exact ⟨vs,zj,r.keep hr k⟩
 ·rw [jF ha] at e
  exact (hr a o e).keep hr k fun u h=>by rw [qN ha];exact h
end
abbrev St3:=List (Option T)
structure Rel (K:PySem.W.Frag) (τ:St3) (G:Gp) (σ:L2.St) (H:Hp):Prop where
 hp:HR K G H
 len:τ.length=σ.length
 st:∀ (i:Nat) (t:T),τ[i]?=some (some t)->∃ v,σ[i]?=some (some v)/\Rp K H t v
theorem Rel.next {K:PySem.W.Frag} {τ:St3} {G G':Gp} {σ:L2.St} {H H':Hp} (r:Rel K τ G σ H) (hr:HR K G' H') (k:Kp G H G' H'):Rel K τ G' σ H':=
 ⟨hr,r.len,fun i t e=>let ⟨v,h1,h2⟩:=r.st i t e;⟨v,h1,h2.keep r.hp k⟩⟩
theorem Rel.set {K:PySem.W.Frag} {τ:St3} {G:Gp} {σ:L2.St} {H:Hp} {t:T} {v:V} (r:Rel K τ G σ H) (i:Nat) (h:Rp K H t v):Rel K (τ.set i (some t)) G (σ.set i (some v)) H:=by
 refine ⟨r.hp,by simp [r.len],fun j u e=>?_⟩
 by_cases hij:i=j
 ·subst hij
  rw [List.getElem?_set_self'] at e
  have hl:i<τ.length:=by
   cases q:τ[i]? with
   |none=>rw [q] at e;cases e
   |some z=>exact (List.getElem?_eq_some_iff.mp q).1
  rw [getElem?_eq_getElem hl] at e
  have e':t=u:=by simpa using e
  subst e'
  exact ⟨v,by rw [List.getElem?_set_self (by rw [← r.len];exact hl)],h⟩
 ·rw [List.getElem?_set_ne hij] at e
  obtain ⟨w,h1,h2⟩:=r.st j u e
  exact ⟨w,by rw [List.getElem?_set_ne hij];exact h1,h2⟩
abbrev Q3:=T->Gp->Prop
abbrev TE3:=St3->Gp->Q3->Prop
abbrev TT3:=St3->Gp->(Bool->Gp->Prop)->Prop
abbrev TA3:=St3->Gp->(List T->Gp->Prop)->Prop
def Aft (K:PySem.W.Frag) (G:Gp) (H:Hp) (q:Q3) (Q:VK):Prop:=∀ x G',q x G'->∀ v H',Rp K H' x v->HR K G' H'->Kp G H G' H'->Q v H'
def qnW (K:PySem.W.Frag) (G:Gp) (H:Hp) (q:Bool->Gp->Prop) (Q:Bool->Hp->Prop):Prop:=∀ x G',q x G'->∀ H',HR K G' H'->Kp G H G' H'->Q x H'
def qqO (K:PySem.W.Frag) (G:Gp) (H:Hp) (q:List T->Gp->Prop) (Q:List V->Hp->Prop):Prop:=∀ x G',q x G'->∀ v H',Rps K H' x v->HR K G' H'->Kp G H G' H'->Q v H'
def lE (K:PySem.W.Frag) (t:TE3):TE:=fun σ H Q=>∃ τ G q,Rel K τ G σ H/\t τ G q/\Aft K G H q Q
def lT (K:PySem.W.Frag) (t:TT3):TT:=fun σ H Q=>∃ τ G q,Rel K τ G σ H/\t τ G q/\qnW K G H q Q
def lA (K:PySem.W.Frag) (t:TA3):TA:=fun σ H Q=>∃ τ G q,Rel K τ G σ H/\t τ G q/\qqO K G H q Q
abbrev E3 (X:Cx) (e:Expr) (t:TE3):Prop:=PE X e (lE X.K t)
abbrev C3 (X:Cx) (e:Expr) (t:TT3):Prop:=PT X e (lT X.K t)
abbrev W3 (X:Cx) (e:Expr) (t:TT3):Prop:=PW X e (lT X.K t)
abbrev A3 (X:Cx) (es:List Expr) (t:TA3):Prop:=PA X es (lA X.K t)
theorem Aft.back {K:PySem.W.Frag} {G G1:Gp} {H H1:Hp} {q:Q3} {Q:VK} (a:Aft K G H q Q) (k:Kp G H G1 H1):Aft K G1 H1 q Q:=fun x G' h v H' r hr k'=>a x G' h v H' r hr (k.trans k')
theorem qnW.back {K:PySem.W.Frag} {G G1:Gp} {H H1:Hp} {q:Bool->Gp->Prop} {Q:Bool->Hp->Prop} (a:qnW K G H q Q) (k:Kp G H G1 H1):qnW K G1 H1 q Q:=fun x G' h H' hr k'=>a x G' h H' hr (k.trans k')
theorem XY {X:Cx} {e:Expr} {t t':TE} (h:PE X e t) (w:∀ σ H Q,t' σ H Q->t σ H Q):PE X e t':=fun pins s σ H Q I q=>h pins s σ H Q I (w σ H Q q)
theorem qpY {X:Cx} {e:Expr} {t t':TT} (h:PT X e t) (w:∀ σ H Q,t' σ H Q->t σ H Q):PT X e t':=fun pins s σ H Q I q=>h pins s σ H Q I (w σ H Q q)
theorem qp3 {X:Cx} {e:Expr} {t t':TT} (h:PW X e t) (w:∀ σ H Q,t' σ H Q->t σ H Q):PW X e t':=fun wh pins s σ H Q I q=>h wh pins s σ H Q I (w σ H Q q)
theorem qqb {X:Cx} {e:List Expr} {t t':TA} (h:PA X e t) (w:∀ σ H Q,t' σ H Q->t σ H Q):PA X e t':=fun pos pins s σ H Q I q=>h pos pins s σ H Q I (w σ H Q q)
theorem zH {K:PySem.W.Frag} {ta:TE3} {τ:St3} {G:Gp} {σ:L2.St} {H:Hp} {q:Q3} {Q:VK} (r:Rel K τ G σ H) (h:ta τ G q)
  (n:∀ x G1,q x G1->∀ v H1,Rp K H1 x v->HR K G1 H1->Kp G H G1 H1->Rel K τ G1 σ H1->Q v H1):lE K ta σ H Q:=
 ⟨τ,G,q,r,h,fun x G1 hq v H1 rx hr k=>n x G1 hq v H1 rx hr k (r.next hr k)⟩
theorem SO {K:PySem.W.Frag} {ta:TT3} {τ:St3} {G:Gp} {σ:L2.St} {H:Hp} {q:Bool->Gp->Prop} {Q:Bool->Hp->Prop} (r:Rel K τ G σ H) (h:ta τ G q)
  (n:∀ x G1,q x G1->∀ H1,HR K G1 H1->Kp G H G1 H1->Rel K τ G1 σ H1->Q x H1):lT K ta σ H Q:=
 ⟨τ,G,q,r,h,fun x G1 hq H1 hr k=>n x G1 hq H1 hr k (r.next hr k)⟩
theorem VE {K:PySem.W.Frag} {ta:TA3} {τ:St3} {G:Gp} {σ:L2.St} {H:Hp} {q:List T->Gp->Prop} {Q:List V->Hp->Prop} (r:Rel K τ G σ H) (h:ta τ G q)
  (n:∀ x G1,q x G1->∀ v H1,Rps K H1 x v->HR K G1 H1->Kp G H G1 H1->Rel K τ G1 σ H1->Q v H1):lA K ta σ H Q:=
 ⟨τ,G,q,r,h,fun x G1 hq v H1 rx hr k=>n x G1 hq v H1 rx hr k (r.next hr k)⟩
section
variable {X:Cx} {a b c:Expr} {ta tb tc:TE3} {pos:Pos}
def v3 (i:Nat):TE3:=fun τ G q=>match τ[i]? with|some (some t)=>q t G|_=>False
theorem qpz (i:Nat) {x:Str} {pos:Pos} (hN:X.N[i]?=some x:=by rfl) (hv:Vis X.env.scope x:=by first|exact Or.inl rfl|exact Or.inr (Or.inl rfl)|exact Or.inr (Or.inr rfl)) (hd:(x==("__debug__" : Str))=false:=by decide)
  (hcd:(x==("__classdict__" : Str))=false:=by decide):E3 X (.Name x pos) (v3 i):=by
 refine XY (qm0 (i:=i) hN hv hd hcd) fun σ H Q ⟨τ,G,q,r,h,af⟩=>?_
 unfold v3 at h
 split at h
 ·rename_i t e
  obtain ⟨v,e2,rv⟩:=r.st i t e
  exact ⟨v,e2,af t G h v H rv r.hp Kp.refl⟩
 ·exact h.elim
def c3 (t:T):TE3:=fun _ G q=>q t G
theorem e_c {t:T} {v:V} {e:Expr} (h:PE X e (tC v)) (hr:∀ H,Rp X.K H t v):E3 X e (c3 t):=XY h fun σ H Q ⟨τ,G,q,r,h,af⟩=>af t G h v H (hr H) r.hp Kp.refl
theorem qoI {i:Int} {j pos}:E3 X (.Constant (.int i) j pos) (c3 (.int i)):=e_c qmz fun _=>.int i
theorem qqK {b:Bool} {j pos}:E3 X (.Constant (.bool b) j pos) (c3 (.bl b)):=e_c qpv fun _=>.bl b
theorem qo5 {j pos}:E3 X (.Constant .none j pos) (c3 .non):=e_c qnw fun _=>.non
theorem qot {x:Str} {j pos}:E3 X (.Constant (.str x) j pos) (c3 (.str x)):=e_c qfp fun _=>.str x
def n3:TE3:=fun _ _ _=>False
abbrev R3:=T->T->Gp->Q3->Prop
def CY (K:PySem.W.Frag) (r3:R3) (r:R2):Prop:=∀ x y v u G H q Q,HR K G H->Rp K H x v->Rp K H y u->r3 x y G q->Aft K G H q Q->r v u H Q
def o3 (r:R3) (ta tb:TE3):TE3:=fun τ G q=>ta τ G fun x G1=>tb τ G1 fun y G2=>r x y G2 q
theorem qeD {K:PySem.W.Frag} {r3:R3} {r:R2} (hr:CY K r3 r) {σ:L2.St} {H:Hp} {Q:VK} (h:lE K (o3 r3 ta tb) σ H Q):tOp r (lE K ta) (lE K tb) σ H Q:=by
 obtain ⟨τ,G,q,rl,h,af⟩:=h
 refine zH rl h fun x G1 h1 v H1 rx hr1 k1 rl1=>zH rl1 h1 fun y G2 h2 u H2 ry hr2 k2 rl2=>?_
 exact hr x y v u G2 H2 q Q hr2 (rx.keep hr1 k2) ry h2 (af.back (k1.trans k2))
theorem qdK {op:Operator} {r3:R3} {r:R2} (ho:OpR X (binaryOp op) r) (hr:CY X.K r3 r) (ha:E3 X a ta) (hb:E3 X b tb):E3 X (.BinOp a op b pos) (o3 r3 ta tb):=
 XY (qok ho ha hb) fun _ _ _ h=>qeD hr h
theorem qpb {op:CmpOp} {r3:R3} {r:R2} (ho:OpR X (compareOp op) r) (hr:CY X.K r3 r) (ha:E3 X a ta) (hb:E3 X b tb) (hm:behindInMarks op b=false):E3 X (.Compare a [op] [b] pos) (o3 r3 ta tb):=
 XY (qiE ho ha hb hm) fun _ _ _ h=>qeD hr h
def tb3 (t:TE3):TT3:=fun τ G q=>t τ G fun x G'=>match x with|.bl k=>q k G'|_=>False
theorem qll {K:PySem.W.Frag} {t:TE3} {t2:TE} (hw:∀ σ H Q,lE K t σ H Q->t2 σ H Q) {σ:L2.St} {H:Hp} {Q:Bool->Hp->Prop} (h:lT K (tb3 t) σ H Q):qmg t2 σ H Q:=by
 obtain ⟨τ,G,q,rl,h,af⟩:=h
 refine hw _ _ _ (zH rl h fun x G1 h1 v H1 rx hr1 k1 rl1=>?_)
 cases x with
 |bl k=>cases rx;exact ⟨k,rfl,af k G1 h1 H1 hr1 k1⟩
 |_=>exact h1.elim
theorem qo1 {op:CmpOp} {r3:R3} {r:R2} (ho:OpR X (compareOp op) r) (hr:CY X.K r3 r) (ha:E3 X a ta) (hb:E3 X b tb) (hm:behindInMarks op b=false):C3 X (.Compare a [op] [b] pos) (tb3 (o3 r3 ta tb)):=
 qpY (qhK ho ha hb hm) fun _ _ _ h=>qll (fun _ _ _=>qeD hr) h
def ch3 (r r':R3) (ta tb tc:TE3):TE3:=fun τ G q=>ta τ G fun x G1=>tb τ G1 fun y G2=>r x y G2 fun z G3=>match z with
 |.bl k=>if k=true then tc τ G3 fun w G4=>r' y w G4 q else q (.bl false) G3
 |_=>False
theorem qo2 {K:PySem.W.Frag} {r3 r3':R3} {r r':R2} (hr:CY K r3 r) (hr':CY K r3' r') {σ:L2.St} {H:Hp} {Q:VK} (h:lE K (ch3 r3 r3' ta tb tc) σ H Q):qfv r r' (lE K ta) (lE K tb) (lE K tc) σ H Q:=by
 obtain ⟨τ,G,q,rl,h,af⟩:=h
 refine zH rl h fun x G1 h1 v H1 rx hr1 k1 rl1=>zH rl1 h1 fun y G2 h2 u H2 ry hr2 k2 rl2=>?_
 refine hr x y v u G2 H2 _ _ hr2 (rx.keep hr1 k2) ry h2 fun z G3 h3 w H3 rz hr3 k3=>?_
 cases z with
 |bl k=>
  cases rz
  refine ⟨k,rfl,?_⟩
  cases k with
  |false=>
   rw [if_neg Bool.false_ne_true]
   rw [show (match T.bl false with|.bl k=>if k=true then tc τ G3 fun w G4=>r3' y w G4 q else q (.bl false) G3|_=>False)=q (.bl false) G3 from by simp] at h3
   exact af _ G3 h3 _ H3 (.bl false) hr3 ((k1.trans k2).trans k3)
  |true=>
   rw [if_pos rfl]
   refine zH (rl2.next hr3 k3) (show tc τ G3 fun w G4=>r3' y w G4 q from by simpa using h3) fun w G4 h4 w' H4 rw' hr4 k4 rl4=>?_
   exact hr' y w _ _ G4 H4 q Q hr4 ((ry.keep hr2 k3).keep hr3 k4) rw' h4 (af.back (((k1.trans k2).trans k3).trans k4))
 |_=>exact h3.elim
theorem qij {op op':CmpOp} {r3 r3':R3} {r r':R2} (ho:OpR X (compareOp op) r) (hr:CY X.K r3 r) (ho':OpR X (compareOp op') r') (hr':CY X.K r3' r') (ha:E3 X a ta) (hb:E3 X b tb) (hc:E3 X c tc)
  (hm:lastMarks [op,op'] [b,c]=false:=by with_unfolding_all rfl):E3 X (.Compare a [op,op'] [b,c] pos) (ch3 r3 r3' ta tb tc):=
 XY (qer ho ho' ha hb hc hm) fun _ _ _ h=>qo2 hr hr' h
def qp7 (K:PySem.W.Frag) (r3:T->Gp->Q3->Prop) (r:V->Hp->VK->Prop):Prop:=∀ x v G H q Q,HR K G H->Rp K H x v->r3 x G q->Aft K G H q Q->r v H Q
def u3 (r:T->Gp->Q3->Prop) (ta:TE3):TE3:=fun τ G q=>ta τ G fun x G1=>r x G1 q
theorem qqH {op:UnaryOp} {r3:T->Gp->Q3->Prop} {r:V->Hp->VK->Prop} (ho:UnR X (unaryOp op) r) (hr:qp7 X.K r3 r) (ha:E3 X a ta):E3 X (.UnaryOp op a pos) (u3 r3 ta):=
 XY (qo6 ho ha) fun _ _ _ ⟨τ,G,q,rl,h,af⟩=>zH rl h fun x G1 h1 v H1 rx hr1 k1 rl1=>hr x v G1 H1 q _ hr1 rx h1 (af.back k1)
def Z5:T->Gp->Q3->Prop:=fun x G q=>match x with|.int i=>q (.int (-i)) G|_=>False
theorem qhw {K:PySem.W.Frag}:qp7 K Z5 (rU fun i=>.int (-i)):=fun x v G H q Q hr rx h af=>by
 cases x with
 |int i=>cases rx;exact ⟨i,rfl,af _ G h _ H (.int _) hr Kp.refl⟩
 |_=>exact h.elim
def iI (f:Int->Int->Int):R3:=fun x y G q=>match x,y with|.int i,.int j=>q (.int (f i j)) G|_,_=>False
def iC (C:Int->Int->Prop) (f:Int->Int->Int):R3:=fun x y G q=>match x,y with|.int i,.int j=>C i j/\q (.int (f i j)) G|_,_=>False
def iB (f:Int->Int->Bool):R3:=fun x y G q=>match x,y with|.int i,.int j=>q (.bl (f i j)) G|_,_=>False
theorem qff {K:PySem.W.Frag} {f:Int->Int->Int}:CY K (iI f) (rI0 fun i j=>.int (f i j)):=fun x y v u G H q Q hr rx ry h af=>by
 cases x<;>try exact h.elim
 cases y<;>try exact h.elim
 cases rx;cases ry
 exact ⟨_,_,rfl,rfl,af _ G h _ H (.int _) hr Kp.refl⟩
theorem SI {K:PySem.W.Frag} {C:Int->Int->Prop} {f:Int->Int->Int}:CY K (iC C f) (rI C fun i j=>.int (f i j)):=fun x y v u G H q Q hr rx ry h af=>by
 cases x<;>try exact h.elim
 cases y<;>try exact h.elim
 cases rx;cases ry
 exact ⟨_,_,rfl,rfl,h.1,af _ G h.2 _ H (.int _) hr Kp.refl⟩
theorem jz {K:PySem.W.Frag} {f:Int->Int->Bool}:CY K (iB f) (rI0 fun i j=>.bl (f i j)):=fun x y v u G H q Q hr rx ry h af=>by
 cases x<;>try exact h.elim
 cases y<;>try exact h.elim
 cases rx;cases ry
 exact ⟨_,_,rfl,rfl,af _ G h _ H (.bl _) hr Kp.refl⟩
theorem qpQ (ha:E3 X a ta) (hb:E3 X b tb):E3 X (.BinOp a .Sub b pos) (o3 (iI (·-·)) ta tb):=qdK qlm qff ha hb
theorem qoK (ha:E3 X a ta) (hb:E3 X b tb):E3 X (.BinOp a .Mult b pos) (o3 (iC ZF (·*·)) ta tb):=qdK qm9 SI ha hb
theorem qoe (ha:E3 X a ta) (hb:E3 X b tb):E3 X (.BinOp a .Mod b pos) (o3 (iC (fun _ j=>0<j) (·%·)) ta tb):=qdK qny SI ha hb
theorem qpI (ha:E3 X a ta) (hb:E3 X b tb):E3 X (.BinOp a .FloorDiv b pos) (o3 (iC qbs (·/·)) ta tb):=qdK qid SI ha hb
theorem qoq (ha:E3 X a ta) (hb:E3 X b tb):E3 X (.BinOp a .Pow b pos) (o3 (iC qa7 (fun i j=>i ^ j.toNat)) ta tb):=qdK qkf SI ha hb
theorem qkU (ha:E3 X a ta) (hb:E3 X b tb):E3 X (.BinOp a .BitAnd b pos) (o3 (iI Builtin.bitAnd) ta tb):=qdK qlR qff ha hb
theorem qpM (ha:E3 X a ta) (hb:E3 X b tb):E3 X (.BinOp a .LShift b pos) (o3 (iC qa7 (fun i j=>i*2 ^ j.toNat)) ta tb):=qdK qja SI ha hb
theorem qpn (ha:E3 X a ta) (hb:E3 X b tb):E3 X (.BinOp a .RShift b pos) (o3 (iC (fun _ j=>0<=j) (fun i j=>i/2 ^ j.toNat)) ta tb):=qdK qlz SI ha hb
theorem qpL (ha:E3 X a ta):E3 X (.UnaryOp .USub a pos) (u3 Z5 ta):=qqH qne qhw ha
def qQ:T->T->Option Bool
 |.non,.non=>some true|.non,.int _=>some false|.int _,.non=>some false|.non,.bl _=>some false|.bl _,.non=>some false|.non,.str _=>some false|.str _,.non=>some false
 |.int i,.int j=>some (decide (i=j))|.bl i,.bl j=>some (decide (i=j))|.str i,.str j=>some (decide (i=j))
 |.int _,.str _=>some false|.str _,.int _=>some false|.bl _,.str _=>some false|.str _,.bl _=>some false
 |_,_=>none
theorem qaa {K:PySem.W.Frag} {H:Hp} {x y:T} {v u:V} {k:Bool} (rx:Rp K H x v) (ry:Rp K H y u) (h:qQ x y=some k):qo3 v u=true/\decide (v=u)=k:=by
 cases rx<;>cases ry<;>simp [qQ] at h<;>subst h<;>refine ⟨rfl,?_⟩<;>simp
def YV (neg:Bool):R3:=fun x y G q=>match y with|.non=>q (.bl (match x with|.non=>!neg|_=>neg)) G|_=>False
theorem qeN {K:PySem.W.Frag} {H:Hp} {x:T} {v:V} (rx:Rp K H x v):decide (v=.non)=(match x with|.non=>true|_=>false):=by
 cases rx<;>simp
theorem NR {K:PySem.W.Frag}:CY K (YV false) (fun x y H Q=>y=.non/\Q (.bl (decide (x=.non))) H):=fun x y v u G H q Q hr rx ry h af=>by
 cases y<;>try exact h.elim
 cases ry
 refine ⟨rfl,?_⟩
 rw [qeN rx]
 refine af _ G h _ H ?_ hr Kp.refl
 cases x<;>exact .bl _
theorem qep {K:PySem.W.Frag}:CY K (YV true) (fun x y H Q=>y=.non/\Q (.bl (!decide (x=.non))) H):=fun x y v u G H q Q hr rx ry h af=>by
 cases y<;>try exact h.elim
 cases ry
 refine ⟨rfl,?_⟩
 rw [qeN rx]
 refine af _ G h _ H ?_ hr Kp.refl
 cases x<;>exact .bl _
variable {tA tB:TT3} {ZP:List Expr}
def UH (t u:TT3):TT3:=fun τ G q=>t τ G fun k G1=>if k=true then u τ G1 q else q false G1
def or3 (t u:TT3):TT3:=fun τ G q=>t τ G fun k G1=>if k=true then q true G1 else u τ G1 q
def YT (t:TT3):TT3:=fun τ G q=>t τ G fun k G1=>q (!k) G1
theorem qj4 (ha:C3 X a tA):W3 X (.BoolOp .And [a] pos) tA:=qiL ha
theorem qpi (ha:C3 X a tA):W3 X (.BoolOp .Or [a] pos) tA:=qk1 ha
theorem qow (ha:C3 X a tA) (hb:W3 X (.BoolOp .And (b::ZP) pos) tB):W3 X (.BoolOp .And (a::b::ZP) pos) (UH tA tB):=
 qp3 (ql8 ha hb) fun _ _ _ ⟨τ,G,q,rl,h,af⟩=>SO rl h fun k G1 h1 H1 hr1 k1 rl1=>by
  cases k with
  |true=>rw [if_pos rfl] at h1 ⊢;exact ⟨τ,G1,q,rl1,h1,af.back k1⟩
  |false=>rw [if_neg Bool.false_ne_true] at h1 ⊢;exact af _ G1 h1 H1 hr1 k1
theorem qrh (ha:C3 X a tA) (hb:W3 X (.BoolOp .Or (b::ZP) pos) tB):W3 X (.BoolOp .Or (a::b::ZP) pos) (or3 tA tB):=
 qp3 (qoo ha hb) fun _ _ _ ⟨τ,G,q,rl,h,af⟩=>SO rl h fun k G1 h1 H1 hr1 k1 rl1=>by
  cases k with
  |true=>rw [if_pos rfl] at h1 ⊢;exact af _ G1 h1 H1 hr1 k1
  |false=>rw [if_neg Bool.false_ne_true] at h1 ⊢;exact ⟨τ,G1,q,rl1,h1,af.back k1⟩
theorem qoW (ha:C3 X a tA):C3 X (.UnaryOp .Not a pos) (YT tA):=
 qpY (ql4 ha) fun _ _ _ ⟨τ,G,q,rl,h,af⟩=>SO rl h fun k G1 h1 H1 hr1 k1 rl1=>af _ G1 h1 H1 hr1 k1
theorem qpR {e:Expr} {t:TE3} (h:E3 X e t) (he:∀ whole,isTrue e X.env whole=(do let v←whole;standAt e.pos;holding [v] (truthy v)):=by intro _;rfl):C3 X e (tb3 t):=
 qpY (ql6 h he) fun _ _ _ h=>qll (fun _ _ _ h=>h) h
def zb (ta tb:TE3):TE3:=fun τ G q=>ta τ G fun x G1=>match x with|.bl k=>if k=true then tb τ G1 q else q (.bl false) G1|_=>False
def DP (ta tb:TE3):TE3:=fun τ G q=>ta τ G fun x G1=>match x with|.bl k=>if k=true then q (.bl true) G1 else tb τ G1 q|_=>False
def jg (ta:TE3):TE3:=fun τ G q=>ta τ G fun x G1=>match x with|.bl k=>q (.bl (!k)) G1|_=>False
theorem qpJ {op} (h:E3 X a ta):E3 X (.BoolOp op [a] pos) ta:=qlY h
theorem qpr (ha:E3 X a ta) (hb:E3 X (.BoolOp .And (b::ZP) pos) tb):E3 X (.BoolOp .And (a::b::ZP) pos) (zb ta tb):=
 XY (qmQ ha hb) fun _ _ _ ⟨τ,G,q,rl,h,af⟩=>zH rl h fun x G1 h1 v H1 rx hr1 k1 rl1=>by
  cases x with
  |bl k=>
   cases rx
   refine ⟨k,rfl,?_⟩
   cases k with
   |true=>rw [if_pos rfl];exact ⟨τ,G1,q,rl1,(show tb τ G1 q from by simpa using h1),af.back k1⟩
   |false=>rw [if_neg Bool.false_ne_true];exact af _ G1 (by simpa using h1) _ H1 (.bl false) hr1 k1
  |_=>exact h1.elim
theorem qpl (ha:E3 X a ta):E3 X (.UnaryOp .Not a pos) (jg ta):=
 XY (qji ha) fun _ _ _ ⟨τ,G,q,rl,h,af⟩=>zH rl h fun x G1 h1 v H1 rx hr1 k1 rl1=>by
  cases x with
  |bl k=>cases rx;exact ⟨k,rfl,af _ G1 h1 _ H1 (.bl _) hr1 k1⟩
  |_=>exact h1.elim
def if3 (t:TT3) (ta tb:TE3):TE3:=fun τ G q=>t τ G fun k G1=>if k=true then ta τ G1 q else tb τ G1 q
theorem qqP {c:Expr} (hc:C3 X c tA) (ha:E3 X a ta) (hb:E3 X b tb):E3 X (.IfExp c a b pos) (if3 tA ta tb):=
 XY (qeB hc ha hb) fun _ _ _ ⟨τ,G,q,rl,h,af⟩=>SO rl h fun k G1 h1 H1 hr1 k1 rl1=>by
  cases k with
  |true=>rw [if_pos rfl] at h1 ⊢;exact ⟨τ,G1,q,rl1,h1,af.back k1⟩
  |false=>rw [if_neg Bool.false_ne_true] at h1 ⊢;exact ⟨τ,G1,q,rl1,h1,af.back k1⟩
variable {e:Expr} {es:List Expr} {te:TE3} {t:TA3}
def qh:TA3:=fun _ G q=>q [] G
def qc (ta:TE3) (tr:TA3):TA3:=fun τ G q=>ta τ G fun x G1=>tr τ G1 fun xs G2=>q (x::xs) G2
theorem qpP:A3 X [] qh:=qqb SY fun _ H _ ⟨τ,G,q,rl,h,af⟩=>af _ G h _ H .nil rl.hp Kp.refl
theorem qjz (ha:E3 X e te) (hr:A3 X es t) (hs:starEach (e::es) X.env=(false,eval e X.env)::starEach es X.env:=by rfl):A3 X (e::es) (qc te t):=
 qqb (YK ha hr hs) fun _ _ _ ⟨τ,G,q,rl,h,af⟩=>zH rl h fun x G1 h1 v H1 rx hr1 k1 rl1=>VE rl1 h1 fun xs G2 h2 vs H2 rs hr2 k2 rl2=>
  af _ G2 h2 _ H2 (.cons (rx.keep hr1 k2) rs) hr2 (k1.trans k2)
def qU (t:TA3):TE3:=fun τ G q=>t τ G fun xs G1=>xs.length<=sizeLine/\q (.tup xs) G1
def zV (t:TA3):TE3:=fun τ G q=>t τ G fun xs G1=>xs.length<=sizeLine/\∀ p,G1 p=none->q (.ref p) (gu G1 p (.lst xs))
theorem qoV {x1} (h:A3 X es t):E3 X (.Tuple es x1 pos) (qU t):=
 XY (qfR h) fun _ _ _ ⟨τ,G,q,rl,h,af⟩=>VE rl h fun xs G1 h1 vs H1 rs hr1 k1 rl1=>⟨by rw [← rs.length];exact h1.1,fun p hp=>
  af _ G1 h1.2 _ _ (.tup (SqT.of zj) (rs.keep hr1 (Kp.laid hp))) (hr1.laid hp) (k1.trans (Kp.laid hp))⟩
theorem qpj (h:A3 X es t):E3 X (.List es pos) (zV t):=
 XY (qmT h) fun _ _ _ ⟨τ,G,q,rl,h,af⟩=>VE rl h fun xs G1 h1 vs H1 rs hr1 k1 rl1=>⟨by rw [← rs.length];exact h1.1,fun p hp=>
  af _ _ (h1.2 p (hr1.free hp)) _ _ (.ref p) (hr1.newL hp rs) (k1.trans (Kp.newL hp))⟩
def M7 (K:PySem.W.Frag) (r3:List T->Gp->Q3->Prop) (r:List V->Hp->VK->Prop):Prop:=∀ xs vs G H q Q,HR K G H->Rps K H xs vs->r3 xs G q->Aft K G H q Q->r vs H Q
def cb3 (r:List T->Gp->Q3->Prop) (t:TA3):TE3:=fun τ G q=>t τ G fun xs G1=>r xs G1 q
theorem qnB {K:PySem.W.Frag} {r3:List T->Gp->Q3->Prop} {r:List V->Hp->VK->Prop} (hr:M7 K r3 r) {σ:L2.St} {H:Hp} {Q:VK} (h:lE K (cb3 r3 t) σ H Q):tCB r (lA K t) σ H Q:=by
 obtain ⟨τ,G,q,rl,h,af⟩:=h
 exact VE rl h fun xs G1 h1 vs H1 rs hr1 k1 rl1=>hr xs vs G1 H1 q Q hr1 rs h1 (af.back k1)
theorem qhq {x:Str} {p:Pos} {id:String} {r3:List T->Gp->Q3->Prop} {r:List V->Hp->VK->Prop} (hc:JN X (.builtin id) r) (hr:M7 X.K r3 r) (hg:Gl X x) (hm:X.mg x=none) (hv:bootBuiltins x=some (.builtin id)) (ha:A3 X (e::es) t) (hn:x≠"__name__" := by decide) (hdb:(x==("__debug__" : Str))=false:=by decide)
  (he:starEach (e::es) X.env=(false,eval e X.env)::starEach es X.env:=by rfl) (hpl:(backTo pos (starEach es X.env)).any (·.1)=false:=by rfl):E3 X (.Call (.Name x p) (e::es) [] pos) (cb3 r3 t):=
 XY (X3 hc hg hm hv ha hn hdb he hpl) fun _ _ _ h=>qnB hr h
theorem qee {x:Str} {p:Pos} {ty:String} {r3:List T->Gp->Q3->Prop} {r:List V->Hp->VK->Prop} (hc:JN X (.type ty) r) (hr:M7 X.K r3 r) (hg:Gl X x) (hm:X.mg x=none) (hv:bootBuiltins x=some (.type ty)) (ha:A3 X (e::es) t) (hn:x≠"__name__" := by decide) (hdb:(x==("__debug__" : Str))=false:=by decide)
  (he:starEach (e::es) X.env=(false,eval e X.env)::starEach es X.env:=by rfl) (hpl:(backTo pos (starEach es X.env)).any (·.1)=false:=by rfl):E3 X (.Call (.Name x p) (e::es) [] pos) (cb3 r3 t):=
 XY (LC hc hg hm hv ha hn hdb he hpl) fun _ _ _ h=>qnB hr h
end
def getL (G:Gp) (p:Addr):Option (List T):=match G p with|some (.lst xs)=>some xs|some (.frz xs)=>some xs|none=>none
section
variable {K:PySem.W.Frag} {G G':Gp} {H H':Hp}
theorem zT (hr:HR K G H) {p:Addr} {xs:List T} (h:getL G p=some xs):∃ vs,SqL K H p vs/\Rps K H xs vs:=by
 unfold getL at h
 split at h
 ·rename_i ys e;cases h
  obtain ⟨vs,h1,h2⟩:=hr p _ e
  exact ⟨vs,SqL.of h1,h2⟩
 ·rename_i ys e;cases h
  obtain ⟨vs,⟨o,h1⟩,h2⟩:=hr p _ e
  exact ⟨vs,.inl (.inr ⟨o,h1⟩),h2⟩
 ·cases h
theorem HR.lst (hr:HR K G H) {p:Addr} {xs:List T} (h:G p=some (.lst xs)):∃ vs,H p=some (.lst vs)/\Rps K H xs vs:=hr p _ h
theorem Rps.atI {xs:List T} {vs:List V} {i:Int} {x:T} (r:Rps K H xs vs) (h:atI xs i=some x):∃ v,L2.atI vs i=some v/\Rp K H x v:=by
 unfold L2.atI at h ⊢
 rw [← r.length]
 cases e:ixN xs.length i with
 |none=>rw [e] at h;cases h
 |some j=>
  rw [e] at h
  exact r.get (by simpa using h)
end
def ix3:R3:=fun x y G q=>match x,y with
 |.tup xs,.int i=>(match atI xs i with|some z=>q z G|none=>False)
 |.ref p,.int i=>(match getL G p with|some xs=>(match atI xs i with|some z=>q z G|none=>False)|none=>False)
 |_,_=>False
section
variable {X:Cx} {a b c e:Expr} {es:List Expr} {ta tb tc te:TE3} {t:TA3} {pos:Pos}
theorem qjX {K:PySem.W.Frag}:CY K ix3 (rIx K):=fun x y v u G H q Q hr rx ry h af=>by
 cases x<;>try exact h.elim
 case tup xs=>
  cases y<;>try exact h.elim
  case int i=>
   unfold ix3 at h
   simp only at h
   split at h
   ·rename_i z e
    cases ry
    cases rx with
    |tup hs rs=>
     obtain ⟨w,e2,rw'⟩:=rs.atI e
     exact .inr (.inl ⟨_,_,i,w,rfl,rfl,hs,e2,af z G h w H rw' hr Kp.refl⟩)
   ·exact h.elim
 case ref p=>
  cases y<;>try exact h.elim
  case int i=>
   unfold ix3 at h
   simp only at h
   split at h
   ·rename_i xs e0
    split at h
    ·rename_i z e
     cases ry
     cases rx
     obtain ⟨vs,hs,rs⟩:=zT hr e0
     obtain ⟨w,e2,rw'⟩:=rs.atI e
     exact .inl ⟨p,vs,i,w,rfl,rfl,hs,e2,af z G h w H rw' hr Kp.refl⟩
    ·exact h.elim
   ·exact h.elim
theorem qqM (ha:E3 X a ta) (hb:E3 X b tb) (hs:WZ b:=by intro _ _;rfl):E3 X (.Subscript a b pos) (o3 ix3 ta tb):=XY (qlB qjA ha hb hs) fun _ _ _ h=>qeD qjX h
def ZO {α:Type} (xs:List α) (lo hi:Option Int):List α:=(xs.drop (HT.sIx xs.length 0 lo)).take (HT.sIx xs.length xs.length hi-HT.sIx xs.length 0 lo)
theorem Rps.cut {K:PySem.W.Frag} {H:Hp} {xs:List T} {vs:List V} (r:Rps K H xs vs) (lo hi:Option Int):Rps K H (ZO xs lo hi) (qe6 vs lo hi):=by
 unfold ZO qe6
 rw [r.length]
 exact (r.drop _).take _
abbrev TO3:=St3->Gp->(Option Int->Gp->Prop)->Prop
def lO (K:PySem.W.Frag) (t:TO3):TO:=fun σ H Q=>∃ τ G q,Rel K τ G σ H/\t τ G q/\∀ x G',q x G'->∀ H',HR K G' H'->Kp G H G' H'->Q x H'
abbrev P3 (X:Cx) (e:Option Expr) (t:TO3):Prop:=PO X e (lO X.K t)
def np3:TO3:=fun _ G q=>q none G
def sp3 (t:TE3):TO3:=fun τ G q=>t τ G fun x G1=>match x with|.int i=>q (some i) G1|_=>False
theorem qqp {X:Cx} {e:Option Expr} {t t':TO} (h:PO X e t) (w:∀ σ H Q,t' σ H Q->t σ H Q):PO X e t':=fun pins s σ H Q I q=>h pins s σ H Q I (w σ H Q q)
theorem qlJ:P3 X none np3:=qqp qiM fun _ H _ ⟨τ,G,q,rl,h,af⟩=>af none G h H rl.hp Kp.refl
theorem qkd (h:E3 X e te):P3 X (some e) (sp3 te):=qqp (qg1 h) fun _ _ _ ⟨τ,G,q,rl,h,af⟩=>zH rl h fun x G1 h1 v H1 rx hr1 k1 rl1=>by
 cases x<;>try exact h1.elim
 cases rx
 exact ⟨_,rfl,af _ G1 h1 H1 hr1 k1⟩
def sl3:T->Option Int->Option Int->Gp->Q3->Prop:=fun x lo hi G q=>match x with
 |.tup xs=>¬ (HT.sIx xs.length 0 lo=0/\HT.sIx xs.length xs.length hi=xs.length)/\q (.tup (ZO xs lo hi)) G
 |.ref p=>(match getL G p with|some xs=>∀ a,G a=none->q (.ref a) (gu G a (.lst (ZO xs lo hi)))|none=>False)
 |_=>False
def Z8 (te:TE3) (tl th:TO3):TE3:=fun τ G q=>te τ G fun x G1=>tl τ G1 fun l G2=>th τ G2 fun u G3=>sl3 x l u G3 q
theorem qhl {lo hi:Option Expr} {tl th:TO3} {p2:Pos} (he:E3 X e te) (hl:P3 X lo tl) (hu:P3 X hi th):E3 X (.Subscript e (.Slice lo hi none p2) pos) (Z8 te tl th):=
 XY (qeh (ql0.or qhf) he hl hu) fun _ _ _ ⟨τ,G,q,rl,h,af⟩=>zH rl h fun x G1 h1 v H1 rx hr1 k1 rl1=>
  ⟨τ,G1,_,rl1,h1,fun l G2 h2 H2 hr2 k2=>⟨τ,G2,_,rl1.next hr2 k2,h2,fun u G3 h3 H3 hr3 k3=>by
   have kk:=(k1.trans k2).trans k3
   have rx3:=(rx.keep hr1 k2).keep hr2 k3
   cases x<;>try exact h3.elim
   case tup xs=>
    cases rx3 with
    |tup hs rs=>
     refine .inl ⟨_,_,rfl,hs,by rw [← rs.length];exact h3.1,fun p hp=>?_⟩
     exact af _ G3 h3.2 _ _ (.tup (SqT.of zj) ((rs.cut _ _).keep hr3 (Kp.laid hp))) (hr3.laid hp) (kk.trans (Kp.laid hp))
   case ref p=>
    unfold sl3 at h3
    simp only at h3
    split at h3
    ·rename_i xs e0
     cases rx3
     obtain ⟨vs,hs,rs⟩:=zT hr3 e0
     refine .inr ⟨p,vs,rfl,hs,fun a ha=>?_⟩
     exact af _ _ (h3 a (hr3.free ha)) _ _ (.ref a) (hr3.newL ha (rs.cut _ _)) (kk.trans (Kp.newL ha))
    ·exact h3.elim⟩⟩
theorem qch {K:PySem.W.Frag} {H:Hp} {xs:List T} {vs:List V} (r:Rps K H xs vs):vs=[]↔xs=[]:=by
 cases r<;>simp
def qW:R3:=fun x y G q=>match x,y with
 |.tup xs,.tup ys=>xs≠[]/\xs.length+ys.length<=sizeLine/\q (.tup (xs++ys)) G
 |.ref a,.ref b=>(match G a,G b with|some (.lst xs),some (.lst ys)=>xs.length+ys.length<=sizeLine/\∀ p,G p=none->q (.ref p) (gu G p (.lst (xs++ys)))|_,_=>False)
 |.int i,.int j=>q (.int (i+j)) G
 |_,_=>False
theorem qh6 {K:PySem.W.Frag}:CY K qW (fun x y H Q=>(rI0 (fun i j=>.int (i+j)) x y H Q\/qjP K x y H Q)\/qqd x y H Q):=fun x y v u G H q Q hr rx ry h af=>by
 cases x<;>try exact h.elim
 case int i=>
  cases y<;>try exact h.elim
  cases rx;cases ry
  exact .inl (.inl ⟨_,_,rfl,rfl,af _ G h _ H (.int _) hr Kp.refl⟩)
 case tup xs=>
  cases y<;>try exact h.elim
  case tup ys=>
   obtain ⟨h1,h2,h3⟩:=h
   cases rx with
   |tup hs rs=>
    cases ry with
    |tup hs' rs'=>
     refine .inl (.inr ⟨_,_,_,_,rfl,rfl,hs,hs',fun z=>h1 ((qch rs).mp z),by rw [← rs.length,← rs'.length];exact h2,fun z=>?_,fun z p hp=>?_⟩)
     ·have e:=(qch rs').mp z
      subst e
      rw [List.append_nil] at h3
      exact af _ G h3 _ H (.tup hs rs) hr Kp.refl
     ·exact af _ G h3 _ _ (.tup (SqT.of zj) ((rs.append rs').keep hr (Kp.laid hp))) (hr.laid hp) (Kp.laid hp)
 case ref a=>
  cases y<;>try exact h.elim
  case ref b=>
   unfold qW at h
   simp only at h
   split at h
   ·rename_i xs ys e1 e2
    cases rx;cases ry
    obtain ⟨vs,g1,r1⟩:=hr.lst e1
    obtain ⟨us,g2,r2⟩:=hr.lst e2
    refine .inr ⟨a,b,vs,us,rfl,rfl,g1,g2,by rw [← r1.length,← r2.length];exact h.1,fun p hp=>?_⟩
    exact af _ _ (h.2 p (hr.free hp)) _ _ (.ref p) (hr.newL hp (r1.append r2)) (Kp.newL hp)
   ·exact h.elim
theorem qmn (ha:E3 X a ta) (hb:E3 X b tb):E3 X (.BinOp a .Add b pos) (o3 qW ta tb):=qdK ((qm8.or qg0).or qkJ) qh6 ha hb
def zr:T->Bool
 |.non=>true|.bl _=>true|.int _=>true|.str _=>true|_=>false
def eqF:T->T->Bool
 |.non,.non=>true
 |.bl a,.bl b=>a==b
 |.bl a,.int b=>(if a then 1 else 0)==b
 |.int a,.bl b=>a==(if b then 1 else 0)
 |.int a,.int b=>a==b
 |.str a,.str b=>a==b
 |_,_=>false
theorem MY {K:PySem.W.Frag} {H:Hp} {x:T} {v:V} (r:Rp K H x v) (h:zr x=true):R6 v=true:=by
 cases r<;>first|rfl|(cases h)
theorem TR {K:PySem.W.Frag} {H:Hp}:∀ {x:List T} {v:List V},Rps K H x v->x.all zr=true->v.all R6=true
 |_,_,.nil,_=>rfl
 |_,_,.cons a b,h=>by
  rw [List.all_cons,Bool.and_eq_true] at h ⊢
  exact ⟨MY a h.1,TR b h.2⟩
theorem qlp {K:PySem.W.Frag} {H:Hp} {x y:T} {v u:V} (r:Rp K H x v) (s:Rp K H y u) (h:zr x=true) (h':zr y=true):eqV v u=eqF x y:=by
 cases r<;>first|(cases h;done)|(cases s<;>first|rfl|(cases h';done))
theorem qcQ {K:PySem.W.Frag} {H:Hp} {x:T} {v:V} (r:Rp K H x v) (h:zr x=true):∀ {ys:List T} {us:List V},Rps K H ys us->ys.all zr=true->inV v us=ys.any fun y=>eqF y x
 |_,_,.nil,_=>rfl
 |_,_,.cons a b,h'=>by
  rw [List.all_cons,Bool.and_eq_true] at h'
  unfold inV
  rw [List.any_cons,List.any_cons,qlp a r h'.1 h]
  congr 1
  exact qcQ r h b h'.2
def in3 (neg:Bool):R3:=fun x y G q=>zr x=true/\match y with
 |.tup ys=>ys.all zr=true/\q (.bl (if neg then !(ys.any fun y=>eqF y x) else (ys.any fun y=>eqF y x))) G
 |.ref p=>(match getL G p with|some ys=>ys.all zr=true/\q (.bl (if neg then !(ys.any fun y=>eqF y x) else (ys.any fun y=>eqF y x))) G|none=>False)
 |_=>False
theorem qdd {K:PySem.W.Frag} {neg:Bool}:CY K (in3 neg) (rIn K neg):=fun x y v u G H q Q hr rx ry h af=>by
 obtain ⟨hf,h⟩:=h
 cases y<;>try exact h.elim
 case tup ys=>
  cases ry with
  |tup hs rs=>
   refine ⟨_,_,rfl,.inr hs,MY rx hf,TR rs h.1,?_⟩
   rw [qcQ rx hf rs h.1]
   exact af _ G h.2 _ H (.bl _) hr Kp.refl
 case ref p=>
  simp only at h
  split at h
  ·rename_i ys e
   cases ry
   obtain ⟨us,hs,rs⟩:=zT hr e
   refine ⟨_,_,rfl,.inl hs,MY rx hf,TR rs h.1,?_⟩
   rw [qcQ rx hf rs h.1]
   exact af _ G h.2 _ H (.bl _) hr Kp.refl
  ·exact h.elim
def jT:List T->Gp->Q3->Prop:=fun xs G q=>match xs with
 |[.tup ys]=>q (.int ys.length) G
 |[.str y]=>y.length<=sizeLine/\q (.int y.length) G
 |[.ref p]=>(match getL G p with|some ys=>q (.int ys.length) G|none=>False)
 |_=>False
theorem KJ {K:PySem.W.Frag} {H:Hp} {x:T} {vs:List V} (r:Rps K H [x] vs):∃ v,vs=[v]/\Rp K H x v:=by
 cases r with
 |cons a b=>cases b;exact ⟨_,rfl,a⟩
theorem qn0 {K:PySem.W.Frag} {H:Hp} {x y:T} {vs:List V} (r:Rps K H [x,y] vs):∃ v u,vs=[v,u]/\Rp K H x v/\Rp K H y u:=by
 cases r with
 |cons a b=>cases b with|cons c d=>cases d;exact ⟨_,_,rfl,a,c⟩
theorem je {K:PySem.W.Frag}:M7 K jT (fun xs H Q=>∃ x n,xs=[x]/\qqn K x H n/\Q (.int n) H):=fun xs vs G H q Q hr rs h af=>by
 unfold jT at h
 split at h
 ·obtain ⟨v,rfl,r⟩:=KJ rs
  cases r with
  |tup hs r2=>exact ⟨_,_,rfl,.inr ⟨_,hs,rfl⟩,by rw [← r2.length];exact af _ G h _ H (.int _) hr Kp.refl⟩
 ·obtain ⟨v,rfl,r⟩:=KJ rs
  cases r
  exact ⟨_,_,rfl,⟨h.1,rfl⟩,af _ G h.2 _ H (.int _) hr Kp.refl⟩
 ·obtain ⟨v,rfl,r⟩:=KJ rs
  split at h
  ·rename_i ys e
   cases r
   obtain ⟨us,hs,r2⟩:=zT hr e
   exact ⟨_,_,rfl,.inl ⟨_,hs,rfl⟩,by rw [← r2.length];exact af _ G h _ H (.int _) hr Kp.refl⟩
  ·exact h.elim
 ·exact h.elim
def UD:List T->Gp->Q3->Prop:=fun xs G q=>match xs with|[.int i]=>q (.int (if i<0 then -i else i)) G|_=>False
theorem qc3 {K:PySem.W.Frag}:M7 K UD (fun xs H Q=>∃ i,xs=[.int i]/\Q (.int (if i<0 then -i else i)) H):=fun xs vs G H q Q hr rs h af=>by
 unfold UD at h
 split at h
 ·obtain ⟨v,rfl,r⟩:=KJ rs
  cases r
  exact ⟨_,rfl,af _ G h _ H (.int _) hr Kp.refl⟩
 ·exact h.elim
def VP:List T->Gp->Q3->Prop:=fun xs G q=>match xs with|[.int i,.int j]=>q (.int (if j<i then j else i)) G|_=>False
theorem qhR {K:PySem.W.Frag}:M7 K VP (fun xs H Q=>∃ i j,xs=[.int i,.int j]/\Q (.int (if j<i then j else i)) H):=fun xs vs G H q Q hr rs h af=>by
 unfold VP at h
 split at h
 ·obtain ⟨v,u,rfl,r,r'⟩:=qn0 rs
  cases r;cases r'
  exact ⟨_,_,rfl,af _ G h _ H (.int _) hr Kp.refl⟩
 ·exact h.elim
def DX:List T->Gp->Q3->Prop:=fun xs G q=>match xs with|[.int i,.int j]=>q (.int (if j > i then j else i)) G|_=>False
def J3:List T->Gp->Q3->Prop:=fun xs G q=>match xs with|[.int i]=>q (.int i) G|[.bl k]=>q (.int (if k then 1 else 0)) G|_=>False
theorem NU {K:PySem.W.Frag}:M7 K J3 (fun xs H Q=>(∃ i,xs=[.int i]/\Q (.int i) H)\/∃ k,xs=[.bl k]/\Q (.int (if k then 1 else 0)) H):=fun xs vs G H q Q hr rs h af=>by
 unfold J3 at h
 split at h
 ·obtain ⟨v,rfl,r⟩:=KJ rs
  cases r
  exact .inl ⟨_,rfl,af _ G h _ H (.int _) hr Kp.refl⟩
 ·obtain ⟨v,rfl,r⟩:=KJ rs
  cases r
  exact .inr ⟨_,rfl,af _ G h _ H (.int _) hr Kp.refl⟩
 ·exact h.elim
def qF:List T->Gp->Q3->Prop:=fun xs G q=>match xs with
 |[.tup ys]=>q (.tup ys) G
 |[.ref p]=>(match getL G p with|some ys=>q (.tup ys) G|none=>False)
 |_=>False
theorem jr {K:PySem.W.Frag}:M7 K qF (fun xs H Q=>∃ p ys,xs=[.ref p]/\((SqL K H p ys/\∀ l,H l=none->Q (.ref l) (upd H l (.tup ys)))\/(SqT K H p ys/\Q (.ref p) H))):=fun xs vs G H q Q hr rs h af=>by
 unfold qF at h
 split at h
 ·obtain ⟨v,rfl,r⟩:=KJ rs
  cases r with
  |tup hs r2=>exact ⟨_,_,rfl,.inr ⟨hs,af _ G h _ H (.tup hs r2) hr Kp.refl⟩⟩
 ·obtain ⟨v,rfl,r⟩:=KJ rs
  split at h
  ·rename_i ys e
   cases r
   obtain ⟨us,hs,r2⟩:=zT hr e
   exact ⟨_,_,rfl,.inl ⟨hs,fun l hl=>af _ G h _ _ (.tup (SqT.of zj) (r2.keep hr (Kp.laid hl))) (hr.laid hl) (Kp.laid hl)⟩⟩
  ·exact h.elim
 ·exact h.elim
def zY:List T->Gp->Q3->Prop:=fun xs G q=>match xs with
 |[.tup ys]=>∀ p,G p=none->q (.ref p) (gu G p (.lst ys))
 |[.ref p]=>(match getL G p with|some ys=>∀ p,G p=none->q (.ref p) (gu G p (.lst ys))|none=>False)
 |_=>False
theorem qar {K:PySem.W.Frag}:M7 K zY (fun xs H Q=>∃ p ys,xs=[.ref p]/\(SqL K H p ys\/SqT K H p ys)/\∀ l,H l=none->Q (.ref l) (upd H l (.lst ys))):=fun xs vs G H q Q hr rs h af=>by
 unfold zY at h
 split at h
 ·obtain ⟨v,rfl,r⟩:=KJ rs
  cases r with
  |tup hs r2=>exact ⟨_,_,rfl,.inr hs,fun l hl=>af _ _ (h l (hr.free hl)) _ _ (.ref l) (hr.newL hl r2) (Kp.newL hl)⟩
 ·obtain ⟨v,rfl,r⟩:=KJ rs
  split at h
  ·rename_i ys e
   cases r
   obtain ⟨us,hs,r2⟩:=zT hr e
   exact ⟨_,_,rfl,.inl hs,fun l hl=>af _ _ (h l (hr.free hl)) _ _ (.ref l) (hr.newL hl r2) (Kp.newL hl)⟩
  ·exact h.elim
 ·exact h.elim
def YW:T->List T->Gp->Q3->Prop:=fun x xs G q=>match x,xs with
 |.ref l,[.ref b]=>(match G l,G b with|some (.lst ys),some (.lst zs)=>ys.length+zs.length<=sizeLine/\q .non (gu G l (.lst (ys++zs)))|_,_=>False)
 |_,_=>False
def YQ:T->List T->Gp->Q3->Prop:=fun x xs G q=>match x,xs with
 |.ref l,[y]=>(match G l with|some (.lst ys)=>ys.length<sizeLine/\q .non (gu G l (.lst (ys++[y])))|_=>False)
 |_,_=>False
def qoB (K:PySem.W.Frag) (r3:T->List T->Gp->Q3->Prop) (r:V->List V->Hp->VK->Prop):Prop:=∀ x xs v vs G H q Q,HR K G H->Rp K H x v->Rps K H xs vs->r3 x xs G q->Aft K G H q Q->r v vs H Q
theorem qhJ {K:PySem.W.Frag}:qoB K YW qdu:=fun x xs v vs G H q Q hr rx rs h af=>by
 unfold YW at h
 split at h
 ·rename_i l b
  split at h
  ·rename_i ys zs e1 e2
   cases rx
   obtain ⟨u,rfl,r⟩:=KJ rs
   cases r
   obtain ⟨vs,g1,r1⟩:=hr.lst e1
   obtain ⟨us,g2,r2⟩:=hr.lst e2
   exact ⟨l,b,vs,us,rfl,rfl,g1,g2,by rw [← r1.length,← r2.length];exact h.1,af _ _ h.2 _ _ .non (hr.wr e1 (r1.append r2)) (Kp.wr e1)⟩
  ·exact h.elim
 ·exact h.elim
theorem qis {K:PySem.W.Frag}:qoB K YQ qb9:=fun x xs v vs G H q Q hr rx rs h af=>by
 unfold YQ at h
 split at h
 ·rename_i l y
  split at h
  ·rename_i ys e1
   cases rx
   obtain ⟨u,rfl,r⟩:=KJ rs
   obtain ⟨vs,g1,r1⟩:=hr.lst e1
   exact ⟨l,vs,u,rfl,rfl,g1,by rw [← r1.length];exact h.1,af _ _ h.2 _ _ .non (hr.wr e1 (r1.append (.cons r .nil))) (Kp.wr e1)⟩
  ·exact h.elim
 ·exact h.elim
def bm3 (r:T->List T->Gp->Q3->Prop) (to:TE3) (t:TA3):TE3:=fun τ G q=>to τ G fun x G1=>(match x with|.ref p=>(getL G1 p).isSome=true|_=>False)/\t τ G1 fun xs G2=>r x xs G2 q
theorem qqi {o:Expr} {to:TE3} {name:Str} {apos cpos:Pos} {id:String} {r3:T->List T->Gp->Q3->Prop} {r:V->List V->Hp->VK->Prop} (slot:Slot "list" name id) (hty:typeOf (.builtin id)=pure (.type "method_descriptor")) (hm:MtR X id r) (hr:qoB X.K r3 r) (ho:E3 X o to) (ha:A3 X (e::es) t)
  (hbase:attributeBase o name X.env (eval o X.env)=eval o X.env:=by rfl)
  (hfew:((backTo cpos (starEach (e::es) X.env)).all (fun x=>!x.1)&&(backToKw cpos (keywordEach [] X.env)).all (fun x=>x.1.isSome)
   && decide ((e::es).length+([]:List Keyword).length+(if ([]:List Keyword).isEmpty then 0 else 1)<30))=true:=by rfl)
  (hline:(apos.endLine==cpos.line)=true:=by rfl) (hs:starEach (e::es) X.env=(false,eval e X.env)::starEach es X.env:=by rfl) (hplain:(backTo cpos (starEach es X.env)).any (·.1)=false:=by rfl) :
  E3 X (.Call (.Attribute o name apos) (e::es) [] cpos) (bm3 r3 to t):=
 XY (qoU PySem.F.plainAttrs_list slot hty hm ho ha hbase hfew hline hs hplain) fun _ _ _ ⟨τ,G,q,rl,h,af⟩=>zH rl h fun x G1 h1 v H1 rx hr1 k1 rl1=>by
  obtain ⟨hp,h1⟩:=h1
  cases x<;>try exact hp.elim
  case ref p=>
   cases rx
   have hp':(getL G1 p).isSome=true:=hp
   obtain ⟨ys,e⟩:=Option.isSome_iff_exists.mp hp'
   obtain ⟨us,hs,r2⟩:=zT hr1 e
   exact ⟨.inl ⟨rfl,us,hs⟩,VE rl1 h1 fun xs G2 h2 vs H2 rs hr2 k2 rl2=>hr _ xs _ vs G2 H2 q _ hr2 (.ref p) rs h2 (af.back (k1.trans k2))⟩
theorem qdS {o:Expr} {to:TE3} {apos cpos:Pos} (ho:E3 X o to) (ha:A3 X [e] t)
  (hbase:attributeBase o "append" X.env (eval o X.env)=eval o X.env:=by rfl)
  (hfew:((backTo cpos (starEach [e] X.env)).all (fun x=>!x.1)&&(backToKw cpos (keywordEach [] X.env)).all (fun x=>x.1.isSome)
   && decide (([e]:List Expr).length+([]:List Keyword).length+(if ([]:List Keyword).isEmpty then 0 else 1)<30))=true:=by rfl)
  (hline:(apos.endLine==cpos.line)=true:=by rfl) (hs:starEach [e] X.env=(false,eval e X.env)::starEach [] X.env:=by rfl) (hplain:(backTo cpos (starEach [] X.env)).any (·.1)=false:=by rfl) :
  E3 X (.Call (.Attribute o "append" apos) [e] [] cpos) (bm3 YQ to t):=qqi PySem.F.slot_list_append PySem.F.type_list_append DS qis ho ha hbase hfew hline hs hplain
theorem qes {o:Expr} {to:TE3} {apos cpos:Pos} (ho:E3 X o to) (ha:A3 X [e] t)
  (hbase:attributeBase o "extend" X.env (eval o X.env)=eval o X.env:=by rfl)
  (hfew:((backTo cpos (starEach [e] X.env)).all (fun x=>!x.1)&&(backToKw cpos (keywordEach [] X.env)).all (fun x=>x.1.isSome)
   && decide (([e]:List Expr).length+([]:List Keyword).length+(if ([]:List Keyword).isEmpty then 0 else 1)<30))=true:=by rfl)
  (hline:(apos.endLine==cpos.line)=true:=by rfl) (hs:starEach [e] X.env=(false,eval e X.env)::starEach [] X.env:=by rfl) (hplain:(backTo cpos (starEach [] X.env)).any (·.1)=false:=by rfl) :
  E3 X (.Call (.Attribute o "extend" apos) [e] [] cpos) (bm3 YW to t):=qqi PySem.F.slot_list_extend PySem.F.type_list_extend qc2 qhJ ho ha hbase hfew hline hs hplain
end
def tyT (G:Gp):T->Option String
 |.non=>some "NoneType" |.bl _=>some "bool" |.int _=>some "int" |.str _=>some "str" |.tup _=>some "tuple"
 |.ref p=>if (getL G p).isSome then some "list" else none
def jn (t c:String):Bool:=t==c||(t == "bool" && c == "int")
theorem TM (K:PySem.W.Frag):∀ t∈["NoneType","bool","int","str","tuple","list"],∀ c∈["bool","int","str","tuple","list"],PySem.W.kitOne K (.type t) (.type c)=some (jn t c):=by
 intro t ht c hc
 simp only [mem_cons,not_mem_nil,or_false] at ht hc
 rcases ht with rfl|rfl|rfl|rfl|rfl|rfl<;>rcases hc with rfl|rfl|rfl|rfl|rfl<;>kernel_rfl
section
variable {X:Cx} {a b c e:Expr} {es:List Expr} {ta tb tc te:TE3} {t:TA3} {pos:Pos}
def TyS (K:PySem.W.Frag) (H:Hp) (x:V) (t:String):Prop:=match x with
 |.non=>t="NoneType" |.bl _=>t="bool" |.int _=>t="int" |.str _=>t="str"
 |.ref a=>(t="tuple"/\∃ vs,SqT K H a vs)\/(t="list"/\∃ vs,SqL K H a vs)
 |_=>False
theorem TyS.mem {K:PySem.W.Frag} {H:Hp} {x:V} {t:String} (h:TyS K H x t):t∈["NoneType","bool","int","str","tuple","list"]:=by
 cases x<;>simp [TyS] at h<;>first|(subst h;decide)|(rcases h with ⟨rfl,_⟩|⟨rfl,_⟩<;>decide)
theorem TyS.kitx {pins:List (Addr×Obj)} {σ:L2.St} {H:Hp} {s:Shared} {x:V} {u:Value} {t:String} (I:Inv X pins σ H s) (rx:jO x u) (h:TyS X.K H x t) :
  ∃ HH:Heap->Prop,PySem.W.KitX X.K u (.type t) HH/\HH s.heap/\u≠.builtin "__main__.__loader__#opaque" := by
 cases x with
 |non=>cases (show u=Value.none from rx);cases (show t=_ from h);exact ⟨_,PySem.W.kitx_none,True.intro,fun z=>nomatch z⟩
 |bl y=>cases (show u=Value.bool y from rx);cases (show t=_ from h);exact ⟨_,PySem.W.kitx_bool,True.intro,fun z=>nomatch z⟩
 |int i=>obtain ⟨tk,q⟩:=(show ∃ t,u=Value.int i t from rx);cases q;cases (show t=_ from h);exact ⟨_,PySem.W.kitx_int,True.intro,fun z=>nomatch z⟩
 |str y=>obtain ⟨tk,q⟩:=(show ∃ t,u=Value.str y t from rx);cases q;cases (show t=_ from h);exact ⟨_,PySem.W.kitx_str,True.intro,fun z=>nomatch z⟩
 |ref a=>
  cases (show u=Value.ref a from rx)
  rcases (show (t="tuple"/\∃ vs,SqT X.K H a vs)\/(t="list"/\∃ vs,SqL X.K H a vs) from h) with ⟨rfl,vs,hs⟩|⟨rfl,vs,hs⟩
  ·obtain ⟨its,_,p,_⟩:=I.tuple hs
   obtain ⟨o,h1,h2,_⟩:=p
   exact ⟨_,PySem.W.kitx_tuple,⟨o,h1,h2⟩,fun z=>nomatch z⟩
  ·obtain ⟨its,_,p,_⟩:=I.list hs
   obtain ⟨o,n,h1,h2,_⟩:=p
   exact ⟨_,PySem.W.kitx_list,⟨o,h1,h2⟩,fun z=>nomatch z⟩
 |_=>exact False.elim h
abbrev ZE:List String:=["bool","int","str","tuple","list"]
theorem qdV:JN X (.builtin "isinstance") (fun xs H Q=>∃ x t c,xs=[x,.ty c]/\TyS X.K H x t/\c∈ZE/\Q (.bl (jn t c)) H):=by
 intro pins s σ H xs us Q I r h
 obtain ⟨x,t,c,rfl,ht,hc,q⟩:=h
 obtain ⟨u,w,rfl,rx,rc⟩:=qcb r
 cases (show w=Value.type c from rc)
 obtain ⟨HH,kx,hh,ne⟩:=ht.kitx I rx
 exact PySem.W.kia_one kx I.kIn hh (TM X.K t ht.mem c hc) ne fun tk=>⟨.bl _,H,I.tok tk,rfl,q⟩
theorem qdH (K:PySem.W.Frag) {t c d:String} (ht:t∈["NoneType","bool","int","str","tuple","list"]) (hc:c∈ZE) (hd:d∈ZE):PySem.W.kitAny K (.type t) [.type c,.type d]=some (jn t c||jn t d):=by
 unfold PySem.W.kitAny
 rw [TM K t ht c hc]
 cases jn t c with
 |true=>rfl
 |false=>
  show PySem.W.kitAny K (.type t) [.type d]=_
  unfold PySem.W.kitAny
  rw [TM K t ht d hd]
  cases jn t d<;>rfl
theorem qdb:JN X (.builtin "isinstance") (fun xs H Q=>∃ x t c d p,xs=[x,.ref p]/\H p=some (.tup [.ty c,.ty d])/\TyS X.K H x t/\c∈ZE/\d∈ZE/\Q (.bl (jn t c||jn t d)) H):=by
 intro pins s σ H xs us Q I r h
 obtain ⟨x,t,c,d,p,rfl,hp,ht,hc,hd,q⟩:=h
 obtain ⟨u,w,rfl,rx,rc⟩:=qcb r
 cases (show w=Value.ref p from rc)
 obtain ⟨HH,kx,hh,ne⟩:=ht.kitx I rx
 obtain ⟨_,its,rv,⟨o,ho,hcl,n,hda⟩⟩:=(show UZ X.prog X.w H s.heap p (.tup [.ty c,.ty d]) from I.hok p _ hp)
 obtain ⟨u1,u2,rfl,r1,r2⟩:=qcb rv
 cases (show u1=Value.type c from r1)
 cases (show u2=Value.type d from r2)
 obtain ⟨cl,dd,da,sl⟩:=o
 cases (show cl=_ from hcl)
 cases (show da=_ from hda)
 exact PySem.W.kia_tup kx I.kIn hh ho (qdH X.K ht.mem hc hd) ne fun tk=>⟨.bl _,H,I.tok tk,rfl,q⟩
theorem qgM {K:PySem.W.Frag} {G:Gp} {H:Hp} (hr:HR K G H) {x:T} {v:V} {t:String} (r:Rp K H x v) (h:tyT G x=some t):TyS K H v t:=by
 cases r with
 |non=>cases h;rfl
 |bl _=>cases h;rfl
 |int _=>cases h;rfl
 |str _=>cases h;rfl
 |tup hs rs=>cases h;exact .inl ⟨rfl,_,hs⟩
 |ref a=>
  have h:(if (getL G a).isSome then some "list" else none)=some t:=h
  split at h
  ·rename_i e
   cases h
   obtain ⟨ys,e⟩:=Option.isSome_iff_exists.mp e
   obtain ⟨us,hs,_⟩:=zT hr e
   exact .inr ⟨rfl,us,hs⟩
  ·cases h
def QT (f:String->Bool) (te:TE3):TE3:=fun τ G q=>te τ G fun x G1=>match tyT G1 x with|some t=>q (.bl (f t)) G1|none=>False
theorem qpt {tn:Str} {ty:String} {p p2:Pos} (he:E3 X e te) (hg:Gl X "isinstance") (hm:X.mg "isinstance" = none) (hg2:Gl X tn) (hm2:X.mg tn=none) (hv:bootBuiltins tn=some (.type ty)) (hmem:ty∈ZE:=by decide) (hn:tn≠"__name__" := by decide) (hdb:(tn==("__debug__" : Str))=false:=by decide)
  (hs:starEach [e,.Name tn p2] X.env=(false,eval e X.env)::starEach [.Name tn p2] X.env:=by rfl) (hs2:starEach [.Name tn p2] X.env=(false,eval (.Name tn p2) X.env)::starEach [] X.env:=by rfl) (hpl:(backTo pos (starEach [.Name tn p2] X.env)).any (·.1)=false:=by rfl) :
  E3 X (.Call (.Name "isinstance" p) [e,.Name tn p2] [] pos) (QT (fun t=>jn t ty) te):=
 XY (X3 qdV hg hm PyProof.Rows.boot_isinstance (YK he (YK (ND (v:=.ty ty) hg2 hm2 hv rfl hn hdb) SY hs2) hs) (by decide) (by decide) hs hpl)
  fun _ _ _ ⟨τ,G,q,rl,h,af⟩=>zH rl h fun x G1 h1 v H1 rx hr1 k1 rl1=>by
   split at h1
   ·rename_i t e1
    exact ⟨_,t,ty,rfl,qgM hr1 rx e1,hmem,af _ G1 h1 _ H1 (.bl _) hr1 k1⟩
   ·exact h1.elim
theorem qnG {tn tn':Str} {ty ty':String} {p p2 p3 p4:Pos} {x1} (he:E3 X e te) (hg:Gl X "isinstance") (hm:X.mg "isinstance" = none) (hg2:Gl X tn) (hm2:X.mg tn=none) (hv:bootBuiltins tn=some (.type ty)) (hg3:Gl X tn') (hm3:X.mg tn'=none) (hv3:bootBuiltins tn'=some (.type ty'))
  (hmem:ty∈ZE:=by decide) (hn:tn≠"__name__" := by decide) (hdb:(tn==("__debug__" : Str))=false:=by decide) (hmem3:ty'∈ZE:=by decide) (hn3:tn'≠"__name__" := by decide) (hdb3:(tn'==("__debug__" : Str))=false:=by decide)
  (hs:starEach [e,.Tuple [.Name tn p2,.Name tn' p3] x1 p4] X.env=(false,eval e X.env)::starEach [.Tuple [.Name tn p2,.Name tn' p3] x1 p4] X.env:=by rfl) (hs2:starEach [.Tuple [.Name tn p2,.Name tn' p3] x1 p4] X.env=(false,eval (.Tuple [.Name tn p2,.Name tn' p3] x1 p4) X.env)::starEach [] X.env:=by rfl)
  (hs3:starEach [.Name tn p2,.Name tn' p3] X.env=(false,eval (.Name tn p2) X.env)::starEach [.Name tn' p3] X.env:=by rfl) (hs4:starEach [.Name tn' p3] X.env=(false,eval (.Name tn' p3) X.env)::starEach [] X.env:=by rfl)
  (hpl:(backTo pos (starEach [.Tuple [.Name tn p2,.Name tn' p3] x1 p4] X.env)).any (·.1)=false:=by rfl) :
  E3 X (.Call (.Name "isinstance" p) [e,.Tuple [.Name tn p2,.Name tn' p3] x1 p4] [] pos) (QT (fun t=>jn t ty||jn t ty') te):=
 XY (X3 qdb hg hm PyProof.Rows.boot_isinstance (YK he (YK (qfR (YK (ND (v:=.ty ty) hg2 hm2 hv rfl hn hdb) (YK (ND (v:=.ty ty') hg3 hm3 hv3 rfl hn3 hdb3) SY hs4) hs3)) SY hs2) hs) (by decide) (by decide) hs hpl)
  fun _ _ _ ⟨τ,G,q,rl,h,af⟩=>zH rl h fun x G1 h1 v H1 rx hr1 k1 rl1=>by
   refine ⟨by show 2<=sizeLine;decide,fun pp hp=>?_⟩
   split at h1
   ·rename_i t e1
    have hr2:=hr1.laid (ho:=.tup [.ty ty,.ty ty']) hp
    have kk:Kp G1 H1 G1 (upd H1 pp (.tup [.ty ty,.ty ty'])):=Kp.laid hp
    exact ⟨_,t,ty,ty',pp,rfl,zj,qgM hr2 (rx.keep hr1 kk) e1,hmem,hmem3,af _ G1 h1 _ _ (.bl _) hr2 (k1.trans kk)⟩
   ·exact h1.elim
structure Ends3 where
 nx:St3->Gp->Prop
 rt:Q3
 bk:St3->Gp->Prop:=fun _ _=>False
 ct:St3->Gp->Prop:=fun _ _=>False
abbrev TS3:=Ends3->St3->Gp->Prop
def qeR (K:PySem.W.Frag) (G:Gp) (H:Hp) (q:St3->Gp->Prop) (Q:L2.St->Hp->Prop):Prop:=∀ τ G',q τ G'->∀ σ H',Rel K τ G' σ H'->Kp G H G' H'->Q σ H'
structure AftD (K:PySem.W.Frag) (G:Gp) (H:Hp) (d:Ends3) (D:Ends):Prop where
 nx:qeR K G H d.nx D.nx
 rt:Aft K G H d.rt D.rt
 bk:qeR K G H d.bk D.bk
 ct:qeR K G H d.ct D.ct
theorem qeR.back {K:PySem.W.Frag} {G G1:Gp} {H H1:Hp} {q:St3->Gp->Prop} {Q:L2.St->Hp->Prop} (a:qeR K G H q Q) (k:Kp G H G1 H1):qeR K G1 H1 q Q:=fun x G' h v H' r k'=>a x G' h v H' r (k.trans k')
theorem AftD.back {K:PySem.W.Frag} {G G1:Gp} {H H1:Hp} {d:Ends3} {D:Ends} (a:AftD K G H d D) (k:Kp G H G1 H1):AftD K G1 H1 d D:=⟨a.nx.back k,a.rt.back k,a.bk.back k,a.ct.back k⟩
def lS (K:PySem.W.Frag) (t:TS3):TS:=fun D σ H=>∃ τ G d,Rel K τ G σ H/\t d τ G/\AftD K G H d D
abbrev S3 (X:Cx) (st:Stmt) (t:TS3):Prop:=PS X st (lS X.K t)
abbrev B3 (X:Cx) (st:List Stmt) (t:TS3):Prop:=PSs X st (lS X.K t)
theorem qdB {X:Cx} {st:Stmt} {t t':TS} (h:PS X st t) (w:∀ D σ H,t' D σ H->t D σ H):PS X st t':=fun pins s σ H D I q=>h pins s σ H D I (w D σ H q)
theorem qj5 {X:Cx} {st:List Stmt} {t t':TS} (h:PSs X st t) (w:∀ D σ H,t' D σ H->t D σ H):PSs X st t':=fun pins s σ H D I q=>h pins s σ H D I (w D σ H q)
variable {st:Stmt} {ZP:List Stmt} {t1 t2:TS3} {tA:TT3}
def qt:TS3:=fun d τ G=>d.nx τ G
def qv (t u:TS3):TS3:=fun d τ G=>t { d with nx:=u d } τ G
theorem qpA:B3 X [] qt:=qj5 qgZ fun _ σ H ⟨τ,G,d,rl,h,af⟩=>af.nx τ G h σ H rl Kp.refl
theorem qkF (h1:S3 X st t1) (h2:B3 X ZP t2):B3 X (st::ZP) (qv t1 t2):=qj5 (qdP h1 h2) fun D σ H ⟨τ,G,d,rl,h,af⟩=>
 ⟨τ,G,{ d with nx:=t2 d },rl,h,⟨fun τ' G' h' σ' H' rl' k'=>⟨τ',G',d,rl',h',af.back k'⟩,af.rt,af.bk,af.ct⟩⟩
theorem qpH (h1:S3 X st t1):B3 X [st] t1:=qh5 h1
def zE (te:TE3):TS3:=fun d τ G=>te τ G fun _ G1=>d.nx τ G1
theorem qli (he:E3 X e te) (hs:swapsWith e none pos.line X.env=pure false:=by rfl):S3 X (.Expr e pos) (zE te):=qdB (qg4 he hs) fun _ σ H ⟨τ,G,d,rl,h,af⟩=>
 zH rl h fun x G1 h1 v H1 rx hr1 k1 rl1=>af.nx τ G1 h1 σ H1 rl1 k1
def qB (te:TE3):TS3:=fun d τ G=>te τ G d.rt
theorem qod (he:E3 X e te):S3 X (.Return (some e) pos) (qB te):=qdB (qmZ he) fun _ σ H ⟨τ,G,d,rl,h,af⟩=>⟨τ,G,d.rt,rl,h,af.rt⟩
def jS:TS3:=fun d _ G=>d.rt .non G
def qV (c:TT3) (t u:TS3):TS3:=fun d τ G=>c τ G fun k G1=>if k=true then t d τ G1 else u d τ G1
theorem qq6 {c:Expr} {ba bb:List Stmt} (hc:C3 X c tA) (ha:B3 X ba t1) (hb:B3 X bb t2):S3 X (.If c ba bb pos) (qV tA t1 t2):=qdB (qpq hc ha hb) fun _ σ H ⟨τ,G,d,rl,h,af⟩=>
 SO rl h fun k G1 h1 H1 hr1 k1 rl1=>by
  cases k with
  |true=>rw [if_pos rfl] at h1 ⊢;exact ⟨τ,G1,d,rl1,h1,af.back k1⟩
  |false=>rw [if_neg Bool.false_ne_true] at h1 ⊢;exact ⟨τ,G1,d,rl1,h1,af.back k1⟩
def UK:TS3:=fun _ _ _=>False
theorem qip {sts:List Stmt}:B3 X sts UK:=fun _ _ _ _ _ _ ⟨_,_,_,_,h,_⟩=>h.elim
abbrev TG3:=T->St3->Gp->(St3->Gp->Prop)->Prop
abbrev MC:=List T->St3->Gp->(St3->Gp->Prop)->Prop
def lG (K:PySem.W.Frag) (t:TG3):TG:=fun v σ H Q=>∃ x τ G q,Rp K H x v/\Rel K τ G σ H/\t x τ G q/\qeR K G H q Q
def lGs (K:PySem.W.Frag) (t:MC):TGs:=fun v σ H Q=>∃ x τ G q,Rps K H x v/\Rel K τ G σ H/\t x τ G q/\qeR K G H q Q
abbrev G3 (X:Cx) (e:Expr) (t:TG3):Prop:=PG X e (lG X.K t)
abbrev Gs3 (X:Cx) (es:List Expr) (t:MC):Prop:=PGs X es (lGs X.K t)
theorem qoh {X:Cx} {e:Expr} {t t':TG} (h:PG X e t) (w:∀ v σ H Q,t' v σ H Q->t v σ H Q):PG X e t':=fun pins s σ H v u Q I r q=>h pins s σ H v u Q I r (w v σ H Q q)
theorem qi5 {X:Cx} {e:List Expr} {t t':TGs} (h:PGs X e t) (w:∀ v σ H Q,t' v σ H Q->t v σ H Q):PGs X e t':=fun pins s σ H v u Q I r q=>h pins s σ H v u Q I r (w v σ H Q q)
def gn3 (i:Nat):TG3:=fun x τ G q=>q (τ.set i (some x)) G
theorem qly {i:Nat} {x:Str} (hN:X.N.Nodup) (hi:X.N[i]?=some x:=by rfl) (hx:Loc X.env.scope x:=by first|exact Or.inl rfl|exact Or.inr rfl) (hf:X.fn x=true\/X.env.scope.names.lookup x=some .local:=by first|exact .inl rfl|exact .inr rfl):G3 X (.Name x pos) (gn3 i):=
 qoh (qiI hN hi hx hf) fun v σ H Q ⟨x,τ,G,q,rx,rl,h,af⟩=>af _ G h _ H (rl.set i rx) Kp.refl
def qL:MC:=fun xs τ G q=>match xs with|[]=>q τ G|_=>False
def qj (t:TG3) (u:MC):MC:=fun xs τ G q=>match xs with|x::r=>t x τ G fun τ' G'=>u r τ' G' q|[]=>False
theorem qos:Gs3 X [] qL:=qi5 qhN fun v σ H Q ⟨x,τ,G,q,rx,rl,h,af⟩=>by
 cases rx with
 |nil=>exact ⟨rfl,af _ G h _ H rl Kp.refl⟩
 |cons _ _=>exact h.elim
theorem qnD {tg:TG3} {tgs:MC} (h1:G3 X e tg) (h2:Gs3 X es tgs) (hs:(assignEach (e::es) X.env).map (·.2)=assign e X.env::(assignEach es X.env).map (·.2):=by rfl):Gs3 X (e::es) (qj tg tgs):=qi5 (qeC h1 h2 hs) fun v σ H Q ⟨x,τ,G,q,rx,rl,h,af⟩=>by
 cases rx with
 |nil=>exact h.elim
 |cons r rs=>exact ⟨_,_,rfl,_,τ,G,_,r,rl,h,fun τ' G' h' σ' H' rl' k'=>⟨_,τ',G',q,rs.keep rl.hp k',rl',h',af.back k'⟩⟩
def qM (n:Nat) (t:MC):TG3:=fun x τ G q=>match x with|.tup xs=>xs.length=n/\t xs τ G q|_=>False
theorem qoH {k:Nat} {tgs:MC} {n:Nat} (hc:X.calm=true) (h:Gs3 X es tgs) (hn:(assignEach es X.env).length=n:=by rfl) (hst:(assignEach es X.env).findIdx? (·.1)=none:=by rfl):G3 X (.Tuple es k pos) (qM n tgs):=
 qoh (qms hc h hn hst) fun v σ H Q ⟨x,τ,G,q,rx,rl,h,af⟩=>by
  cases x<;>try exact h.elim
  case tup xs=>
   cases rx with
   |tup hs rs=>exact ⟨_,_,rfl,hs,by rw [← rs.length];exact h.1,_,τ,G,q,rs,rl,h.2,af⟩
def YY:T->T->T->Gp->(Gp->Prop)->Prop:=fun o i v G q=>match o,i with
 |.ref p,.int k=>(match G p with|some (.lst xs)=>(match ixN xs.length k with|some j=>q (gu G p (.lst (xs.set j v)))|none=>False)|_=>False)
 |_,_=>False
def zO (to ti:TE3):TG3:=fun x τ G q=>to τ G fun o G1=>ti τ G1 fun i G2=>YY o i x G2 fun G3=>q τ G3
theorem qoi {o i : Expr} {to ti : TE3} (ho : E3 X o to) (hi : E3 X i ti) (ha : ∀ v,assign (.Subscript o i pos) X.env v = (do
      let ov←holding [v] (eval o X.env)
      let iv←holding [v,ov] (eval i X.env)
      standAt pos
      holding [v,ov,iv] (setItem ov iv v)
      release [v,ov,iv] []):=by intro _;rfl):G3 X (.Subscript o i pos) (zO to ti):=
  qoh (qjt ho hi qd1 ha) fun v σ H Q ⟨x,τ,G,q,rx,rl,h,af⟩=>zH rl h fun y G1 h1 u H1 ry hr1 k1 rl1=>zH rl1 h1 fun z G2 h2 w H2 rz hr2 k2 rl2=>by
    have rx2:=(rx.keep rl.hp k1).keep hr1 k2
    have ry2:=ry.keep hr1 k2
    unfold YY at h2
    split at h2
    · rename_i p k
      split at h2
      · rename_i xs e
        split at h2
        · rename_i j ej
          cases ry2;cases rz
          obtain ⟨vs,g1,r1⟩:=hr2.lst e
          have kk:Kp G2 H2 (gu G2 p (.lst (xs.set j x))) (upd H2 p (.lst (vs.set j v))):=Kp.wr e
          exact ⟨p,vs,k,j,rfl,rfl,g1,by rw [← r1.length];exact ej,af τ _ h2 σ _ (rl2.next (hr2.wr e (r1.set rx2 j)) kk) ((k1.trans k2).trans kk)⟩
        · exact h2.elim
      · exact h2.elim
    · exact h2.elim
def qH (te:TE3) (g:TG3):TS3:=fun d τ G=>te τ G fun x G1=>g x τ G1 d.nx
theorem qpo {tg e:Expr} {g:TG3} (he:E3 X e te) (hg:G3 X tg g) (hs:swapsWithSole [tg] e pos.line X.env=pure false:=by rfl) (hw:swappedStores [tg] e X.env=pure none:=by rfl)
  (h1:(assignEach [tg] X.env).map (·.2)=[assign tg X.env]:=by rfl):S3 X (.Assign [tg] e pos) (qH te g):=qdB (qjq he hg hs hw h1) fun _ σ H ⟨τ,G,d,rl,h,af⟩=>
 zH rl h fun x G1 h1 v H1 rx hr1 k1 rl1=>⟨x,τ,G1,d.nx,rx,rl1,h1,af.nx.back k1⟩
theorem qog (i:Nat) {x:Str} {e:Expr} {pos':Pos} (hN:X.N.Nodup) (he:E3 X e te) (hi:X.N[i]?=some x:=by rfl) (hx:Loc X.env.scope x:=by first|exact Or.inl rfl|exact Or.inr rfl) (hs:swapsWith e (some (.Name x pos')) pos.line X.env=pure false:=by rfl) (hf:X.fn x=true\/X.env.scope.names.lookup x=some .local:=by first|exact .inl rfl|exact .inr rfl) :
  S3 X (.Assign [.Name x pos'] e pos) (qH te (gn3 i)):=qdB (qnz hN hi hx he hs hf) fun _ σ H ⟨τ,G,d,rl,h,af⟩=>
 zH rl h fun x G1 h1 v H1 rx hr1 k1 rl1=>af.nx _ G1 h1 _ H1 (rl1.set i rx) k1
def j7 (i j:Nat) (ta:TA3):TS3:=fun d τ G=>ta τ G fun xs G1=>match xs with|[x,y]=>d.nx ((τ.set i (some x)).set j (some y)) G1|_=>False
theorem qpg {i j:Nat} {x y:Str} {a b:Expr} {tt:TA3} {px py pt:Pos} {kt k2 pt2} (hc:X.calm=true) (hN:X.N.Nodup) (hi:X.N[i]?=some x) (hj:X.N[j]?=some y) (hij:i≠j)
  (hx:X.env.scope.names.lookup x=some .local) (hy:X.env.scope.names.lookup y=some .local) (ha:A3 X [a,b] tt)
  (hw:swappedStores [.Tuple [.Name x px,.Name y py] kt pt] (.Tuple [a,b] k2 pt2) X.env=pure (some [x,y]):=by rfl)
  (hs:swapsWithSole [.Tuple [.Name x px,.Name y py] kt pt] (.Tuple [a,b] k2 pt2) pos.line X.env=pure false:=by rfl) :
  S3 X (.Assign [.Tuple [.Name x px,.Name y py] kt pt] (.Tuple [a,b] k2 pt2) pos) (j7 i j tt):=qdB (qkm hc hN hi hj hij hx hy ha hw hs) fun _ σ H ⟨τ,G,d,rl,h,af⟩=>
 VE rl h fun xs G1 h1 vs H1 rs hr1 k1 rl1=>by
  split at h1
  ·obtain ⟨v,u,rfl,r,r'⟩:=qn0 rs
   exact ⟨v,u,rfl,af.nx _ G1 h1 _ H1 ((rl1.set i r).set j r') k1⟩
  ·exact h1.elim
end
abbrev TI3:=St3->Gp->(List T->(Gp->Prop)->Gp->Prop)->Prop
def qiW (K:PySem.W.Frag) (J:It) (items:List T) (stay:Gp->Prop) (G0:Gp) (H0:Hp):Prop:=∀ G H,HR K G H->Kp G0 H0 G H->stay G ->
 (∀ i x,items[i]?=some x->J.go i H)/\(∀ i x v H',items[i]?=some x->J.yld i H v H'->Rp K H' x v/\HR K G H'/\Kp G H G H')/\J.stop items.length H
def lI (K:PySem.W.Frag) (wi:TI3):TI:=fun σ H R=>∃ τ G r,Rel K τ G σ H/\wi τ G r/\∀ items stay G',r items stay G'->∀ J H',HR K G' H'->Kp G H G' H'->qiW K J items stay G' H'->R J H'
abbrev I3 (X:Cx) (tg iter:Expr) (wi:TI3):Prop:=PI X tg iter (lI X.K wi)
theorem ql3 {X:Cx} {tg e:Expr} {t t':TI} (h:PI X tg e t) (w:∀ σ H R,t' σ H R->t σ H R):PI X tg e t':=fun pins s σ H R I q=>h pins s σ H R I (w σ H R q)
section
variable {X:Cx} {a b c e l tg:Expr} {es:List Expr} {ta tb tc te:TE3} {t:TA3} {pos:Pos}
theorem qkT {tl:TE} (hl:PE X l tl):PI X tg l (fun σ H R=>tl σ H fun x H1=>∃ a,x=.ref a/\(((∃ xs,SqL X.K H1 a xs)/\R (Itl X.K a) H1)\/((∃ xs,SqT X.K H1 a xs)/\R (Itt X.K a) H1))):=by
 intro pins s σ H R I h
 refine thn (hl pins s σ H _ I h) fun v s1 ⟨x,H1,I1,r1,q1⟩=>?_
 obtain ⟨a,e,⟨⟨xs,hq⟩,q⟩|⟨⟨xs,hq⟩,q⟩⟩:=q1
 ·subst e
  cases r1
  obtain ⟨its,rv,p,hz⟩:=I1.list hq
  refine wpAny_pyIter_list p.isList ?_
  refine ⟨s1.heap.objs.size,[s1.heap.objs.size],_,_,H1,rfl,I1.kept (t':=s1.toks) fun b o e=>Heap.get?_push_of_some _ e,qcu a _,⟨_,Heap.get?_push_size _ rfl,rfl,rfl⟩,fun b hb=>?_,q⟩
  have e:b=s1.heap.objs.size:=by simpa using hb
  subst e
  exact I1.fpOk (Nat.le_refl _) (I1.hok.fresh (Nat.le_refl _))
 ·subst e
  cases r1
  obtain ⟨its,rv,p,hz⟩:=I1.tuple hq
  refine wpAny_pyIter_tuple (show s1.heap.IsTuple a its.toArray from p) ?_
  refine ⟨s1.heap.objs.size,[s1.heap.objs.size],_,_,H1,rfl,I1.kept (t':=s1.toks) fun b o e=>Heap.get?_push_of_some _ e,qa3 a _,⟨_,Heap.get?_push_size _ rfl,rfl,rfl⟩,fun b hb=>?_,q⟩
  have e:b=s1.heap.objs.size:=by simpa using hb
  subst e
  exact I1.fpOk (Nat.le_refl _) (I1.hok.fresh (Nat.le_refl _))
def UG (tl:TE3):TI3:=fun τ G r=>tl τ G fun x G1=>match x with
 |.tup xs=>r xs (fun _=>True) G1
 |.ref p=>(match getL G1 p with|some xs=>r xs (fun G=>getL G p=some xs) G1|none=>False)
 |_=>False
theorem qjL {K:PySem.W.Frag} {p:Addr} {xs:List T} {G0:Gp} {H0:Hp}:qiW K (Itl K p) xs (fun G=>getL G p=some xs) G0 H0:=by
 intro G H hr _ hs
 obtain ⟨vs,sq,rs⟩:=zT hr hs
 refine ⟨fun i x hi=>?_,fun i x v H' hi y=>?_,⟨vs,sq,by rw [rs.length];exact Nat.le_refl _⟩⟩
 ·obtain ⟨v,hv,_⟩:=rs.get hi
  exact ⟨vs,v,sq,hv⟩
 ·obtain ⟨e,y⟩:=y
  subst e
  obtain ⟨w,hw,rw'⟩:=rs.get hi
  have e2:=(y vs sq).symm.trans hw
  cases e2
  exact ⟨rw',hr,Kp.refl⟩
theorem qkh {K:PySem.W.Frag} {p:Addr} {xs:List T} {vs:List V} {G0:Gp} {H0:Hp} (hr0:HR K G0 H0) (sq0:SqT K H0 p vs) (rs0:Rps K H0 xs vs):qiW K (Itt K p) xs (fun _=>True) G0 H0:=by
 intro G H hr k _
 have sq:=S9 hr0 k sq0
 have rs:=rs0.keep hr0 k
 refine ⟨fun i x hi=>?_,fun i x v H' hi y=>?_,⟨vs,sq,by rw [rs.length];exact Nat.le_refl _⟩⟩
 ·obtain ⟨v,hv,_⟩:=rs.get hi
  exact ⟨vs,v,sq,hv⟩
 ·obtain ⟨e,y⟩:=y
  subst e
  obtain ⟨w,hw,rw'⟩:=rs.get hi
  have e2:=(y vs sq).symm.trans hw
  cases e2
  exact ⟨rw',hr,Kp.refl⟩
theorem qpf (hl:E3 X l te):I3 X tg l (UG te):=ql3 (qkT hl) fun σ H R ⟨τ,G,r,rl,h,af⟩=>zH rl h fun x G1 h1 v H1 rx hr1 k1 rl1=>by
 cases x<;>try exact h1.elim
 case tup xs=>
  cases rx with
  |tup hs rs=>exact ⟨_,rfl,.inr ⟨⟨_,hs⟩,af _ _ G1 h1 _ H1 hr1 k1 (qkh hr1 hs rs)⟩⟩
 case ref p=>
  simp only at h1
  split at h1
  ·rename_i xs e0
   cases rx
   obtain ⟨vs,hs,rs⟩:=zT hr1 e0
   exact ⟨_,rfl,.inl ⟨⟨_,hs⟩,af _ _ G1 h1 _ H1 hr1 k1 qjL⟩⟩
  ·exact h1.elim
def qan (lo:Int) (n:Nat):List T:=(List.range n).map fun (i:Nat)=>T.int (lo+(i:Int))
theorem qeM {K:PySem.W.Frag} {lo:Int} {n:Nat} {G0:Gp} {H0:Hp}:qiW K (Itr lo n) (qan lo n) (fun _=>True) G0 H0:=by
 intro G H hr k _
 have hl:(qan lo n).length=n:=by simp [qan]
 refine ⟨fun i x hi=>?_,fun i x v H' hi y=>?_,(show n<=(qan lo n).length by rw [hl];exact Nat.le_refl n)⟩
 ·have:=(List.getElem?_eq_some_iff.mp hi).1
  rw [hl] at this
  exact this
 ·obtain ⟨e,y⟩:=y
  subst e
  subst y
  have h1:=(List.getElem?_eq_some_iff.mp hi).1
  rw [hl] at h1
  unfold qan at hi
  rw [getElem?_map,List.getElem?_range h1] at hi
  have e:T.int (lo+(i:Int))=x:=by simpa using hi
  subst e
  exact ⟨.int _,hr,Kp.refl⟩
def zA (ta:TA3):TI3:=fun τ G r=>ta τ G fun xs G1=>match xs with
 |[.int j]=>(-(2 ^ 62)<=j/\j<2 ^ 62)/\r (qan 0 j.toNat) (fun _=>True) G1
 |[.int i,.int j]=>(-(2 ^ 62)<=i/\i<2 ^ 62/\-(2 ^ 62)<=j/\j<2 ^ 62)/\r (qan i (j-i).toNat) (fun _=>True) G1
 |_=>False
theorem qd7 {p:Pos} (hg:Gl X "range") (hm:X.mg "range" = none) (ha:A3 X [a] t) (hs:starEach [a] X.env=[(false,eval a X.env)]:=by rfl) (h1:∀ τ G q,t τ G q->t τ G fun xs G=>q xs G/\xs.length=1):I3 X tg (.Call (.Name "range" p) [a] [] pos) (zA t):=
 ql3 (qbI hg hm ha hs) fun σ H R ⟨τ,G,r,rl,h,af⟩=>VE rl (h1 _ _ _ h) fun xs G1 h1 vs H1 rs hr1 k1 rl1=>by
  obtain ⟨h1,hl⟩:=h1
  simp only at h1
  split at h1
  ·obtain ⟨v,rfl,r1⟩:=KJ rs
   cases r1
   exact ⟨_,rfl,h1.1.1,h1.1.2,af _ _ G1 h1.2 _ H1 hr1 k1 qeM⟩
  ·simp at hl
  ·exact h1.elim
theorem qev {p:Pos} (hg:Gl X "range") (hm:X.mg "range" = none) (ha:A3 X [a,b] t) (hs:starEach [a,b] X.env=[(false,eval a X.env),(false,eval b X.env)]:=by rfl) (hs2:starEach [b] X.env=[(false,eval b X.env)]:=by rfl) (h1:∀ τ G q,t τ G q->t τ G fun xs G=>q xs G/\xs.length=2):I3 X tg (.Call (.Name "range" p) [a,b] [] pos) (zA t):=
 ql3 (qc7 hg hm ha hs hs2) fun σ H R ⟨τ,G,r,rl,h,af⟩=>VE rl (h1 _ _ _ h) fun xs G1 h1 vs H1 rs hr1 k1 rl1=>by
  obtain ⟨h1,hl⟩:=h1
  simp only at h1
  split at h1
  ·simp at hl
  ·obtain ⟨v,u,rfl,r1,r2⟩:=qn0 rs
   cases r1;cases r2
   exact ⟨_,_,rfl,h1.1,af _ _ G1 h1.2 _ H1 hr1 k1 qeM⟩
  ·exact h1.elim
def T3 (stay:Gp->Prop) (g:TG3) (tb:TS3) (d:Ends3):List T->St3->Gp->Prop
 |[],τ,G=>stay G/\d.nx τ G
 |x::r,τ,G=>stay G/\g x τ G fun τ2 G2=>tb { d with nx:=T3 stay g tb d r,ct:=T3 stay g tb d r,bk:=d.nx } τ2 G2
def RU (wi:TI3) (g:TG3) (tb:TS3):TS3:=fun d τ G=>wi τ G fun items stay G1=>T3 stay g tb d items τ G1
theorem qoQ {iter:Expr} {body:List Stmt} {wi:TI3} {g:TG3} {tb:TS3} (hp:PassesOwn (model X.prog X.w) X.A X.env X.xe) (hc:X.calm=true) (hi:I3 X tg iter wi) (hg:G3 X tg g) (hb:B3 X body tb)
  (hs:∀ x,foldedSetIterable iter X.env x=pure x:=by intro _;rfl):S3 X (.For tg iter body [] pos) (RU wi g tb):=
 qdB (qmR hp hc hi hg hb hs) fun D σ H ⟨τ,G,d,rl,h,af⟩=>by
  refine ⟨τ,G,_,rl,h,fun items stay G1 h1 J H1 hr1 k1 ok=>?_⟩
  refine ⟨fun i m σ' H'=>m=items.length-i/\i<=items.length/\∃ τ' G',Rel X.K τ' G' σ' H'/\Kp G1 H1 G' H'/\T3 stay g tb d (items.drop i) τ' G',⟨_,rfl,Nat.zero_le _,τ,G1,rl.next hr1 k1,Kp.refl,by simpa using h1⟩,?_⟩
  rintro i m σ' H' ⟨rfl,hi,τ',G',rl',k',h'⟩
  by_cases hlt:i<items.length
  ·rw [List.drop_eq_getElem_cons hlt] at h'
   obtain ⟨hst,h'⟩:=h'
   obtain ⟨go,yld,_⟩:=ok G' H' rl'.hp k' hst
   have hx:items[i]?=some items[i]:=getElem?_eq_getElem hlt
   refine .inr ⟨go i _ hx,fun σ2 H2=>∃ τ2 G2,Rel X.K τ2 G2 σ2 H2/\Kp G1 H1 G2 H2/\T3 stay g tb d (items.drop (i+1)) τ2 G2,fun σ2 H2 h2=>⟨_,by omega,rfl,hlt,h2⟩,fun v H2 y=>?_⟩
   obtain ⟨rv,hr2,k2⟩:=yld i _ v H2 hx y
   have k3:Kp G1 H1 G' H2:=k'.trans k2
   refine ⟨_,τ',G',_,rv,rl'.next hr2 k2,h',fun τ3 G3 h3 σ3 H3 rl3 k4=>?_⟩
   have k5:Kp G H G3 H3:=(k1.trans k3).trans k4
   refine ⟨τ3,G3,_,rl3,h3,⟨fun τ4 G4 h4 σ4 H4 rl4 k6=>⟨τ4,G4,rl4,(k3.trans k4).trans k6,h4⟩,af.rt.back k5,af.nx.back k5,fun τ4 G4 h4 σ4 H4 rl4 k6=>⟨τ4,G4,rl4,(k3.trans k4).trans k6,h4⟩⟩⟩
  ·have e:i=items.length:=by omega
   subst e
   rw [List.drop_length] at h'
   obtain ⟨_,_,stop⟩:=ok G' H' rl'.hp k' h'.1
   exact .inl ⟨stop,af.nx τ' G' h'.2 σ' H' rl' (k1.trans k')⟩
theorem VG {stay:Gp->Prop} {g:TG3} {tb:TS3} {d:Ends3} (items:List T) (Pv:Nat->St3->Gp->Prop) {τ:St3} {G:Gp} (h0:Pv 0 τ G) (hst:∀ i τ G,i<=items.length->Pv i τ G->stay G)
  (hs:∀ i x τ G (nx:St3->Gp->Prop),items[i]?=some x->Pv i τ G->(∀ τ G,Pv (i+1) τ G->nx τ G)->g x τ G fun τ2 G2=>tb { d with nx:=nx,ct:=nx,bk:=d.nx } τ2 G2)
  (hd:∀ τ G,Pv items.length τ G->d.nx τ G):T3 stay g tb d items τ G:=by
 have key:∀ (r:List T) (i:Nat) τ G,items.drop i=r->i<=items.length->Pv i τ G->T3 stay g tb d r τ G:=by
  intro r
  induction r with
  |nil=>
   intro i τ G e hi p
   have:i=items.length:=by have:=congrArg List.length e;simp at this;omega
   subst this
   exact ⟨hst _ τ G hi p,hd τ G p⟩
  |cons x r ih=>
   intro i τ G e hi p
   have hl:i<items.length:=by
    apply Classical.byContradiction
    intro z
    rw [List.drop_eq_nil_of_le (by omega)] at e
    cases e
   have e':=List.drop_eq_getElem_cons hl
   rw [e] at e'
   injection e' with e1 e2
   refine ⟨hst i τ G hi p,hs i x τ G _ (by rw [getElem?_eq_getElem hl,e1]) p fun τ2 G2 p2=>ih (i+1) τ2 G2 e2.symm hl p2⟩
 exact key items 0 τ G (by simp) (Nat.zero_le _) h0
def XM (c:TT3) (tb:TS3):TS3:=fun d τ G=>∃ W:Nat->St3->Gp->Prop,(∃ m,W m τ G)/\∀ m τ G,W m τ G ->
 c τ G fun b G1=>if b=true then ∃ N:St3->Gp->Prop,(∀ τ' G',N τ' G'->∃ m',m'<m/\W m' τ' G')/\tb { d with nx:=N,ct:=N,bk:=d.nx } τ G1 else d.nx τ G1
theorem qg8 {c:Expr} {body:List Stmt} {tc:TT3} {tb:TS3} (hp:PassesOwn (model X.prog X.w) X.A X.env X.xe) (hc:C3 X c tc) (hb:B3 X body tb):S3 X (.While c body [] pos) (XM tc tb):=
 qdB (qdI hp hc hb) fun D σ H ⟨τ,G,d,rl,⟨W,⟨m0,w0⟩,turn⟩,af⟩=>by
  refine ⟨fun m σ' H'=>∃ τ' G',Rel X.K τ' G' σ' H'/\Kp G H G' H'/\W m τ' G',⟨m0,τ,G,rl,Kp.refl,w0⟩,?_⟩
  rintro m σ' H' ⟨τ',G',rl',k',w'⟩
  refine SO rl' (turn m τ' G' w') fun b G1 h1 H1 hr1 k1 rl1=>?_
  cases b with
  |true=>
   rw [if_pos rfl] at h1 ⊢
   obtain ⟨N,hN,h1⟩:=h1
   refine ⟨fun σ2 H2=>∃ τ2 G2,Rel X.K τ2 G2 σ2 H2/\Kp G H G2 H2/\N τ2 G2,fun σ2 H2 ⟨τ2,G2,r2,k2,n2⟩=>?_,τ',G1,_,rl1,h1,⟨fun τ2 G2 h2 σ2 H2 r2 k2=>⟨τ2,G2,r2,(k'.trans k1).trans k2,h2⟩,af.rt.back (k'.trans k1),af.nx.back (k'.trans k1),fun τ2 G2 h2 σ2 H2 r2 k2=>⟨τ2,G2,r2,(k'.trans k1).trans k2,h2⟩⟩⟩
   obtain ⟨m',hm,w2⟩:=hN τ2 G2 n2
   exact ⟨m',hm,τ2,G2,r2,k2,w2⟩
  |false=>
   rw [if_neg Bool.false_ne_true] at h1 ⊢
   exact af.nx τ' G1 h1 σ' H1 rl1 (k'.trans k1)
abbrev Sp3:=List T->Gp->Q3->Prop
def lSp (K:PySem.W.Frag) (sp:Sp3):Sp:=fun vs H Q _=>∃ ts G q,HR K G H/\Rps K H ts vs/\sp ts G q/\Aft K G H q Q
def Fn3 (P:Program) (w:World) (K:PySem.W.Frag) (mg:Str->Option Value) (base:Heap) (k:Nat) (x:Str) (sp:Sp3):Prop:=
 ∃ f fd ps,FnOk P w K mg base CX0 k f fd ps (lSp K sp)/\zd K fd ps []/\PySem.W.keepIn K (.ref f)=true/\mg x=some (.ref f)
theorem Fn3.mono {P:Program} {w:World} {K:PySem.W.Frag} {mg:Str->Option Value} {base:Heap} {j k:Nat} {x:Str} {sp:Sp3} (F:Fn3 P w K mg base j x sp) (h:j<=k):Fn3 P w K mg base k x sp:=
 let ⟨f,fd,ps,a,b,c,d⟩:=F;⟨f,fd,ps,a.mono h,b,c,d⟩
theorem qkV {k:Nat} {x:Str} {p:Pos} {sp:Sp3} (F:Fn3 X.prog X.w X.K X.mg X.base k x sp) (hr:Room k X.A) (hg:Gl X x) (ha:A3 X (e::es) t) (hdb:(x==("__debug__" : Str))=false:=by decide)
  (he:starEach (e::es) X.env=(false,eval e X.env)::starEach es X.env:=by rfl) (hpl:(backTo pos (starEach es X.env)).any (·.1)=false:=by rfl):E3 X (.Call (.Name x p) (e::es) [] pos) (cb3 sp t):=by
 obtain ⟨f,fd,ps,F,b,kp,m⟩:=F
 refine XY (qhE F hr hg m kp b .nil qph ha hdb he hpl) fun σ H Q ⟨τ,G,q,rl,h,af⟩=>VE rl h fun xs G1 h1 vs H1 rs hr1 k1 rl1=>?_
 rw [List.append_nil]
 exact ⟨xs,G1,q,hr1,rs,h1,af.back k1⟩
def qk (N:List Str) (ts:List T):St3:=ts.map some++List.replicate (N.length-ts.length) none
theorem LF {K:PySem.W.Frag} {N:List Str} {G:Gp} {H:Hp} {ts:List T} {vs:List V} (hr:HR K G H) (rs:Rps K H ts vs):Rel K (qk N ts) G (L2.RD N vs) H:=by
 refine ⟨hr,by simp [qk,L2.RD,rs.length],fun i t e=>?_⟩
 unfold qk at e
 by_cases hi:i<ts.length
 ·rw [List.getElem?_append_left (by simpa using hi),getElem?_map] at e
  cases q:ts[i]? with
  |none=>rw [q] at e;cases e
  |some z=>
   rw [q] at e
   have e':z=t:=by simpa using e
   subst e'
   obtain ⟨v,hv,r⟩:=rs.get q
   refine ⟨v,?_,r⟩
   unfold L2.RD
   rw [List.getElem?_append_left (by rw [length_map,← rs.length];exact hi),getElem?_map,hv]
   rfl
 ·rw [List.getElem?_append_right (by simpa using hi),List.getElem?_replicate] at e
  split at e<;>cases e
theorem qml {P:Program} {w:World} {K:PySem.W.Frag} {mg:Str->Option Value} {base:Heap} {x qual:Str} {st:Stmt} {f:Addr} {fd:FuncData} {N ps:List Str} {k:Nat} {sp:Sp3} {t3:TS3} (F:Fun K x qual st f fd) (S:FnScope N ps (qi st)) (bd:zd K fd ps []) (hm:mg x=some (.ref f))
  (body:∀ (cdv:Value) (A:Around) (outer:List Env) (s:Shared) (H:Hp) (E:XK),Room k (A.deeper (envOfC qual (qi st) s.heap.objs.size f cdv)) ->
   B3 (qdC CX0 P w K mg base N qual (qi st) f cdv A outer s H E).nox (jQ st) t3)
  (read:∀ ts G q,sp ts G q->ts.length=ps.length/\t3 { nx:=fun _ G'=>q .non G',rt:=q } (qk N ts) G):Fn3 P w K mg base (k+1) x sp:=by
 refine ⟨f,fd,ps,F.ok S (fun vs H Q E ⟨ts,G,q,h1,h2,h3,h4⟩=>by rw [← h2.length];exact (read ts G q h3).1) fun cdv A outer s H vs Q E hr ⟨ts,G,q,h1,h2,h3,h4⟩=>?_,bd,F.kp,hm⟩
 refine ⟨_,body cdv A outer s H E hr,qk N ts,G,_,LF h1 h2,(read ts G q h3).2,⟨fun τ' G' h' σ' H' rl' k'=>h4 _ G' h' _ H' .non rl'.hp k',h4,fun _ _ z=>z.elim,fun _ _ z=>z.elim⟩⟩
def qeJ (xs:List T):Option Bool:=match xs with
 |[]=>some true
 |.bl k::r=>(match qeJ r with|some j=>some (k&&j)|none=>none)
 |_=>none
def qnV (xs:List T):Option Bool:=match xs with
 |[]=>some false
 |.bl k::r=>(match qnV r with|some j=>some (k||j)|none=>none)
 |_=>none
theorem qej {P:Program} {w:World} {A:Around} {its:List Value} {ks:List Bool} (h:its=ks.map Value.bool):TruthOf P w A (fun i v=>its.toArray[i]?=some v) (fun i=>ks.getD i true):=by
 intro i v s Q E hp hq
 subst h
 have hp':ks[i]?.map Value.bool=some v:=by simpa using hp
 cases e:ks[i]? with
 |none=>rw [e] at hp';cases hp'
 |some k=>
  rw [e] at hp'
  cases hp'
  have:ks.getD i true=k:=by rw [getD_eq_getElem?_getD,e];rfl
  have hq:Q (ks.getD i true) s:=hq
  rw [this] at hq
  exact wpAny_truthy_bool hq
theorem SV:∀ {ks:List Bool} {us:List Value},jk (ks.map V.bl) us->us=ks.map Value.bool
 |[],_,r=>by cases r;rfl
 |k::ks,_,r=>by
  cases r with
  |cons a b=>rw [show _=Value.bool k from a,SV b];rfl
theorem qbE (ks:List Bool):((List.range ks.length).all fun i=>ks.getD i true)=ks.all id:=by
 induction ks with
 |nil=>rfl
 |cons k ks ih=>
  rw [length_cons,List.range_succ_eq_map,List.all_cons,List.all_map,List.all_cons]
  congr 1
theorem UR (hc:X.calm=true):JN X (.builtin "all") (fun xs H Q=>∃ (p:Addr) (ks:List Bool),xs=[.ref p]/\SqL X.K H p (ks.map V.bl)/\Q (.bl (ks.all id)) H):=by
 intro pins s σ H xs us Q I r h
 obtain ⟨p,ks,rfl,hq,q⟩:=h
 obtain ⟨u,rfl,rp⟩:=WA r
 cases (show u=Value.ref p from rp)
 obtain ⟨its,rv,pl,hz⟩:=I.list hq
 have hb:=SV rv
 have hlen:its.length=ks.length:=by rw [hb];simp
 have hp:p<s.heap.objs.size:=by obtain ⟨o,n,e,_⟩:=pl;exact Heap.lt_size e
 refine call_all_walk (wpAny_pyIter_list pl.isList ⟨s.heap.objs.size,_,_,_,_,_,fun i=>ks.getD i true,rfl,Walks.list (A:=X.A.in1) (show X.A.in1.handled=none from I.ok.hd hc) s.heap.objs.size p (Nat.ne_of_lt hp) its.toArray,⟨⟨_,Heap.get?_push_size _ rfl,rfl,rfl⟩,?_⟩,qej hb,fun h' tk hk=>?_⟩)
 ·obtain ⟨o,n,e,c,_,d⟩:=pl
  exact ⟨o,Heap.get?_push_of_some _ e,c,n,d⟩
 ·refine ⟨.bl _,H,?_,rfl,by rw [size_toArray,hlen,qbE];exact q⟩
  exact I.kept (h':=h') (t':=tk) fun b o e=>hk b o (by simp;exact Nat.ne_of_lt (Heap.lt_size e)) (Heap.get?_push_of_some _ e)
end
def R4 (env:Env):List (Str×NameKind)->List (Str×Addr)->List (Str×Addr)
 |[],cs=>cs
 | (n,k)::r,cs=>if k=.free then R4 env r ((n,(env.cells.lookup n).getD 0)::cs) else R4 env r cs
theorem YH {scope:Scope} {env:Env} (h:∀ y∈scope.names,y.2=.free->∃ c,env.cells.lookup y.1=some c):closureFor scope env=pure (R4 env scope.names []):=by
 have key:∀ (l:List (Str×NameKind)) (cs:List (Str×Addr)),(∀ y∈l,y.2=.free->∃ c,env.cells.lookup y.1=some c) ->
   (forIn l cs fun (x:Str×NameKind) (r:List (Str×Addr))=>if (x.2==NameKind.free)=true then (do let a←cellOf env x.1;pure (ForInStep.yield ((x.1,a)::r))) else pure (ForInStep.yield r))=(pure (R4 env l cs):Sem _):=by
  intro l
  induction l with
  |nil=>intro cs _;rfl
  |cons y r ih=>
   intro cs hl
   obtain ⟨n,k⟩:=y
   rw [List.forIn_cons]
   by_cases hk:k=.free
   ·subst hk
    obtain ⟨c,hc⟩:=hl (n,.free) List.mem_cons_self rfl
    have e:cellOf env n=pure c:=by unfold cellOf;rw [show List.lookup n env.cells=some c from hc]
    simp only [beq_self_eq_true,if_true]
    rw [e,pure_bind,pure_bind]
    show forIn r ((n,c)::cs) _=_
    rw [ih _ fun z hz=>hl z (List.mem_cons_of_mem _ hz)]
    show _=(pure (if NameKind.free=NameKind.free then R4 env r ((n,(env.cells.lookup n).getD 0)::cs) else R4 env r cs):Sem _)
    rw [if_pos rfl,show List.lookup n env.cells=some c from hc]
    rfl
   ·have hb:(k==NameKind.free)=false:=by cases k<;>first|rfl|exact absurd rfl hk
    simp only [hb,Bool.false_eq_true,if_false]
    rw [pure_bind]
    show forIn r cs _=_
    rw [ih _ fun z hz=>hl z (List.mem_cons_of_mem _ hz)]
    show _=(pure (if k=NameKind.free then R4 env r ((n,(env.cells.lookup n).getD 0)::cs) else R4 env r cs):Sem _)
    rw [if_neg hk]
 have:=key scope.names [] h
 unfold closureFor
 refine Eq.trans ?_ this
 exact bind_pure (m:=Sem) _
theorem U6 {env:Env}:∀ (l:List (Str×NameKind)) (cs:List (Str×Addr)) (x:Str) (c:Addr),(∀ y∈l,y.2=.free->∃ c,env.cells.lookup y.1=some c) ->
  (∀ x c,cs.lookup x=some c->env.cells.lookup x=some c)->(R4 env l cs).lookup x=some c->env.cells.lookup x=some c
 |[],_,_,_,_,h,e=>h _ _ e
 | (n,k)::r,cs,x,c,hl,h,e=>by
  unfold R4 at e
  split at e
  ·rename_i hk
   refine U6 r _ x c (fun y hy=>hl y (List.mem_cons_of_mem _ hy)) (fun x c e=>?_) e
   rw [List.lookup_cons] at e
   split at e
   ·rename_i hx
    have hx':x=n:=by simpa using hx
    subst hx'
    obtain ⟨d,hd⟩:=hl (x,k) List.mem_cons_self hk
    have hd:List.lookup x env.cells=some d:=hd
    rw [hd] at e ⊢
    exact e
   ·exact h _ _ e
  ·exact U6 r cs x c (fun y hy=>hl y (List.mem_cons_of_mem _ hy)) h e
theorem X7 {env:Env}:∀ (l:List (Str×NameKind)) (cs:List (Str×Addr)) (x:Str),((x,NameKind.free)∈l\/∃ c,cs.lookup x=some c)->∃ c,(R4 env l cs).lookup x=some c
 |[],_,_,h=>by
  rcases h with h|h
  ·simp at h
  ·exact h
 | (n,k)::r,cs,x,h=>by
  unfold R4
  have put:∀ d:Addr,(x=n\/∃ c,cs.lookup x=some c)->∃ c,((n,d)::cs).lookup x=some c:=fun d z=>by
   rw [List.lookup_cons]
   cases hx:x==n with
   |true=>exact ⟨d,rfl⟩
   |false=>
    rcases z with z|z
    ·rw [z] at hx;simp at hx
    ·exact z
  split
  ·rename_i hk
   refine X7 r _ x ?_
   rcases h with h|h
   ·rcases mem_cons.mp h with e|e
    ·cases e;exact .inr (put _ (.inl rfl))
    ·exact .inl e
   ·exact .inr (put _ (.inr h))
  ·rename_i hk
   refine X7 r _ x ?_
   rcases h with h|h
   ·rcases mem_cons.mp h with e|e
    ·cases e;exact absurd rfl hk
    ·exact .inl e
   ·exact .inr h
theorem TJ {env:Env}:∀ (l:List (Str×NameKind)) (cs:List (Str×Addr)) (x:Str) (c:Addr),(R4 env l cs).lookup x=some c->(x,NameKind.free)∈l\/cs.lookup x=some c
 |[],_,_,_,e=>.inr e
 | (n,k)::r,cs,x,c,e=>by
  unfold R4 at e
  split at e
  ·rename_i hk
   rcases TJ r _ x c e with z|z
   ·exact .inl (List.mem_cons_of_mem _ z)
   ·rw [List.lookup_cons] at z
    split at z
    ·rename_i hx
     have hx':x=n:=by simpa using hx
     subst hx';subst hk
     exact .inl List.mem_cons_self
    ·exact .inr z
  ·rcases TJ r cs x c e with z|z
   ·exact .inl (List.mem_cons_of_mem _ z)
   ·exact .inr z
theorem WQ {α:Type}:∀ (xs ys:List (Str×α)) (x:Str),(xs++ys).lookup x=(match xs.lookup x with|some c=>some c|none=>ys.lookup x)
 |[],ys,x=>rfl
 | (n,c)::xs,ys,x=>by
  rw [cons_append,List.lookup_cons,List.lookup_cons]
  cases x==n with
  |true=>rfl
  |false=>exact WQ xs ys x
theorem jK:∀ (l:List (Str×NameKind)) {n:Nat} {acc:List (Str×Addr)},cellsFrom n l acc=cellsFrom n l []++acc
 |[],_,_=>rfl
 | (x,k)::r,n,acc=>by
  unfold cellsFrom
  split
  ·rw [jK r (acc:=(x,n)::acc),jK r (acc:=[(x,n)]),List.append_assoc];rfl
  ·exact jK r
theorem JS:∀ (l:List (Str×NameKind)) (n:Nat) (acc:List (Str×Addr)) (x:Str) (c:Addr),(x,c)∈cellsFrom n l acc->(x,NameKind.cell)∈l\/(x,c)∈acc
 |[],_,_,_,_,h=>.inr h
 | (y,k)::r,n,acc,x,c,h=>by
  unfold cellsFrom at h
  split at h
  ·rename_i hk
   have hk:k=.cell:=by simpa using hk
   rcases JS r _ _ x c h with z|z
   ·exact .inl (List.mem_cons_of_mem _ z)
   ·rcases mem_cons.mp z with e|e
    ·cases e;subst hk;exact .inl List.mem_cons_self
    ·exact .inr e
  ·rcases JS r _ _ x c h with z|z
   ·exact .inl (List.mem_cons_of_mem _ z)
   ·exact .inr z
theorem QP:∀ (l:List (Str×NameKind)) (n:Nat) (acc:List (Str×Addr)) (x:Str),((x,NameKind.cell)∈l\/∃ c,acc.lookup x=some c)->∃ c,(cellsFrom n l acc).lookup x=some c
 |[],_,_,_,h=>by
  rcases h with h|h
  ·simp at h
  ·exact h
 | (y,k)::r,n,acc,x,h=>by
  unfold cellsFrom
  have put:(x=y\/∃ c,acc.lookup x=some c)->∃ c,((y,n)::acc).lookup x=some c:=fun z=>by
   rw [List.lookup_cons]
   cases hx:x==y with
   |true=>exact ⟨n,rfl⟩
   |false=>
    rcases z with z|z
    ·rw [z] at hx;simp at hx
    ·exact z
  split
  ·refine QP r _ _ x ?_
   rcases h with h|h
   ·rcases mem_cons.mp h with e|e
    ·cases e;exact .inr (put (.inl rfl))
    ·exact .inl e
   ·exact .inr (put (.inr h))
  ·rename_i hk
   refine QP r _ _ x ?_
   rcases h with h|h
   ·rcases mem_cons.mp h with e|e
    ·cases e;exact absurd rfl hk
    ·exact .inl e
   ·exact .inr h
theorem QJ {M:Model} {A:Around} {E:Value->Shared->Prop} {s:Shared} {scope:Scope} {globals:Addr} {cl:List (Str×Addr)} {qual:Str} {env:Env} {Q:Env->Shared->Prop}
  (hQ:∀ h₁:Heap,h₁.Ns s.heap.objs.size (fun _=>none)->(∀ b o,s.heap.get? b=some o->h₁.get? b=some o)->CellsOk h₁ (s.heap.objs.size+1) (cellsFrom (s.heap.objs.size+1) scope.names [])->Q (newEnv scope s.heap.objs.size globals (cellsFrom (s.heap.objs.size+1) scope.names cl) qual none .none (some env) builtinsNs) { s with heap:=h₁ }) :
  wpAny M A (newFunctionEnv scope globals cl [] qual none .none (some env)) Q E s:=by
 simp only [newFunctionEnv,Option.isSome_some,if_true]
 refine wpAny_bind (wpAny_alloc ?_)
 refine wpAny_bind (wpAny_layCells _ (fun name kind cells=>by cases hkc:kind==NameKind.cell<;>simp [hkc]) _ _ _ _ ?_)
 have ok:=cellsFrom_ok scope.names (s.heap.push { cls:=.type "dict",data:=.dict #[] }) (s.heap.objs.size+1) [] ⟨fun _ _ hm=>(nomatch hm),List.Pairwise.nil⟩ (by rw [Heap.size_push];exact Nat.le_refl _)
 rw [Heap.size_push] at ok
 rw [show ({ s with heap:=s.heap.push { cls:=.type "dict",data:=.dict #[] } }:Shared).heap.objs.size=s.heap.objs.size+1 from Heap.size_push ..]
 rw [List.forIn_nil]
 refine wpAny_bind (wpAny_pure (wpAny_pure ?_))
 exact hQ _ ((Heap.Ns.new s.heap (.type "dict")).keeps (pushCells_keeps _ _)) (fun b o e=>pushCells_keeps _ _ b o (Heap.get?_push_of_some _ e)) ok
def qq (X:Cx) (N':List Str) (scope:Scope) (s:Shared) (H:Hp) (fp:List Addr):Cx where
 prog:=X.prog
 w:=X.w
 K:=X.K
 mg:=X.mg
 base:=X.base
 A:=X.A
 N:=N'
 s₀:=s
 H₀:=H
 env:=compEnvC scope (cellsFrom (s.heap.objs.size+1) scope.names (R4 X.env scope.names [])) s.heap.objs.size X.env
 outer:=X.stack
 stack:=X.stack
 ex:=fp
 fn:=fun x=>scope.names.lookup x==some .cell
 calm:=true
 pn:=[]
 xe:=fun _ _=>False
def qbu (outer inner:Scope):Bool:=(inner.kind==.function)&&inner.names.all fun y=>
 (y.2 != .cell||inner.names.lookup y.1==some .cell)&&(y.2 != .local||inner.names.lookup y.1==some .local)&&(y.2 != .free||(inner.names.lookup y.1==some .free&&(outer.names.lookup y.1==some .cell||outer.names.lookup y.1==some .free)))
def cap {α:Type} (m:List (Option Nat)) (σ:List (Option α)):List (Option α):=m.map fun o=>match o with|some j=>(σ[j]?).join|none=>none
def U4 (N N':List Str) (scope:Scope) (m:List (Option Nat)):Bool:=(m.length==N'.length)&&(m.zip N').all fun p=>match p.1 with
 |none=>true
 |some j=>N[j]?==some p.2&&scope.names.lookup p.2==some .free
theorem qc8 {α:Type} {m:List (Option Nat)} {σ:List (Option α)} {i:Nat} {v:α} (h:(cap m σ)[i]?=some (some v)):∃ j,m[i]?=some (some j)/\σ[j]?=some (some v):=by
 unfold cap at h
 rw [getElem?_map] at h
 cases e:m[i]? with
 |none=>rw [e] at h;cases h
 |some o=>
  rw [e] at h
  cases o with
  |none=>cases h
  |some j=>
   refine ⟨j,rfl,?_⟩
   have h':(σ[j]?).join=some v:=by simpa using h
   cases q:σ[j]? with
   |none=>rw [q] at h';cases h'
   |some z=>rw [q] at h';exact congrArg some h'
theorem qdt {N N':List Str} {scope:Scope} {m:List (Option Nat)} (h:U4 N N' scope m=true) {i j:Nat} {x:Str} (e:m[i]?=some (some j)) (hx:N'[i]?=some x):N[j]?=some x/\scope.names.lookup x=some .free:=by
 unfold U4 at h
 rw [Bool.and_eq_true] at h
 have hm:(some j,x)∈m.zip N':=mem_of_getElem? (i:=i) (List.getElem?_zip_eq_some.mpr ⟨e,hx⟩)
 have:=List.all_eq_true.mp h.2 _ hm
 simp only [Bool.and_eq_true,beq_iff_eq] at this
 exact this
theorem qhd {N N':List Str} {scope:Scope} {m:List (Option Nat)} {α:Type} (σ:List (Option α)) (h:U4 N N' scope m=true):(cap m σ).length=N'.length:=by
 unfold U4 at h
 rw [Bool.and_eq_true] at h
 unfold cap
 rw [length_map]
 simpa using h.1
structure ScFacts (outer inner:Scope):Prop where
 kind:inner.kind=.function
 own:∀ y∈inner.names,y.2=.cell->inner.names.lookup y.1=some .cell
 loc:∀ y∈inner.names,y.2=.local->inner.names.lookup y.1=some .local
 free:∀ y∈inner.names,y.2=.free->inner.names.lookup y.1=some .free/\(outer.names.lookup y.1=some .cell\/outer.names.lookup y.1=some .free)
theorem WB {outer inner:Scope} (h:qbu outer inner=true):ScFacts outer inner:=by
 unfold qbu at h
 rw [Bool.and_eq_true] at h
 have ha:=List.all_eq_true.mp h.2
 refine ⟨by simpa using h.1,fun y hy e=>?_,fun y hy e=>?_,fun y hy e=>?_⟩
 ·have:=ha y hy
  rw [e] at this
  simpa using this
 ·have:=ha y hy
  rw [e] at this
  simpa using this
 ·have:=ha y hy
  rw [e] at this
  simpa using this
theorem Z7 {scope:Scope} {env:Env} {x:Str} {k:NameKind} (h:(relabel scope env).names.lookup x=some k):scope.names.lookup x=some k\/(k=.cell/\scope.names.lookup x=some .free):=by
 have key:∀ (l:List (Str×NameKind)),(l.map fun (n,k)=>if (k==NameKind.free&&env.scope.kind==.function&&env.kindOf n==some .cell) then (n,NameKind.cell) else (n,k)).lookup x=some k->l.lookup x=some k\/(k=.cell/\l.lookup x=some .free):=by
  intro l
  induction l with
  |nil=>intro h;simp at h
  |cons y r ih=>
   intro h
   obtain ⟨n,j⟩:=y
   rw [map_cons] at h
   dsimp only at h
   by_cases hc:(j==NameKind.free&&env.scope.kind==.function&&env.kindOf n==some .cell)=true
   ·rw [if_pos hc,List.lookup_cons] at h
    rw [List.lookup_cons]
    cases hx:x==n with
    |true=>
     rw [hx] at h
     have hk:NameKind.cell=k:=by simpa using h
     have hj:j=.free:=by simp only [Bool.and_eq_true,beq_iff_eq] at hc;exact hc.1.1
     exact .inr ⟨hk.symm,by rw [hj]⟩
    |false=>rw [hx] at h;exact ih h
   ·rw [if_neg hc,List.lookup_cons] at h
    rw [List.lookup_cons]
    cases hx:x==n with
    |true=>rw [hx] at h;exact .inl h
    |false=>rw [hx] at h;exact ih h
 exact key scope.names h
def PF (X:Cx) (ifs:List Expr) (t:TT):Prop:=
 ∀ (pins:List (Addr×Obj)) (s:Shared) (σ:L2.St) (H:Hp) (Q:Bool->Hp->Prop),Inv X pins σ H s->t σ H Q ->
  wpAny (model X.prog X.w) X.A (forIn ifs true fun c r=>if r=true then do let ok←isTrue c X.env (eval c X.env);pure (ForInStep.yield ok) else pure (ForInStep.yield r)) (TP X pins σ Q) X.xe s
theorem qkt {X:Cx}:PF X [] (fun _ H Q=>Q true H):=fun _ _ _ H _ I h=>wpAny_tests_nil ⟨H,I,h⟩
theorem qkG {X:Cx} {c:Expr} {t:TT} (h:PT X c t):PF X [c] t:=fun pins s σ H Q I q=>wpAny_tests_one (h pins s σ H Q I q)
section
variable {X:Cx} {pins:List (Addr×Obj)} {σ:L2.St} {H:Hp} {s:Shared}
theorem T9 {N':List Str} {scope:Scope} {fp:List Addr} {m:List (Option Nat)} {h1:Heap} {mm:Str->Option Value} (hc:X.calm=true) (I:Inv X pins σ H s) (sc:ScFacts X.env.scope scope) (hcap:U4 X.N N' scope m=true)
  (hfp:∀ b∈fp,KP X pins H b) (hob:∀ b∈fp,∃ o,s.heap.get? b=some o) (hns:h1.Ns s.heap.objs.size mm) (hk:∀ b o,s.heap.get? b=some o->h1.get? b=some o) (hown:CellsOk h1 (s.heap.objs.size+1) (cellsFrom (s.heap.objs.size+1) scope.names [])) :
  Inv (qq X N' scope s H fp) [] (cap m σ) H { s with heap:=h1 }:=by
 have hcl:∀ y∈scope.names,y.2=.free->∃ c,X.env.cells.lookup y.1=some c:=fun y hy e=>by
  rcases (sc.free y hy e).2 with z|z
  ·exact I.ok.has y.1 (.inl z)
  ·exact I.ok.has y.1 (.inr z)
 have cl:∀ x c,(R4 X.env scope.names []).lookup x=some c->X.env.cells.lookup x=some c:=fun x c e=>U6 scope.names [] x c hcl (fun _ _ z=>by simp at z) e
 have clt:∀ x c,(R4 X.env scope.names []).lookup x=some c->c<s.heap.objs.size:=fun x c e=>by
  obtain ⟨v,q⟩:=I.cell x c (cl x c e)
  exact q.lt
 -- a cell of the block: its own,or one from around
 have cs:∀ x c,(cellsFrom (s.heap.objs.size+1) scope.names (R4 X.env scope.names [])).lookup x=some c->((x,c)∈cellsFrom (s.heap.objs.size+1) scope.names []/\s.heap.objs.size+1<=c/\h1.IsCell c none)\/(R4 X.env scope.names []).lookup x=some c:=fun x c e=>by
  rw [jK,WQ] at e
  cases q:(cellsFrom (s.heap.objs.size+1) scope.names []).lookup x with
  |none=>rw [q] at e;exact .inr e
  |some d=>
   rw [q] at e
   cases e
   have mem:=PySem.mem_of_lookup q
   exact .inl ⟨mem,(hown.empty x _ mem).2,(hown.empty x _ mem).1⟩
 have fpne:∀ b∈fp,b≠s.heap.objs.size:=fun b hb=>let ⟨o,e⟩:=hob b hb;Nat.ne_of_lt (Heap.lt_size e)
 refine ⟨⟨I.ok.mod,sc.kind,I.ok.glob,I.ok.blt,Nat.le_refl _,fun x y c e1 e2=>?_,fun x hx=>?_,fun x c hf e=>?_,fun _=>I.ok.hd hc,I.ok.frames,.inl rfl,fun b hb=>⟨fpne b hb,fun x c e=>?_⟩,I.bs,Nat.le_trans I.ok.bsz I.sz,fun b o e hb=>?_,fun b hb z=>?_,I.stack,I.stkFree⟩,
  rfl,I.bare,Un.kept hk,⟨mm,hns,fun i x v e1 e2 e3=>?_⟩,fun x c e=>?_,I.fresh,fun x c e=>?_,fun p hp=>absurd (show p∈([]:List (Addr×Obj)) from hp) (by simp),I.hok.kept hk,qhd σ hcap⟩
 ·rcases cs x c e1 with ⟨m1,l1,_⟩|z1<;>rcases cs y c e2 with ⟨m2,l2,_⟩|z2
  ·exact PySem.name_of_addr hown.apart m1 m2
  ·exact absurd (clt y c z2) (Nat.not_lt.mpr (Nat.le_trans (Nat.le_succ _) l1))
  ·exact absurd (clt x c z1) (Nat.not_lt.mpr (Nat.le_trans (Nat.le_succ _) l2))
  ·exact I.ok.inj x y c (cl x c z1) (cl y c z2)
 ·have hx:(relabel scope X.env).names.lookup x=some .cell\/(relabel scope X.env).names.lookup x=some .free:=hx
  have hf:scope.names.lookup x=some .cell\/scope.names.lookup x=some .free:=by
   rcases hx with z|z
   ·rcases Z7 z with q|⟨_,q⟩
    ·exact .inl q
    ·exact .inr q
   ·rcases Z7 z with q|⟨q,_⟩
    ·exact .inr q
    ·cases q
  show ∃ c,(cellsFrom (s.heap.objs.size+1) scope.names (R4 X.env scope.names [])).lookup x=some c
  rcases hf with hf|hf
  ·exact QP scope.names _ _ x (.inl (PySem.mem_of_lookup hf))
  ·exact QP scope.names _ _ x (.inr (X7 scope.names [] x (.inl (PySem.mem_of_lookup hf))))
 ·have hf:scope.names.lookup x=some .cell:=by simpa [qq] using hf
  rcases cs x c e with ⟨_,l1,_⟩|z1
  ·exact Nat.le_trans (Nat.le_succ _) l1
  ·rcases TJ scope.names [] x c z1 with q|q
   ·rw [(sc.free _ q rfl).1] at hf;cases hf
   ·simp at q
 ·rcases cs x c e with ⟨_,l1,_⟩|z1
  ·obtain ⟨o,eo⟩:=hob b hb
   exact Nat.ne_of_gt (Nat.lt_of_lt_of_le (Heap.lt_size eo) (Nat.le_trans (Nat.le_succ _) l1))
  ·exact (hfp b hb).2.2.2.2.1 x c (cl x c z1)
 ·rcases (hfp b hb).2.2.2.1 with z|z
  ·exact I.ok.noex b o e z
  ·exact absurd (Nat.lt_of_lt_of_le (Heap.lt_size e) (Nat.le_trans I.ok.bsz z)) (Nat.lt_irrefl _)
 ·rcases mem_cons.mp (I.stkSub b z) with q|q
  ·exact (hfp b hb).2.1 q
  ·exact (hfp b hb).2.2.1 q
 ·obtain ⟨j,ej,es⟩:=qc8 e2
  obtain ⟨hN,hfr⟩:=qdt hcap ej e1
  have mem:=PySem.mem_of_lookup hfr
  have ho:=(sc.free _ mem rfl).2
  obtain ⟨m0,hn0,hl0⟩:=I.loc
  obtain ⟨u,ru,lk⟩:=hl0 j x v hN es (ho.elim (fun z=>.inr (.inl z)) fun z=>.inr (.inr z))
  refine ⟨u,ru,.inr ⟨?_,?_⟩⟩
  ·rcases e3 with z|z|z
   ·rcases Z7 z with q|⟨q,_⟩
    ·rw [hfr] at q;cases q
    ·cases q
   ·exact .inl z
   ·exact .inr z
  ·rcases lk with ⟨z,_⟩|⟨_,c,hc',hcell⟩
   ·have z:X.env.scope.names.lookup x=some .local:=z
    rcases ho with q|q<;>(rw [z] at q;cases q)
   ·obtain ⟨c',hc2⟩:=X7 (env:=X.env) scope.names [] x (.inl mem)
    have e:=cl x c' hc2
    rw [hc'] at e
    cases e
    obtain ⟨o,eo,d⟩:=hcell
    refine ⟨c,?_,o,hk c o eo,d⟩
    show (cellsFrom (s.heap.objs.size+1) scope.names (R4 X.env scope.names [])).lookup x=some c
    rw [jK,WQ]
    cases q:(cellsFrom (s.heap.objs.size+1) scope.names []).lookup x with
    |none=>exact hc2
    |some d=>
     rcases JS scope.names _ [] x d (PySem.mem_of_lookup q) with z|z
     ·rw [sc.own _ z rfl] at hfr;cases hfr
     ·simp at z
 ·rcases cs x c e with ⟨_,_,z⟩|z1
  ·exact ⟨none,z⟩
  ·obtain ⟨v,o,eo,d⟩:=I.cell x c (cl x c z1)
   exact ⟨v,o,hk c o eo,d⟩
 ·rcases cs x c e with ⟨_,l1,_⟩|z1
  ·exact I.hok.fresh (Nat.le_trans (Nat.le_succ _) l1)
  ·exact I.freeC x c (cl x c z1)
theorem WK {N':List Str} {scope:Scope} {fp:List Addr} {pins':List (Addr×Obj)} {σ':L2.St} {H':Hp} {s':Shared} {h2:Heap} (I:Inv X pins σ H s) (hfp:∀ b∈fp,KP X pins H b) (J:Inv (qq X N' scope s H fp) pins' σ' H' s')
  (sb:Heap.SameBut s.heap.objs.size s'.heap h2):Inv X pins σ H' { s' with heap:=h2 }:=by
 have ne:∀ b o,s.heap.get? b=some o->b≠s.heap.objs.size:=fun b o e=>Nat.ne_of_lt (Heap.lt_size e)
 have g:∀ b,b≠s.heap.objs.size->h2.get? b=s'.heap.get? b:=fun b hb=>sb.2 b hb
 have hn:H' s.heap.objs.size=none:=J.free
 have u:Un (frs X.stack) fp H H' s.heap s'.heap:=J.base
 refine I.call' (s':={ s' with heap:=h2 }) J.os ⟨fun b o e n hb hx=>?_,fun b o e n hb hx=>?_,u.free,fun b o e hx=>?_,u.tups,u.frzs,u.tbls⟩ (fun a o e=>?_) J.bare fun b hb=>⟨(hfp b hb).2.2.2.1,(hfp b hb).2.1,(hfp b hb).2.2.2.2.1,(hfp b hb).2.2.2.2.2⟩
 ·show h2.get? b=_
  rw [g b (ne b o e)];exact u.keep b o e n hb hx
 ·show ∃ sl,h2.get? b=_
  rw [g b (ne b o e)];exact u.slot b o e n hb hx
 ·show ∃ o',h2.get? b=_
  rw [g b (ne b o e)];exact u.there b o e hx
 ·refine (J.hok a o e).stay (fun b v hb q=>?_) (fun _ q=>q) fun _ _ q=>q
  have hb':b≠s.heap.objs.size:=by
   intro z
   subst z
   rcases hb with z|z
   ·rw [← z] at e;rw [hn] at e;cases e
   ·rw [hn] at z;cases z
  rw [g b hb'];exact q
end
def tLC (wi:TI) (g:TG) (tif:TT) (te:TE) (m:List (Option Nat)):TE:=fun σ H Q=>wi σ H fun J H1=>∀ D,H1 D=none ->
 ∃ W:Nat->Nat->L2.St->Hp->Prop,(∃ n,W 0 n (cap m σ) (upd H1 D (.lst [])))/\∀ i n σ H,W i n σ H ->
  (J.stop i H/\Q (.ref D) H)\/(J.go i H/\∀ x H',J.yld i H x H'->g x σ H' fun σ2 H2=>tif σ2 H2 fun k H3=>
   if k=true then te σ2 H3 fun y H4=>∃ zs,H4 D=some (.lst zs)/\zs.length<sizeLine/\∃ n',n'<n/\W (i+1) n' σ2 (upd H4 D (.lst (zs++[y])))
   else ∃ n',n'<n/\W (i+1) n' σ2 H3)
section
variable {X:Cx}
theorem qoc {elt tg iter:Expr} {ifs:List Expr} {scope:Scope} {pos:Pos} {N':List Str} {m:List (Option Nat)} {wi:TI} {g:TG} {tif:TT} {te:TE} (hc:X.calm=true) (hi:PI X tg iter wi)
  (hg:∀ s H fp,PG (qq X N' scope s H fp) tg g) (hf:∀ s H fp,PF (qq X N' scope s H fp) ifs tif) (he:∀ s H fp,PE (qq X N' scope s H fp) elt te)
  (hsc:qbu X.env.scope scope=true) (hcap:U4 X.N N' scope m=true) (hs:∀ x,foldedSetIterable iter X.env x=pure x:=by intro _;rfl) :
  PE X (.ListComp elt [⟨tg,iter,ifs,0⟩] scope pos) (tLC wi g tif te m):=by
 intro pins s σ H Q I h
 have sc:=WB hsc
 have hcl:∀ y∈scope.names,y.2=.free->∃ c,X.env.cells.lookup y.1=some c:=fun y hy e=>by
  rcases (sc.free y hy e).2 with z|z
  ·exact I.ok.has y.1 (.inl z)
  ·exact I.ok.has y.1 (.inr z)
 rw [eval_ListComp]
 refine wpAny_comprehension_free (use:=none) (g:=⟨tg,iter,ifs,0⟩) (gs:=[]) rfl hs (YH hcl) sc.kind sc.loc ?_
 show wpAny _ _ (eval iter X.env) _ _ s
 refine thn (hi pins s σ H _ I h) fun v s1 h1=>thn h1 fun itv s2 h2=>?_
 obtain ⟨it,fp,tn,J,H2,rfl,I2,T,st2,f2,hW⟩:=h2
 refine wpAny_newObj_type ?_
 have hD:H2 s2.heap.objs.size=none:=I2.fresh
 obtain ⟨W,⟨n0,w0⟩,turn⟩:=hW _ hD
 generalize hDe:s2.heap.objs.size=D at *
 have I3:Inv X pins σ (upd H2 D (.lst [])) { s2 with heap:=s2.heap.push { cls:=.type "list",dict:=none,data:=.seq ([]:List Value).toArray } }:=by
  subst hDe
  exact I2.laid (t':=s2.toks) (fun b u e=>Heap.get?_push_of_some _ e) (Nat.le_refl _) ⟨Nat.zero_le _,[],0,.nil,Heap.get?_push_size _ rfl⟩
 have ob2:=T.obj 0 _ st2
 have ob3:∀ b∈fp,∃ o,(s2.heap.push { cls:=.type "list",dict:=none,data:=.seq ([]:List Value).toArray }).get? b=some o:=fun b hb=>let ⟨o,e,_⟩:=ob2 b hb;⟨o,Heap.get?_push_of_some _ e⟩
 have f3:∀ b∈fp,KP X pins (upd H2 D (.lst [])) b:=fun b hb=>by
  obtain ⟨o,e,_⟩:=ob2 b hb
  have:b≠D:=by rw [← hDe];exact Nat.ne_of_lt (Heap.lt_size e)
  exact ⟨by rw [qN this];exact (f2 b hb).1,(f2 b hb).2⟩
 have k23:∀ b o,s2.heap.get? b=some o->(s2.heap.push { cls:=.type "list",dict:=none,data:=.seq ([]:List Value).toArray }).get? b=some o:=fun b o e=>Heap.get?_push_of_some _ e
 generalize hH3:upd H2 D (.lst [])=H3 at *
 generalize hs3:({ s2 with heap:=s2.heap.push { cls:=.type "list",dict:=none,data:=.seq ([]:List Value).toArray } }:Shared)=s3 at *
 have ob3:∀ b∈fp,∃ o,s3.heap.get? b=some o:=by rw [← hs3];exact ob3
 have k23:∀ b o,s2.heap.get? b=some o->s3.heap.get? b=some o:=by rw [← hs3];exact k23
 refine QJ fun h₁ hns hk hown=>?_
 have I4:Inv (qq X N' scope s3 H3 fp) [] (cap m σ) H3 { s3 with heap:=h₁ }:=T9 hc I3 sc hcap f3 ob3 hns hk hown
 have tn4:tn 0 h₁:=T.keep _ _ _ st2 fun b hb o e=>hk b o (k23 b o e)
 have fr4:∀ b∈fp,H3 b=none:=fun b hb=>(f3 b hb).1
 have stat:∀ {H':Hp},(∀ b∈fp,H' b=none)->∀ b∈fp,KP (qq X N' scope s3 H3 fp) [] H' b:=fun hn b hb=>by
  refine ⟨hn b hb,I4.ok.exf b hb |>.1,I4.ok.exfs b hb,.inl hb,fun x c e=>(I4.ok.exf b hb).2 x c e,fun p hp=>absurd (show p∈([]:List (Addr×Obj)) from hp) (by simp)⟩
 show codeAny (model X.prog X.w) X.A (.compStart (.ListComp elt [⟨tg,iter,ifs,0⟩] scope pos) 0 (.ref it) (.ref D) (qq X N' scope s3 H3 fp).env) (compPost (model X.prog X.w) X.A X.xe none (EP X pins σ Q) (.ref D) s3.heap.objs.size) { s3 with heap:=h₁ }
 have loop:codeAny (model X.prog X.w) X.A (.compLoop (.ListComp elt [⟨tg,iter,ifs,0⟩] scope pos) 0 (.ref it) (.ref D) (qq X N' scope s3 H3 fp).env) (compPost (model X.prog X.w) X.A X.xe none (EP X pins σ Q) (.ref D) s3.heap.objs.size) { s3 with heap:=h₁ }:=by
  refine codeAny_loop rfl (fun n s'=>∃ i σ' H',Inv (qq X N' scope s3 H3 fp) [] σ' H' s'/\tn i s'.heap/\(∀ b∈fp,H' b=none)/\W i n σ' H') (fun n s' hI=>?_) n0 ⟨0,cap m σ,H3,I4,tn4,fr4,w0⟩
  show wpAny _ X.A ((compTurn (.ListComp elt [⟨tg,iter,ifs,0⟩] scope pos) 0 (.ref it) (.ref D) (qq X N' scope s3 H3 fp).env).onRaise (fun x=>do noteFrame x (qq X N' scope s3 H3 fp).env;theTreesLotGoes x)) _ _ s'
  refine wpAny_noted ?_
  rw [compTurn_list]
  refine wpAny_bind (wpAny_standAt (wpAny_bind ?_))
  obtain ⟨i,σ5,H5,I5,st5,fr5,w5⟩:=hI
  rcases turn i n σ5 H5 w5 with ⟨stop,q⟩|⟨go,step⟩
  ·refine thn (T.done (qq X N' scope s3 H3 fp) rfl rfl rfl rfl i [] s' σ5 H5 _ I5 (stat fr5) st5 stop) fun r s6 ⟨hr,I6⟩=>?_
   subst hr
   refine wpAny_pure ?_
   obtain ⟨mm,hn6,_⟩:=I6.loc
   exact ⟨mm,hn6,fun h' sb=>⟨.ref D,H5,WK I3 f3 I6 sb,rfl,q⟩⟩
  ·refine thn (T.item (qq X N' scope s3 H3 fp) rfl rfl rfl rfl i [] s' σ5 H5 _ I5 (stat fr5) st5 go) fun r s6 ⟨u,hr,h6⟩=>?_
   subst hr
   refine wpAny_bind (thn h6 fun _ s7 ⟨x,H7,I7,r7,y7,st7,fr7⟩=>?_)
   have I7':=I7.pinned (stat fr7) (T.obj _ _ st7)
   have again:∀ {σ8:L2.St} {H8:Hp} {s8:Shared},Inv (qq X N' scope s3 H3 fp) ([]++XD fp s7.heap) σ8 H8 s8->(∃ n',n'<n/\W (i+1) n' σ8 H8) ->
     ∃ m',m'<n/\∃ i σ' H',Inv (qq X N' scope s3 H3 fp) [] σ' H' s8/\tn i s8.heap/\(∀ b∈fp,H' b=none)/\W i m' σ' H':=fun {σ8 H8 s8} I8 ⟨n',hn,w8⟩=>by
    refine ⟨n',hn,i+1,σ8,H8,I8.unpinned,T.keep _ _ _ st7 fun b hb o e=>(I8.pin (b,o) (mem_append_right _ (mem_append_right _ (zR hb e)))).1,fun b hb=>?_,w8⟩
    obtain ⟨o,e,d⟩:=T.obj _ _ st7 b hb
    exact (I8.pin (b,o) (mem_append_right _ (mem_append_right _ (zR hb e)))).2.1
   refine wpAny_bind (wpAny_mono (hg s3 H3 fp _ s7 σ5 H7 x u _ I7' r7 (step x H7 y7)) (fun _ s8 ⟨σ8,H8,I8,q8⟩=>?_) fun _ _ z=>z.elim)
   refine wpAny_bind (wpAny_mono (hf s3 H3 fp _ s8 σ8 H8 _ I8 q8) (fun k s9 ⟨H9,I9,q9⟩=>?_) fun _ _ z=>z.elim)
   cases k with
   |false=>
    rw [if_neg Bool.false_ne_true] at q9
    exact wpAny_pure ⟨rfl,again I9 q9⟩
   |true=>
    rw [if_pos rfl] at q9
    refine wpAny_bind (wpAny_bind (wpAny_mono (he s3 H3 fp _ s9 σ8 H9 _ I9 q9) (fun w s10 ⟨y,H10,I10,r10,q10⟩=>?_) fun _ _ z=>z.elim))
    obtain ⟨zs,hz,hl,q10⟩:=q10
    refine wpAny_bind (wpAny_mono (DS (X:=qq X N' scope s3 H3 fp) _ s10 σ8 H10 (.ref D) [y] (.ref D) [w] (fun _ H11=>H11=upd H10 D (.lst (zs++[y]))) I10 rfl (.cons r10 .nil) ⟨D,zs,y,rfl,rfl,hz,hl,rfl⟩) (fun _ s11 ⟨_,H11,I11,_,e11⟩=>?_) fun _ _ z=>z.elim)
    subst e11
    exact wpAny_pure (wpAny_pure ⟨rfl,again I11 q10⟩)
 exact codeAny_compStart_list loop (T.self X.A 0 _ _ _ tn4 loop)
end
section
variable {K:PySem.W.Frag} {G G':Gp} {H H':Hp}
theorem qhk {D:Addr} {o:HO} {ws:List V} (hD:H D=some (.lst ws)) {a:Addr} {vs:List V} (h:SqT K H a vs):SqT K (upd H D o) a vs:=by
 rcases h with h|h
 ·refine .inl ?_
  rcases h with h|⟨ob,h⟩
  ·have:a≠D:=by intro e;subst e;rw [hD] at h;cases h
   exact .inl (by rw [qN this];exact h)
  ·have:a≠D:=by intro e;subst e;rw [hD] at h;cases h
   exact .inr ⟨ob,by rw [qN this];exact h⟩
 ·exact .inr h
mutual
theorem Rp.wrD {D:Addr} {o:HO} {ws:List V} (hD:H D=some (.lst ws)):∀ {x:T} {v:V},Rp K H x v->Rp K (upd H D o) x v
 |_,_,.non=>.non
 |_,_,.bl b=>.bl b
 |_,_,.int i=>.int i
 |_,_,.str x=>.str x
 |_,_,.ref a=>.ref a
 |_,_,.tup h hs=>.tup (qhk hD h) (Rps.wrD hD hs)
theorem Rps.wrD {D:Addr} {o:HO} {ws:List V} (hD:H D=some (.lst ws)):∀ {x:List T} {v:List V},Rps K H x v->Rps K (upd H D o) x v
 |_,_,.nil=>.nil
 |_,_,.cons a b=>.cons (Rp.wrD hD a) (Rps.wrD hD b)
end
theorem HR.wrD {D:Addr} {o:HO} {ws:List V} (hr:HR K G H) (hD:H D=some (.lst ws)) (g:G D=none):HR K G (upd H D o):=fun a ob e=>by
 have ha:a≠D:=by intro z;subst z;rw [g] at e;cases e
 have q:=hr a ob e
 cases ob with
 |lst xs=>obtain ⟨vs,h1,h2⟩:=q;exact ⟨vs,by rw [qN ha];exact h1,h2.wrD hD⟩
 |frz xs=>obtain ⟨vs,⟨o1,h1⟩,h2⟩:=q;exact ⟨vs,⟨o1,by rw [qN ha];exact h1⟩,h2.wrD hD⟩
theorem Rel.wrD {D:Addr} {o:HO} {ws:List V} {τ:St3} {σ:L2.St} (r:Rel K τ G σ H) (hD:H D=some (.lst ws)) (g:G D=none):Rel K τ G σ (upd H D o):=
 ⟨r.hp.wrD hD g,r.len,fun i t e=>let ⟨v,h1,h2⟩:=r.st i t e;⟨v,h1,h2.wrD hD⟩⟩
theorem Kp.wrD {D:Addr} {o:HO} (k:Kp G H G' H') (hD:H D=none):Kp G H G' (upd H' D o):=fun a ob h g=>by
 obtain ⟨h1,h2⟩:=k a ob h g
 exact ⟨by rw [qN (qD h hD)];exact h1,h2⟩
theorem qen {α:Type} {m:List (Option Nat)} {σ:List (Option α)} {i j:Nat} (h:m[i]?=some (some j)):(cap m σ)[i]?=some ((σ[j]?).join):=by
 unfold cap;rw [getElem?_map,h];rfl
theorem Rel.cap {τ:St3} {σ:L2.St} (r:Rel K τ G σ H) (m:List (Option Nat)):Rel K (cap m τ) G (L3.cap m σ) H:=by
 refine ⟨r.hp,by simp [L3.cap],fun i t e=>?_⟩
 obtain ⟨j,e1,e2⟩:=qc8 e
 obtain ⟨v,h1,h2⟩:=r.st j t e2
 exact ⟨v,by rw [qen e1,h1];rfl,h2⟩
end
def RV (stay:Gp->Prop) (g:TG3) (tif:TT3) (te:TE3) (q:Q3):List T->List T->St3->Gp->Prop
 |[],ys,_,G=>stay G/\∀ p,G p=none->q (.ref p) (gu G p (.lst ys))
 |x::r,ys,τ,G=>stay G/\g x τ G fun τ2 G2=>tif τ2 G2 fun k G3=>if k=true then te τ2 G3 fun y G4=>ys.length<sizeLine/\RV stay g tif te q r (ys++[y]) τ2 G4 else RV stay g tif te q r ys τ2 G3
def lc3 (wi:TI3) (g:TG3) (tif:TT3) (te:TE3) (m:List (Option Nat)):TE3:=fun τ G q=>wi τ G fun items stay G1=>RV stay g tif te q items [] (cap m τ) G1
abbrev F3 (X:Cx) (ifs:List Expr) (t:TT3):Prop:=PF X ifs (lT X.K t)
def tt3:TT3:=fun _ G q=>q true G
theorem qpd {X:Cx}:F3 X [] tt3:=fun pins s σ H Q I ⟨τ,G,q,rl,h,af⟩=>qkt pins s σ H Q I (af true G h H rl.hp Kp.refl)
theorem qpx {X:Cx} {c:Expr} {t:TT3} (h:C3 X c t):F3 X [c] t:=qkG h
section
variable {X:Cx}
theorem qqS {elt tg iter:Expr} {ifs:List Expr} {scope:Scope} {pos:Pos} (N':List Str) (m:List (Option Nat)) {wi:TI3} {g:TG3} {tif:TT3} {te:TE3} (hc:X.calm=true) (hi:I3 X tg iter wi)
  (hg:∀ s H fp,G3 (qq X N' scope s H fp) tg g) (hf:∀ s H fp,F3 (qq X N' scope s H fp) ifs tif) (he:∀ s H fp,E3 (qq X N' scope s H fp) elt te)
  (hsc:qbu X.env.scope scope=true) (hcap:U4 X.N N' scope m=true) (hs:∀ x,foldedSetIterable iter X.env x=pure x:=by intro _;rfl) :
  E3 X (.ListComp elt [⟨tg,iter,ifs,0⟩] scope pos) (lc3 wi g tif te m):=
 XY (qoc (g:=lG X.K g) (tif:=lT X.K tif) (te:=lE X.K te) hc hi hg hf he hsc hcap hs) fun σ H Q ⟨τ,G,q,rl,h,af⟩=>by
  refine ⟨τ,G,_,rl,h,fun items stay G1 h1 J H1 hr1 k1 ok D hD=>?_⟩
  have gD:G1 D=none:=hr1.free hD
  refine ⟨fun i n σ' H'=>n=items.length-i/\i<=items.length/\∃ τ' G' ys vs,Rel X.K τ' G' σ' H'/\Kp G1 H1 G' H'/\H' D=some (.lst vs)/\Rps X.K H' ys vs/\G' D=none/\RV stay g tif te q (items.drop i) ys τ' G',
   ⟨_,rfl,Nat.zero_le _,cap m τ,G1,[],[],((rl.next hr1 k1).cap m).next (hr1.laid hD) (Kp.laid hD),Kp.laid hD,zj,.nil,gD,by simpa using h1⟩,?_⟩
  rintro i n σ' H' ⟨rfl,hi,τ',G',ys,vs,rl',k',hDl,rys,gD',h'⟩
  by_cases hlt:i<items.length
  ·rw [List.drop_eq_getElem_cons hlt] at h'
   obtain ⟨hst,h'⟩:=h'
   obtain ⟨go,yld,_⟩:=ok G' H' rl'.hp k' hst
   have hx:items[i]?=some items[i]:=getElem?_eq_getElem hlt
   refine .inr ⟨go i _ hx,fun v H2 y=>?_⟩
   obtain ⟨rv,hr2,k2⟩:=yld i _ v H2 hx y
   have nxt:∀ {τ4:St3} {G4:Gp} {σ4:L2.St} {H4:Hp} {ys4:List T} {vs4:List V},Rel X.K τ4 G4 σ4 H4->Kp G1 H1 G4 H4->H4 D=some (.lst vs4)->Rps X.K H4 ys4 vs4->G4 D=none->RV stay g tif te q (items.drop (i+1)) ys4 τ4 G4 ->
     ∃ n',n'<items.length-i/\(n'=items.length-(i+1)/\i+1<=items.length/\∃ τ' G' ys vs,Rel X.K τ' G' σ4 H4/\Kp G1 H1 G' H4/\H4 D=some (.lst vs)/\Rps X.K H4 ys vs/\G' D=none/\RV stay g tif te q (items.drop (i+1)) ys τ' G'):=
    fun {τ4 G4 σ4 H4 ys4 vs4} a b c d e f=>⟨_,by omega,rfl,hlt,τ4,G4,ys4,vs4,a,b,c,d,e,f⟩
   refine ⟨_,τ',G',_,rv,rl'.next hr2 k2,h',fun τ3 G3 h3 σ3 H3 rl3 k3=>⟨τ3,G3,_,rl3,h3,fun k G4 h4 H4 hr4 k4=>?_⟩⟩
   have kk:=(k2.trans k3).trans k4
   obtain ⟨hD4,gD4⟩:=kk D _ hDl gD'
   have rys4:=rys.keep rl'.hp kk
   cases k with
   |false=>
    rw [if_neg Bool.false_ne_true] at h4
    refine qnY ?_
    exact nxt (rl3.next hr4 k4) (k'.trans kk) hD4 rys4 gD4 h4
   |true=>
    rw [if_pos rfl] at h4
    refine qn3 ?_
    refine ⟨τ3,G4,_,rl3.next hr4 k4,h4,fun z G5 h5 w H5 rw5 hr5 k5=>?_⟩
    obtain ⟨hD5,gD5⟩:=k5 D _ hD4 gD4
    have rys5:=rys4.keep hr4 k5
    exact ⟨vs,hD5,by rw [← rys.length];exact h5.1,nxt (((rl3.next hr4 k4).next hr5 k5).wrD hD5 gD5) (((k'.trans kk).trans k5).wrD hD) zj ((rys5.append (.cons rw5 .nil)).wrD hD5) gD5 h5.2⟩
  ·have e:i=items.length:=by omega
   subst e
   rw [List.drop_length] at h'
   obtain ⟨_,_,stop⟩:=ok G' H' rl'.hp k' h'.1
   refine .inl ⟨stop,af _ _ (h'.2 D gD') _ H' (.ref D) (fun a o e=>?_) fun a o e ga=>?_⟩
   ·by_cases ha:a=D
    ·subst ha
     rw [qw] at e;cases e
     exact ⟨vs,hDl,rys⟩
    ·rw [jF ha] at e
     exact rl'.hp a o e
   ·obtain ⟨e1,g1⟩:=k1 a o e ga
    obtain ⟨e2,g2⟩:=k' a o e1 g1
    exact ⟨e2,by rw [jF (qD e1 hD)];exact g2⟩
end
structure Src (P:Program) (w:World) (it c:Addr) (St:Nat->Heap->Prop) (Has:Array Value->Heap->Prop):Prop where
 obj:∀ {k h},St k h->∃ o,h.get? it=some o/\∀ v,o.data≠.cell v
 keep:∀ {k h h'},St k h->(∀ o,h.get? it=some o->h'.get? it=some o)->St k h'
 hkeep:∀ {xs h h'},Has xs h->(∀ o,h.get? c=some o->h'.get? c=some o)->Has xs h'
 item:∀ {A:Around} {s:Shared} {k:Nat} {xs:Array Value} {x:Value} {Q:Value->Shared->Prop} {E:Value->Shared->Prop},St k s.heap->Has xs s.heap->xs[k]?=some x ->
  (∀ h',St (k+1) h'->Heap.SameBut it s.heap h'->Q x { s with heap:=h' })->wpAny (model P w) A (Builtin.SmallTypes.nextOf (.ref it)) Q E s
 done:∀ {A:Around} {s:Shared} {k:Nat} {xs:Array Value} {Q:Value->Shared->Prop} {E:Value->Shared->Prop},A.handled=none->St k s.heap->Has xs s.heap->xs[k]?=none ->
  (∀ h' e,Heap.ExtBut it s.heap h'->(∃ o,h'.get? e=some o/\o.cls=.type "StopIteration")->E (.ref e) { s with heap:=h' })->wpAny (model P w) A (Builtin.SmallTypes.nextOf (.ref it)) Q E s
theorem qek {P:Program} {w:World} (it l:Addr):Src P w it l (fun k h=>h.IsListIter it l k) (fun xs h=>h.IsList l xs) where
 obj:=fun st=>let ⟨o,e,_,d⟩:=st;⟨o,e,fun v z=>by rw [d] at z;cases z⟩
 keep:=fun st k=>st.at fun o e=>k o e
 hkeep:=fun st k=>st.at fun o e=>k o e
 item:=fun st hl hx hQ=>wpAny_nextOf_list_item st hl hx hQ
 done:=fun hh st hl hx hE=>wpAny_nextOf_list_end hh st hl hx hE
theorem qa9 {P:Program} {w:World} {A:Around} {s:Shared} {it t:Addr} {i:Nat} {its:Array Value} {x:Value} {Q:Value->Shared->Prop} {E:Value->Shared->Prop} (hit:s.heap.IsTupleIter it t i) (ht:s.heap.IsTuple t its) (hx:its[i]?=some x)
  (hQ:∀ h',h'.IsTupleIter it t (i+1)->Heap.SameBut it s.heap h'->Q x { s with heap:=h' }):wpAny (model P w) A (Builtin.SmallTypes.nextOf (.ref it)) Q E s:=by
 obtain ⟨o1,e1,c1,d1⟩:=id hit
 obtain ⟨o2,e2,_,n2,d2⟩:=ht
 unfold Builtin.SmallTypes.nextOf
 refine wpAny_bind (wpAny_callSpecial?_slot (name:=Str.ofString "__next__") hit.typeIs F.slot_tuple_iterator_next (wpAny_call_entry F.slot_tuple_iterator_next hit.typeIs F.entry_tuple_iterator_next ?_ (F.args_tuple_iterator_next_1 _)))
 refine wpAny_bind (m:=field (.ref it) 0) (wpAny_field e1 d1 (x:=.ref t) rfl ?_)
 rw [if_neg (show ¬ ((Value.ref t==Value.none)=true) by exact Bool.false_ne_true)]
 refine wpAny_bind (m:=field (.ref it) 1) (wpAny_field e1 d1 (x:=.int i 0) rfl ?_)
 refine wpAny_bind (m:=seqItems? (.ref t)) (wpAny_seqItems e2 d2 ?_)
 simp only [Int.toNat_natCast,hx]
 refine wpAny_bind (wpAny_setField e1 d1 (by simp) (wpAny_pure ⟨x,rfl,wpAny_pure (hQ _ ⟨_,Heap.get?_update_self _ e1 (Obj.isFreed_of_fields (Obj.data_mapFields d1 _)),(Obj.cls_mapFields ..).trans c1,?_⟩ (Heap.SameBut.update ..))⟩))
 rw [Obj.data_mapFields d1];simp [rawInt]
theorem RZ {P:Program} {w:World} {A:Around} {s:Shared} {it t:Addr} {i:Nat} {its:Array Value} {Q:Value->Shared->Prop} {E:Value->Shared->Prop} (hh:A.handled=none) (hit:s.heap.IsTupleIter it t i) (ht:s.heap.IsTuple t its) (hx:its[i]?=none)
  (hE:∀ h' e,Heap.ExtBut it s.heap h'->(∃ o,h'.get? e=some o/\o.cls=.type "StopIteration")->E (.ref e) { s with heap:=h' }):wpAny (model P w) A (Builtin.SmallTypes.nextOf (.ref it)) Q E s:=by
 obtain ⟨o1,e1,c1,d1⟩:=id hit
 obtain ⟨o2,e2,_,n2,d2⟩:=ht
 unfold Builtin.SmallTypes.nextOf
 refine wpAny_bind (wpAny_callSpecial?_slot (name:=Str.ofString "__next__") hit.typeIs F.slot_tuple_iterator_next (wpAny_call_entry F.slot_tuple_iterator_next hit.typeIs F.entry_tuple_iterator_next ?_ (F.args_tuple_iterator_next_1 _)))
 refine wpAny_bind (m:=field (.ref it) 0) (wpAny_field e1 d1 (x:=.ref t) rfl ?_)
 rw [if_neg (show ¬ ((Value.ref t==Value.none)=true) by exact Bool.false_ne_true)]
 refine wpAny_bind (m:=field (.ref it) 1) (wpAny_field e1 d1 (x:=.int i 0) rfl ?_)
 refine wpAny_bind (m:=seqItems? (.ref t)) (wpAny_seqItems e2 d2 ?_)
 simp only [Int.toNat_natCast,hx]
 refine wpAny_bind (wpAny_rule (wpAny_bind (wpAny_setField e1 d1 (by simp) ?_)))
 refine wpAny_bind (m:=newExc (.type "StopIteration") []) ?_
 simp only [newExc,newTuple]
 refine wpAny_bind (wpAny_newObj_type ?_ (by size_fits))
 refine wpAny_bind (m:=firstArgMember _ _) (wpAny_of_eq (a:=Value.none) (by first|rfl|(simp only [firstArgMember]<;>rfl)) (wpAny_newObj_type ?_ (by size_fits)))
 simp only [raiseNew]
 refine wpAny_bind (wpAny_handled ?_)
 first|rw [show A.in1.handled=Option.none from hh]|rw [show A.handled=Option.none from hh]
 exact wpAny_bind (wpAny_pure (wpAny_throw (hE _ _ (((Heap.SameBut.update ..).extBut.push _).push _) ⟨_,Heap.get?_push_size _ rfl,rfl⟩)))
theorem qhS {P:Program} {w:World} (it t:Addr):Src P w it t (fun k h=>h.IsTupleIter it t k) (fun xs h=>h.IsTuple t xs) where
 obj:=fun st=>let ⟨o,e,_,d⟩:=st;⟨o,e,fun v z=>by rw [d] at z;cases z⟩
 keep:=fun st k=>st.at fun o e=>k o e
 hkeep:=fun st k=>st.at fun o e=>k o e
 item:=fun st hl hx hQ=>qa9 st hl hx hQ
 done:=fun hh st hl hx hE=>RZ hh st hl hx hE
structure ZA (z ti to i1 i2 c1 c2:Addr):Prop where
 ne:([z,ti,to,i1,i2]:List Addr).Nodup
 a1:c1∉[z,to,i1,i2]
 a2:c2∉[z,to,i1,i2]
section
variable {P:Program} {w:World} {A:Around} {s:Shared} {z ti to i1 i2 c1 c2:Addr} {S1 S2:Nat->Heap->Prop} {H1 H2:Array Value->Heap->Prop} {k1 k2:Nat} {xs ys:Array Value} {x y a b:Value} {E:Value->Shared->Prop}
theorem qdR {Q:Value->Shared->Prop} (R1:Src P w i1 c1 S1 H1) (R2:Src P w i2 c2 S2 H2) (D:ZA z ti to i1 i2 c1 c2) (hz:IsZip s.heap z ti to .none) (hi:IsPair s.heap ti (.ref i1) (.ref i2)) (ho:IsPair s.heap to a b)
  (p1:S1 k1 s.heap) (p2:S2 k2 s.heap) (l1:H1 xs s.heap) (l2:H2 ys s.heap) (hx:xs[k1]?=some x) (hy:ys[k2]?=some y)
  (hQ:∀ h',IsZip h' z ti to (rawInt s.heap.objs.size)->IsPair h' to x y->S1 (k1+1) h'->S2 (k2+1) h'->IsPair h' s.heap.objs.size x y->(∀ c o,c∉[z,to,i1,i2]->s.heap.get? c=some o->h'.get? c=some o)->Q (.ref s.heap.objs.size) { s with heap:=h' }) :
  wpAny (model P w) A (Builtin.«zip.__next__» ⟨[.ref z],[]⟩) (fun fin s'=>∃ v,fin=.done (.ret v)/\Q v s') E s:=by
 have ne:=D.ne
 simp only [List.nodup_cons,mem_cons,not_mem_nil,not_or,or_false] at ne
 obtain ⟨⟨n1,n2,n3,n4⟩,⟨n5,n6,n7⟩,⟨n8,n9⟩,n10,_⟩:=ne
 have a1:=D.a1
 have a2:=D.a2
 simp only [mem_cons,not_mem_nil,not_or,or_false] at a1 a2
 obtain ⟨q1,q2,q3,q4⟩:=a1
 obtain ⟨r1,r2,r3,r4⟩:=a2
 refine wpAny_bind (m:=field (.ref z) 2) (wpAny_field hz rfl (x:=.bool false) rfl ?_)
 refine wpAny_bind (m:=field (.ref z) 3) (wpAny_field hz rfl (x:=.ref ti) rfl ?_)
 refine wpAny_bind (wpAny_seqItems hi rfl ?_)
 refine wpAny_bind (m:=Builtin.SmallTypes.ownedTupleIsFree (.ref z)) ?_
 unfold Builtin.SmallTypes.ownedTupleIsFree
 refine wpAny_bind (wpAny_field hz rfl (x:=Value.none) rfl (wpAny_pure ?_))
 simp only [if_true]
 refine wpAny_bind (wpAny_rule (wpAny_bind (wpAny_field hz rfl (x:=.ref to) rfl (wpAny_bind (wpAny_setField_rec hz (by simp) fun g1 z1 s1=>?_)))))
 replace z1:IsZip g1 z ti to Value.ellipsis:=z1
 refine wpAny_bind ?_
 simp only [List.zipIdx_cons,List.zipIdx_nil,List.forIn_cons,List.forIn_nil]
 refine wpAny_bind (wpAny_bind (wpAny_onRaise (wpAny_bind (m:=Builtin.SmallTypes.nextOf (.ref i1)) ?_)))
 refine R1.item (R1.keep p1 fun o e=>s1.extBut _ _ (Ne.symm n3) e) (R1.hkeep l1 fun o e=>s1.extBut _ _ q1 e) hx fun g2 p12 s2=>wpAny_pure ?_
 have t2:IsPair g2 to a b:=s2.extBut _ _ n8 (s1.extBut _ _ (Ne.symm n2) ho)
 refine wpAny_bind (wpAny_seqItems t2 rfl (wpAny_bind (wpAny_updateSeq_pair t2 fun g3 t3 s3=>?_)))
 replace t3:IsPair g3 to x b:=t3
 refine wpAny_bind (wpAny_letGo (wpAny_pure (wpAny_bind (wpAny_bind (wpAny_onRaise (wpAny_bind (m:=Builtin.SmallTypes.nextOf (.ref i2)) ?_))))))
 refine R2.item (R2.keep p2 fun o e=>s3.extBut _ _ (Ne.symm n9) (s2.extBut _ _ (Ne.symm n10) (s1.extBut _ _ (Ne.symm n4) e))) (R2.hkeep l2 fun o e=>s3.extBut _ _ r2 (s2.extBut _ _ r3 (s1.extBut _ _ r1 e))) hy fun g4 p24 s4=>wpAny_pure ?_
 have t4:IsPair g4 to x b:=s4.extBut _ _ n9 t3
 refine wpAny_bind (wpAny_seqItems t4 rfl (wpAny_bind (wpAny_updateSeq_pair t4 fun g5 t5 s5=>?_)))
 replace t5:IsPair g5 to x y:=t5
 refine wpAny_bind (wpAny_letGo (wpAny_pure (wpAny_pure (wpAny_bind (wpAny_seqItems t5 rfl (wpAny_bind (wpAny_newTuple ?_)))))))
 have sz:g5.objs.size=s.heap.objs.size:=by rw [s5.1,s4.1,s3.1,s2.1,s1.1]
 have z5:IsZip g5 z ti to Value.ellipsis:=s5.extBut _ _ n2 (s4.extBut _ _ n4 (s3.extBut _ _ n2 (s2.extBut _ _ n3 z1)))
 have kk:∀ c o,c∉[z,to,i1,i2]->s.heap.get? c=some o->g5.get? c=some o:=fun c o hc e=>by
  simp only [mem_cons,not_mem_nil,not_or,or_false] at hc
  exact s5.extBut _ _ hc.2.1 (s4.extBut _ _ hc.2.2.2 (s3.extBut _ _ hc.2.1 (s2.extBut _ _ hc.2.2.1 (s1.extBut _ _ hc.1 e))))
 have p15:S1 (k1+1) g5:=R1.keep p12 fun o e=>s5.extBut _ _ (Ne.symm n8) (s4.extBut _ _ n10 (s3.extBut _ _ (Ne.symm n8) e))
 have p25:S2 (k2+1) g5:=R2.keep p24 fun o e=>s5.extBut _ _ (Ne.symm n9) e
 have zlt:z<g5.objs.size:=Heap.lt_size z5
 refine wpAny_bind (m:=Builtin.SmallTypes.ownedTupleHandOut (.ref z) (.ref g5.objs.size)) ?_
 unfold Builtin.SmallTypes.ownedTupleHandOut
 have z6:IsZip (g5.push { cls:=.type "tuple",data:=.seq #[x,y] }) z ti to Value.ellipsis:=Heap.get?_push_of_some _ z5
 refine wpAny_bind (wpAny_setField_rec z6 (by simp) fun g7 z7 s7=>?_)
 replace z7:IsZip g7 z ti to (rawInt g5.objs.size):=z7
 refine wpAny_setField_rec z7 (by simp) fun g8 z8 s8=>?_
 replace z8:IsZip g8 z ti to (rawInt g5.objs.size):=z8
 have up:∀ c o,c≠z->g5.get? c=some o->g8.get? c=some o:=fun c o hc e=>s8.extBut _ _ hc (s7.extBut _ _ hc (Heap.get?_push_of_some _ e))
 have t8:IsPair g8 g5.objs.size x y:=s8.extBut _ _ (Nat.ne_of_gt zlt) (s7.extBut _ _ (Nat.ne_of_gt zlt) (Heap.get?_push_size _ rfl))
 rw [sz] at z8 t8
 refine wpAny_pure ⟨_,rfl,?_⟩
 show Q (Value.ref g5.objs.size) _
 rw [sz]
 exact hQ g8 z8 (up _ _ (Ne.symm n2) t5) (R1.keep p15 fun o e=>up _ o (Ne.symm n3) e) (R2.keep p25 fun o e=>up _ o (Ne.symm n4) e) t8 fun c o hc e=>up c o (fun q=>hc (by simp [q])) (kk c o hc e)
theorem qiN {Q:Fin->Shared->Prop} (hh:A.handled=none) (R1:Src P w i1 c1 S1 H1) (R2:Src P w i2 c2 S2 H2) (D:ZA z ti to i1 i2 c1 c2) (hz:IsZip s.heap z ti to .none) (hi:IsPair s.heap ti (.ref i1) (.ref i2)) (ho:IsPair s.heap to a b)
  (p1:S1 k1 s.heap) (p2:S2 k2 s.heap) (l1:H1 xs s.heap) (l2:H2 ys s.heap) (hend:xs[k1]?=none\/ys[k2]?=none)
  (hE:∀ h' e,(∀ c o,c∉[z,to,i1,i2]->s.heap.get? c=some o->h'.get? c=some o)->(∃ o,h'.get? e=some o/\o.cls=.type "StopIteration")->E (.ref e) { s with heap:=h' }) :
  wpAny (model P w) A (Builtin.«zip.__next__» ⟨[.ref z],[]⟩) Q E s:=by
 have ne:=D.ne
 simp only [List.nodup_cons,mem_cons,not_mem_nil,not_or,or_false] at ne
 obtain ⟨⟨n1,n2,n3,n4⟩,⟨n5,n6,n7⟩,⟨n8,n9⟩,n10,_⟩:=ne
 have a1:=D.a1
 have a2:=D.a2
 simp only [mem_cons,not_mem_nil,not_or,or_false] at a1 a2
 obtain ⟨q1,q2,q3,q4⟩:=a1
 obtain ⟨r1,r2,r3,r4⟩:=a2
 refine wpAny_bind (m:=field (.ref z) 2) (wpAny_field hz rfl (x:=.bool false) rfl ?_)
 refine wpAny_bind (m:=field (.ref z) 3) (wpAny_field hz rfl (x:=.ref ti) rfl ?_)
 refine wpAny_bind (wpAny_seqItems hi rfl ?_)
 refine wpAny_bind (m:=Builtin.SmallTypes.ownedTupleIsFree (.ref z)) ?_
 unfold Builtin.SmallTypes.ownedTupleIsFree
 refine wpAny_bind (wpAny_field hz rfl (x:=Value.none) rfl (wpAny_pure ?_))
 simp only [if_true]
 refine wpAny_bind (wpAny_rule (wpAny_bind (wpAny_field hz rfl (x:=.ref to) rfl (wpAny_bind (wpAny_setField_rec hz (by simp) fun g1 z1 s1=>?_)))))
 replace z1:IsZip g1 z ti to Value.ellipsis:=z1
 refine wpAny_bind ?_
 simp only [List.zipIdx_cons,List.zipIdx_nil,List.forIn_cons,List.forIn_nil]
 refine wpAny_bind (wpAny_bind (wpAny_onRaise (wpAny_bind (m:=Builtin.SmallTypes.nextOf (.ref i1)) ?_)))
 cases hx:xs[k1]? with
 |none=>
  refine R1.done hh (R1.keep p1 fun o e=>s1.extBut _ _ (Ne.symm n3) e) (R1.hkeep l1 fun o e=>s1.extBut _ _ q1 e) hx fun g2 e s2 ⟨oe,he,ce⟩=>?_
  have z2:IsZip g2 z ti to Value.ellipsis:=s2 _ _ n3 z1
  have ez:e≠z:=fun q=>by subst q;rw [z2] at he;cases he;simp at ce
  refine wpAny_setField_rec z2 (by simp) fun g3 _ s3=>hE g3 e (fun c o hc q=>?_) ⟨oe,s3.extBut _ _ ez he,ce⟩
  simp only [mem_cons,not_mem_nil,not_or,or_false] at hc
  exact s3.extBut _ _ hc.1 (s2 _ _ hc.2.2.1 (s1.extBut _ _ hc.1 q))
 |some x=>
  have hy:ys[k2]?=none:=by rcases hend with q|q;rw [hx] at q;cases q;exact q
  refine R1.item (R1.keep p1 fun o e=>s1.extBut _ _ (Ne.symm n3) e) (R1.hkeep l1 fun o e=>s1.extBut _ _ q1 e) hx fun g2 p12 s2=>wpAny_pure ?_
  have t2:IsPair g2 to a b:=s2.extBut _ _ n8 (s1.extBut _ _ (Ne.symm n2) ho)
  refine wpAny_bind (wpAny_seqItems t2 rfl (wpAny_bind (wpAny_updateSeq_pair t2 fun g3 t3 s3=>?_)))
  refine wpAny_bind (wpAny_letGo (wpAny_pure (wpAny_bind (wpAny_bind (wpAny_onRaise (wpAny_bind (m:=Builtin.SmallTypes.nextOf (.ref i2)) ?_))))))
  refine R2.done hh (R2.keep p2 fun o e=>s3.extBut _ _ (Ne.symm n9) (s2.extBut _ _ (Ne.symm n10) (s1.extBut _ _ (Ne.symm n4) e))) (R2.hkeep l2 fun o e=>s3.extBut _ _ r2 (s2.extBut _ _ r3 (s1.extBut _ _ r1 e))) hy fun g4 e s4 ⟨oe,he,ce⟩=>?_
  have z4:IsZip g4 z ti to Value.ellipsis:=s4 _ _ n4 (s3.extBut _ _ n2 (s2.extBut _ _ n3 z1))
  have ez:e≠z:=fun q=>by subst q;rw [z4] at he;cases he;simp at ce
  refine wpAny_setField_rec z4 (by simp) fun g5 _ s5=>hE g5 e (fun c o hc q=>?_) ⟨oe,s5.extBut _ _ ez he,ce⟩
  simp only [mem_cons,not_mem_nil,not_or,or_false] at hc
  exact s5.extBut _ _ hc.1 (s4 _ _ hc.2.2.2 (s3.extBut _ _ hc.2.1 (s2.extBut _ _ hc.2.2.1 (s1.extBut _ _ hc.1 q))))
end
abbrev qo4 (b:Bool):String:=if b then "list_iterator" else "tuple_iterator"
abbrev zW (b:Bool) (c:Addr):Obj:={ cls:=.type (qo4 b),data:=.fields #[.ref c,.int 0 0] }
def qel (b:Bool) (it c:Addr) (k:Nat) (h:Heap):Prop:=match b with|true=>h.IsListIter it c k|false=>h.IsTupleIter it c k
def MD (b:Bool) (c:Addr) (xs:Array Value) (h:Heap):Prop:=match b with|true=>h.IsList c xs|false=>h.IsTuple c xs
theorem jc {P:Program} {w:World} (b:Bool) (it c:Addr):Src P w it c (qel b it c) (MD b c):=by
 cases b
 ·exact qhS it c
 ·exact qek it c
theorem NV {P:Program} {w:World} {A:Around} {s:Shared} {b:Bool} {c:Addr} {xs:Array Value} {Q:Value->Shared->Prop} {E:Value->Shared->Prop} (h:MD b c xs s.heap) (q:Q (.ref s.heap.objs.size) { s with heap:=s.heap.push (zW b c) }) :
  wpAny (model P w) A (pyIter (.ref c)) Q E s:=by
 cases b
 ·exact wpAny_pyIter_tuple (show s.heap.IsTuple c xs from h) q
 ·exact wpAny_pyIter_list (show s.heap.IsList c xs from h) q
theorem qcx {b:Bool} {c:Addr} {xs:Array Value} {h:Heap} {o:Obj} (q:MD b c xs h):MD b c xs (h.push o):=by
 cases b
 ·exact (show h.IsTuple c xs from q).at fun _ e=>Heap.get?_push_of_some _ e
 ·exact (show h.IsList c xs from q).at fun _ e=>Heap.get?_push_of_some _ e
abbrev zh1 (h:Heap) (o1:Obj):Heap:=h.push o1
abbrev zh2 (h:Heap) (o1 o2:Obj):Heap:=(zh1 h o1).push o2
abbrev zh3 (h:Heap) (o1 o2:Obj):Heap:=(zh2 h o1 o2).push { cls:=.type "tuple",data:=.seq #[.ref h.objs.size,.ref (zh1 h o1).objs.size] }
abbrev zh4 (h:Heap) (o1 o2:Obj):Heap:=(zh3 h o1 o2).push { cls:=.type "tuple",data:=.seq #[.none,.none] }
abbrev zh5 (h:Heap) (o1 o2:Obj):Heap:=(zh4 h o1 o2).push { cls:=.type "zip",data:=.fields #[.none,.bool false,.bool false,.ref (zh2 h o1 o2).objs.size,.ref (zh3 h o1 o2).objs.size] }
theorem qcG (c1 c2:Addr) (o1 o2:Obj) :
  Meets (Builtin.«zip.__new__» ⟨[.type "zip",.ref c1,.ref c2],[]⟩) (fun _ R s=>
   (∀ (P:Program) (w:World) (A:Around) (Q:Value->Shared->Prop) (E:Value->Shared->Prop),Q (.ref s.heap.objs.size) { s with heap:=zh1 s.heap o1 }->wpAny (model P w) A (pyIter (.ref c1)) Q E s) /\
   (∀ (P:Program) (w:World) (A:Around) (Q:Value->Shared->Prop) (E:Value->Shared->Prop),Q (.ref (zh1 s.heap o1).objs.size) { s with heap:=zh2 s.heap o1 o2 }->wpAny (model P w) A (pyIter (.ref c2)) Q E { s with heap:=zh1 s.heap o1 }) /\
   R (.ok (.ret (.ref (zh4 s.heap o1 o2).objs.size))) { s with heap:=zh5 s.heap o1 o2 }):=
 .of_wp fun prog w A R s h=>by
  obtain ⟨hp,g,d,tk,os⟩:=s
  obtain ⟨h1,h2,h⟩:=h
  have hsub:=sub_zip
  have k1:=fun A Q E=>h1 prog w A Q E
  have k2:=fun A Q E=>h2 prog w A Q E
  wp_walk using k1 _ _ _,k2 _ _ _
  exact ⟨_,rfl,h⟩
def qeA (b1 b2:Bool) (z ti to i1 i2 c1 c2:Addr) (k:Nat) (h:Heap):Prop:=
 IsZip h z ti to .none/\IsPair h ti (.ref i1) (.ref i2)/\(∃ a b,IsPair h to a b)/\qel b1 i1 c1 k h/\qel b2 i2 c2 k h
section
variable {P:Program} {w:World} {A:Around} {s:Shared} {E:Value->Shared->Prop}
theorem qd2 {b1 b2:Bool} {c1 c2:Addr} {xs ys:Array Value} {Q:Value->Shared->Prop} (h1:MD b1 c1 xs s.heap) (h2:MD b2 c2 ys s.heap)
  (q:∀ h',qeA b1 b2 (s.heap.objs.size+4) (s.heap.objs.size+2) (s.heap.objs.size+3) s.heap.objs.size (s.heap.objs.size+1) c1 c2 0 h'->(∀ c o,s.heap.get? c=some o->h'.get? c=some o)->Q (.ref (s.heap.objs.size+4)) { s with heap:=h' }) :
  wpAny (model P w) A (call (.type "zip") [.ref c1,.ref c2]) Q E s:=by
 refine callType_new F.called_zip (by decide) (F.typeCall_zip_2 _ _) (F.newCall_zip_2 _ _) (fun obj=>F.args_object_init_3 obj _ _) F.entry_zip_new
  (qcG c1 c2 (zW b1 c1) (zW b2 c2)) ⟨fun P w A Q E q=>NV h1 q,fun P w A Q E q=>NV (s:={ s with heap:=zh1 s.heap (zW b1 c1) }) (qcx h2) q,?_⟩
 have e1:(zh1 s.heap (zW b1 c1)).objs.size=s.heap.objs.size+1:=Heap.size_push ..
 have e2:(zh2 s.heap (zW b1 c1) (zW b2 c2)).objs.size=s.heap.objs.size+2:=by rw [Heap.size_push,e1]
 have e3:(zh3 s.heap (zW b1 c1) (zW b2 c2)).objs.size=s.heap.objs.size+3:=by rw [Heap.size_push,e2]
 have e4:(zh4 s.heap (zW b1 c1) (zW b2 c2)).objs.size=s.heap.objs.size+4:=by rw [Heap.size_push,e3]
 have g5:(zh5 s.heap (zW b1 c1) (zW b2 c2)).get? (zh4 s.heap (zW b1 c1) (zW b2 c2)).objs.size=some _:=Heap.get?_push_size _ rfl
 have g4:(zh5 s.heap (zW b1 c1) (zW b2 c2)).get? (zh3 s.heap (zW b1 c1) (zW b2 c2)).objs.size=some _:=Heap.get?_push_of_some _ (Heap.get?_push_size _ rfl)
 have g3:(zh5 s.heap (zW b1 c1) (zW b2 c2)).get? (zh2 s.heap (zW b1 c1) (zW b2 c2)).objs.size=some _:=Heap.get?_push_of_some _ (Heap.get?_push_of_some _ (Heap.get?_push_size _ rfl))
 have g2:(zh5 s.heap (zW b1 c1) (zW b2 c2)).get? (zh1 s.heap (zW b1 c1)).objs.size=some (zW b2 c2):=Heap.get?_push_of_some _ (Heap.get?_push_of_some _ (Heap.get?_push_of_some _ (Heap.get?_push_size _ rfl)))
 have g1:(zh5 s.heap (zW b1 c1) (zW b2 c2)).get? s.heap.objs.size=some (zW b1 c1):=Heap.get?_push_of_some _ (Heap.get?_push_of_some _ (Heap.get?_push_of_some _ (Heap.get?_push_of_some _ (Heap.get?_push_size _ rfl))))
 show _/\_
 rw [e2,e3,e4] at g5
 rw [e1,e2] at g3
 rw [e3] at g4
 rw [e1] at g2
 rw [e4]
 refine ⟨⟨_,g5,rfl⟩,q _ ⟨g5,g3,⟨_,_,g4⟩,?_,?_⟩ fun c o e=>Heap.get?_push_of_some _ (Heap.get?_push_of_some _ (Heap.get?_push_of_some _ (Heap.get?_push_of_some _ (Heap.get?_push_of_some _ e))))⟩
 ·cases b1<;>exact ⟨_,g1,rfl,rfl⟩
 ·cases b2<;>exact ⟨_,g2,rfl,rfl⟩
theorem qdM {b1 b2:Bool} {z ti to i1 i2 c1 c2:Addr} {k:Nat} {xs ys:Array Value} {x y:Value} {Q:Option Value->Shared->Prop} (D:ZA z ti to i1 i2 c1 c2) (st:qeA b1 b2 z ti to i1 i2 c1 c2 k s.heap) (l1:MD b1 c1 xs s.heap) (l2:MD b2 c2 ys s.heap) (hx:xs[k]?=some x) (hy:ys[k]?=some y)
  (hQ:∀ h',IsZip h' z ti to (rawInt s.heap.objs.size)->IsPair h' ti (.ref i1) (.ref i2)->(∃ a b,IsPair h' to a b)->qel b1 i1 c1 (k+1) h'->qel b2 i2 c2 (k+1) h'->IsPair h' s.heap.objs.size x y->(∀ c o,c∉[z,to,i1,i2]->s.heap.get? c=some o->h'.get? c=some o)->Q (some (.ref s.heap.objs.size)) { s with heap:=h' }) :
  wpAny (model P w) A (pyNext (.ref z)) Q E s:=by
 obtain ⟨hz,hi,⟨a,b,ho⟩,p1,p2⟩:=st
 have ty:s.TypeIs (.ref z) "zip" := ⟨_,hz,rfl⟩
 have nti:ti∉[z,to,i1,i2]:=by
  have ne:=D.ne
  simp only [List.nodup_cons,mem_cons,not_mem_nil,not_or,or_false] at ne ⊢
  exact ⟨Ne.symm ne.1.1,ne.2.1.1,ne.2.1.2.1,ne.2.1.2.2⟩
 unfold pyNext
 exact wpAny_bind (wpAny_attempt (wpAny_callSpecial?_slot (name:=Str.ofString "__next__") ty F.slot_zip_next (wpAny_call_entry F.slot_zip_next ty F.entry_zip_next
  (qdR (jc b1 i1 c1) (jc b2 i2 c2) D hz hi ho p1 p2 l1 l2 hx hy fun h' u1 u2 u3 u4 u5 u6=>wpAny_pure (hQ h' u1 (u6 _ _ nti hi) ⟨_,_,u2⟩ u3 u4 u5 u6)) (F.args_zip_next_1 _))))
theorem LK {b1 b2:Bool} {z ti to i1 i2 c1 c2:Addr} {k:Nat} {xs ys:Array Value} {Q:Option Value->Shared->Prop} (hh:A.handled=none) (D:ZA z ti to i1 i2 c1 c2) (st:qeA b1 b2 z ti to i1 i2 c1 c2 k s.heap) (l1:MD b1 c1 xs s.heap) (l2:MD b2 c2 ys s.heap) (hend:xs[k]?=none\/ys[k]?=none)
  (hQ:∀ h',(∀ c o,c∉[z,to,i1,i2]->s.heap.get? c=some o->h'.get? c=some o)->Q none { s with heap:=h' }):wpAny (model P w) A (pyNext (.ref z)) Q E s:=by
 obtain ⟨hz,hi,⟨a,b,ho⟩,p1,p2⟩:=st
 have ty:s.TypeIs (.ref z) "zip" := ⟨_,hz,rfl⟩
 unfold pyNext
 refine wpAny_bind (wpAny_attempt (wpAny_callSpecial?_slot (name:=Str.ofString "__next__") ty F.slot_zip_next (wpAny_call_entry F.slot_zip_next ty F.entry_zip_next
  (qiN hh (jc b1 i1 c1) (jc b2 i2 c2) D hz hi ho p1 p2 l1 l2 hend fun h' e hk ⟨o,q1,q2⟩=>?_) (F.args_zip_next_1 _))))
 exact wpAny_bind (wpAny_isInstance (T:="StopIteration") (b:=true) ⟨o,q1,q2⟩ isSubtype_stop (wpAny_pure (hQ _ hk)))
end
def SqB (K:PySem.W.Frag) (b:Bool) (H:Hp) (a:Addr) (xs:List V):Prop:=match b with|true=>SqL K H a xs|false=>SqT K H a xs
theorem SqB.get {X:Cx} {pins:List (Addr×Obj)} {σ:L2.St} {H:Hp} {s:Shared} {b:Bool} {a:Addr} {xs:List V} (I:Inv X pins σ H s) (h:SqB X.K b H a xs):∃ its:List Value,jk xs its/\MD b a its.toArray s.heap/\xs.length<=sizeLine:=by
 cases b
 ·obtain ⟨its,r,p,hz⟩:=I.tuple (show SqT X.K H a xs from h)
  exact ⟨its,r,(show s.heap.IsTuple a its.toArray from p),hz⟩
 ·obtain ⟨its,r,p,hz⟩:=I.list (show SqL X.K H a xs from h)
  exact ⟨its,r,p.isList,hz⟩
theorem SqB.inj {X:Cx} {pins:List (Addr×Obj)} {σ:L2.St} {H:Hp} {s:Shared} {b:Bool} {a:Addr} {xs ys:List V} (I:Inv X pins σ H s) (h:SqB X.K b H a xs) (h':SqB X.K b H a ys):xs=ys:=by
 cases b
 ·exact I.tuple_inj h h'
 ·exact I.list_inj h h'
def Itz (K:PySem.W.Frag) (b1 b2:Bool) (c1 c2:Addr):It:=
  ⟨fun i H=>∃ xs ys x y,SqB K b1 H c1 xs/\SqB K b2 H c2 ys/\xs[i]?=some x/\ys[i]?=some y,
   fun i H v H'=>∃ p x y,H p=none/\v=.ref p/\H'=upd H p (.tup [x,y])/\(∀ xs,SqB K b1 H c1 xs->xs[i]?=some x)/\(∀ ys,SqB K b2 H c2 ys->ys[i]?=some y),
   fun i H=>∃ xs ys,SqB K b1 H c1 xs/\SqB K b2 H c2 ys/\(xs.length<=i\/ys.length<=i)⟩
theorem qh8 {b:Bool} {c:Addr} {xs:Array Value} {h:Heap} (q:MD b c xs h):c<h.objs.size:=by
 cases b
 ·obtain ⟨o,e,_⟩:=(show h.IsTuple c xs from q);exact Heap.lt_size e
 ·obtain ⟨o,e,_⟩:=(show h.IsList c xs from q);exact Heap.lt_size e
theorem qef {P:Program} {w:World} {K:PySem.W.Frag} {es:List Expr} {k1:Nat} {pt:Pos} {b1 b2:Bool} {z ti to i1 i2 c1 c2:Addr} (D:ZA z ti to i1 i2 c1 c2):Turn P w K (.Tuple es k1 pt) (Itz K b1 b2 c1 c2) [z,ti,to,i1,i2] z (qeA b1 b2 z ti to i1 i2 c1 c2) where
 mem:=by simp
 obj:=fun i h ⟨hz,hi,⟨a,b,ho⟩,p1,p2⟩ c hc=>by
  simp only [mem_cons,not_mem_nil,or_false] at hc
  rcases hc with rfl|rfl|rfl|rfl|rfl
  ·exact ⟨_,hz,fun v q=>by cases q⟩
  ·exact ⟨_,hi,fun v q=>by cases q⟩
  ·exact ⟨_,ho,fun v q=>by cases q⟩
  ·exact (jc (P:=P) (w:=w) b1 c c1).obj p1
  ·exact (jc (P:=P) (w:=w) b2 c c2).obj p2
 keep:=fun i h h' ⟨hz,hi,⟨a,b,ho⟩,p1,p2⟩ k=>
  ⟨k z (by simp) _ hz,k ti (by simp) _ hi,⟨a,b,k to (by simp) _ ho⟩,(jc (P:=P) (w:=w) b1 i1 c1).keep p1 fun o e=>k i1 (by simp) o e,(jc (P:=P) (w:=w) b2 i2 c2).keep p2 fun o e=>k i2 (by simp) o e⟩
 item:=by
  intro X hP hw hK hc i pins s σ H E I hf st hg
  subst hP hw hK
  obtain ⟨xs,ys,x,y,sq1,sq2,hx,hy⟩:=hg
  obtain ⟨its1,rv1,l1,z1⟩:=sq1.get I
  obtain ⟨its2,rv2,l2,z2⟩:=sq2.get I
  obtain ⟨u1,hu1,ru1⟩:=rv1.get hx
  obtain ⟨u2,hu2,ru2⟩:=rv2.get hy
  refine qdM D st l1 l2 (x:=u1) (y:=u2) (by simpa using hu1) (by simpa using hu2) fun h' hz hi ho p1 p2 hp hk=>?_
  have hfr:H s.heap.objs.size=none:=I.fresh
  have free:∀ b∈[z,ti,to,i1,i2],H b=none:=fun b hb=>(hf b hb).1
  refine ⟨_,rfl,wpAny_letOwnedTupleGo_zip hz fun h2 hz2 s2=>?_⟩
  have zlt:z<s.heap.objs.size:=Heap.lt_size st.1
  have hp2:IsPair h2 s.heap.objs.size u1 u2:=(s2.2 _ (Nat.ne_of_gt zlt)).trans hp
  have ne:=D.ne
  simp only [List.nodup_cons,mem_cons,not_mem_nil,not_or,or_false] at ne
  have up:∀ c o,c≠z->h'.get? c=some o->h2.get? c=some o:=fun c o hc e=>(s2.2 c hc).trans e
  have kk:∀ c o,c∉[z,to,i1,i2]->s.heap.get? c=some o->h2.get? c=some o:=fun c o hc e=>up c o (fun q=>hc (by simp [q])) (hk c o hc e)
  have I3:Inv X pins σ (upd H s.heap.objs.size (.tup [x,y])) { s with heap:=h2 }:=by
   refine I.step (g':=s.gens) (d':=s.drawn) (t':=s.toks) (ch:=[z,to,i1,i2]) (fun b hb=>?_) (fun b o _ _ hcb e _=>kk b o hcb e) (fun b o _ _ hcb e _=>⟨o.slots,kk b o hcb e⟩) (fun b o _ e n=>by rw [qN (Nat.ne_of_lt (Heap.lt_size e))];exact n) (fun b o hcb e=>⟨o,kk b o hcb e⟩)
    (fun b _ e=>by rw [qN (qD e hfr)];exact e) (fun b _ _ e=>by rw [qN (qD e hfr)];exact e) (fun b ps e=>⟨#[],by rw [qN (qD e hfr),e];simp⟩) (fun m hm=>?_) (fun b u e=>?_) I.bare
   ·obtain ⟨f0,f1,f2,f3,f4,f5⟩:=hf b (by simp only [mem_cons,not_mem_nil,or_false] at hb ⊢;rcases hb with q|q|q|q<;>simp [q])
    exact ⟨f3,f1,f4,f5⟩
   ·obtain ⟨o,es',ep,ho',r⟩:=hm
    refine ⟨o,es',ep,kk _ o (fun q=>?_) ho',r⟩
    obtain ⟨f0,f1,_⟩:=hf X.env.locals (by simp only [mem_cons,not_mem_nil,or_false] at q ⊢;rcases q with q|q|q|q<;>simp [q])
    exact f1 rfl
   ·by_cases hb:b=s.heap.objs.size
    ·subst hb
     rw [zj] at e
     cases e
     exact ⟨by show 2<=sizeLine;decide,[u1,u2],.cons ru1 (.cons ru2 .nil),⟨_,hp2,rfl,_,rfl⟩⟩
    ·rw [qN hb] at e
     refine (I.hok b u e).stay (fun c v hcb q=>kk c v (fun m=>?_) q) (fun _ q=>by rw [qN (qD q hfr)];exact q) fun _ _ q=>by rw [qN (qD q hfr)];exact q
     have hn:=free c (by simp only [mem_cons,not_mem_nil,or_false] at m ⊢;rcases m with q|q|q|q<;>simp [q])
     rcases hcb with q|q
     ·rw [q] at hn;rw [hn] at e;cases e
     ·rw [hn] at q;cases q
  refine ⟨.ref s.heap.objs.size,_,I3,rfl,⟨_,x,y,hfr,rfl,rfl,fun zs q=>by rw [q.inj I sq1];exact hx,fun zs q=>by rw [q.inj I sq2];exact hy⟩,⟨hz2,up _ _ (Ne.symm ne.1.1) hi,let ⟨a,b,q⟩:=ho;⟨a,b,up _ _ (Ne.symm ne.1.2.1) q⟩,(jc (P:=X.prog) (w:=X.w) b1 i1 c1).keep p1 fun o e=>up _ o (Ne.symm ne.1.2.2.1) e,(jc (P:=X.prog) (w:=X.w) b2 i2 c2).keep p2 fun o e=>up _ o (Ne.symm ne.1.2.2.2) e⟩,fun b hb=>?_⟩
  rw [qN (fun q=>?_)]
  ·exact free b hb
  ·subst q
   obtain ⟨hz0,hi0,⟨a0,b0,ho0⟩,q1,q2⟩:=st
   simp only [mem_cons,not_mem_nil,or_false] at hb
   rcases hb with q|q|q|q|q
   ·exact absurd q (Nat.ne_of_gt zlt)
   ·exact absurd q (Nat.ne_of_gt (Heap.lt_size hi0))
   ·exact absurd q (Nat.ne_of_gt (Heap.lt_size ho0))
   ·obtain ⟨o,e,_⟩:=(jc (P:=X.prog) (w:=X.w) b1 i1 c1).obj q1
    exact absurd q (Nat.ne_of_gt (Heap.lt_size e))
   ·obtain ⟨o,e,_⟩:=(jc (P:=X.prog) (w:=X.w) b2 i2 c2).obj q2
    exact absurd q (Nat.ne_of_gt (Heap.lt_size e))
 done:=by
  intro X hP hw hK hc i pins s σ H E I hf st hg
  subst hP hw hK
  obtain ⟨xs,ys,sq1,sq2,hend⟩:=hg
  obtain ⟨its1,rv1,l1,z1⟩:=sq1.get I
  obtain ⟨its2,rv2,l2,z2⟩:=sq2.get I
  have e1:=rv1.length
  have e2:=rv2.length
  refine LK (I.ok.hd hc) D st l1 l2 (by rcases hend with q|q;exact .inl (by simp;omega);exact .inr (by simp;omega)) fun h' hk=>⟨rfl,?_⟩
  have free:∀ b∈[z,ti,to,i1,i2],H b=none:=fun b hb=>(hf b hb).1
  refine I.step (g':=s.gens) (d':=s.drawn) (t':=s.toks) (ch:=[z,to,i1,i2]) (fun b hb=>?_) (fun b o _ _ hcb e _=>hk b o hcb e) (fun b o _ _ hcb e _=>⟨o.slots,hk b o hcb e⟩) (fun _ _ _ _ n=>n) (fun b o hcb e=>⟨o,hk b o hcb e⟩) (fun _ _ e=>e) (fun _ _ _ e=>e) (fun b ps e=>⟨#[],by rw [e];simp⟩) (fun m hm=>?_) (fun b u e=>?_) I.bare
  ·obtain ⟨f0,f1,f2,f3,f4,f5⟩:=hf b (by simp only [mem_cons,not_mem_nil,or_false] at hb ⊢;rcases hb with q|q|q|q<;>simp [q])
   exact ⟨f3,f1,f4,f5⟩
  ·obtain ⟨o,es',ep,ho',r⟩:=hm
   refine ⟨o,es',ep,hk _ o (fun q=>?_) ho',r⟩
   obtain ⟨f0,f1,_⟩:=hf X.env.locals (by simp only [mem_cons,not_mem_nil,or_false] at q ⊢;rcases q with q|q|q|q<;>simp [q])
   exact f1 rfl
  ·refine (I.hok b u e).stay (fun c v hcb q=>hk c v (fun m=>?_) q) (fun _ q=>q) fun _ _ q=>q
   have hn:=free c (by simp only [mem_cons,not_mem_nil,or_false] at m ⊢;rcases m with q|q|q|q<;>simp [q])
   rcases hcb with q|q
   ·rw [q] at hn;rw [hn] at e;cases e
   ·rw [hn] at q;cases q
 self:=fun A i s Q E st h=>wpAny_pyIter_zip st.1 h
theorem ql7 {n c1 c2:Addr} (h1:c1<n) (h2:c2<n):ZA (n+4) (n+2) (n+3) n (n+1) c1 c2:=by
 have k:∀ n c:Nat,c<n->c≠n+4/\c≠n+3/\c≠n/\c≠n+1:=fun n c h=>by omega
 have d:∀ n:Nat,(([n+4,n+2,n+3,n,n+1]:List Nat)).Nodup:=fun n=>by
  simp only [List.nodup_cons,mem_cons,not_mem_nil,not_or,or_false,List.nodup_nil,and_true,not_false_eq_true]
  omega
 refine ⟨d n,?_,?_⟩
 ·simp only [mem_cons,not_mem_nil,not_or,or_false];exact k n c1 h1
 ·simp only [mem_cons,not_mem_nil,not_or,or_false];exact k n c2 h2
section
variable {X:Cx} {a b e l:Expr} {es:List Expr} {pos:Pos}
theorem qlP {p pt:Pos} {k1:Nat} {ta:TA} (hg:Gl X "zip") (hm:X.mg "zip" = none) (ha:PA X [a,b] ta) (hs:starEach [a,b] X.env=[(false,eval a X.env),(false,eval b X.env)]:=by rfl) (hs2:starEach [b] X.env=[(false,eval b X.env)]:=by rfl) :
  PI X (.Tuple es k1 pt) (.Call (.Name "zip" p) [a,b] [] pos) (fun σ H R=>ta σ H fun vs H1=>∃ b1 b2 c1 c2 xs ys,vs=[.ref c1,.ref c2]/\SqB X.K b1 H1 c1 xs/\SqB X.K b2 H1 c2 ys/\R (Itz X.K b1 b2 c1 c2) H1):=by
 intro pins s σ H R I h
 refine Call_ (CF I hg hm PyProof.Rows.boot_zip (PyProof.Rows.callWith_type1 (thn (ha pos pins s σ H _ I h) fun us s1 ⟨vs,H1,I1,r1,q1⟩=>?_) (by rw [hs,hs2]) (by rw [hs2];rfl)))
 obtain ⟨b1,b2,c1,c2,xs,ys,rfl,sq1,sq2,q⟩:=q1
 obtain ⟨u1,u2,rfl,e1,e2⟩:=qcb r1
 cases (show u1=Value.ref c1 from e1)
 cases (show u2=Value.ref c2 from e2)
 obtain ⟨its1,rv1,l1,z1⟩:=sq1.get I1
 obtain ⟨its2,rv2,l2,z2⟩:=sq2.get I1
 refine qd2 l1 l2 fun h' st hk=>wpAny_pyIter_zip st.1 ?_
 refine ⟨s1.heap.objs.size+4,[s1.heap.objs.size+4,s1.heap.objs.size+2,s1.heap.objs.size+3,s1.heap.objs.size,s1.heap.objs.size+1],_,_,H1,rfl,I1.kept (t':=s1.toks) hk,qef (ql7 (qh8 l1) (qh8 l2)),st,fun c hc=>?_,q⟩
 have hle:s1.heap.objs.size<=c:=by
  simp only [mem_cons,not_mem_nil,or_false] at hc
  rcases hc with rfl|rfl|rfl|rfl|rfl<;>first|exact Nat.le_refl _|exact Nat.le_add_right _ _
 exact I1.fpOk hle (I1.hok.fresh hle)
end
def jD (G:Gp):T->Option (List T)
 |.tup xs=>some xs
 |.ref p=>getL G p
 |_=>none
theorem qbJ {K:PySem.W.Frag} {G0:Gp} {H0:Hp} {x:T} {v:V} {us:List T} (hr0:HR K G0 H0) (rx:Rp K H0 x v) (h:jD G0 x=some us) :
  ∃ b c,v=.ref c/\∀ G H,HR K G H->Kp G0 H0 G H->jD G x=some us->∃ vs,SqB K b H c vs/\Rps K H us vs:=by
 cases rx with
 |tup hs rs=>
  cases h
  exact ⟨false,_,rfl,fun G H hr k _=>⟨_,(S9 hr0 k hs:SqT K H _ _),rs.keep hr0 k⟩⟩
 |ref a=>exact ⟨true,a,rfl,fun G H hr k hq=>let ⟨vs,h1,h2⟩:=zT hr (show getL G a=some us from hq);⟨vs,h1,h2⟩⟩
 |_=>cases h
def qcK (us vs:List T):List T:=(us.zip vs).map fun p=>.tup [p.1,p.2]
theorem T5 {us vs:List T} {i:Nat} {x:T} (h:(qcK us vs)[i]?=some x):∃ a b,us[i]?=some a/\vs[i]?=some b/\x=.tup [a,b]:=by
 unfold qcK at h
 rw [getElem?_map] at h
 cases e:(us.zip vs)[i]? with
 |none=>rw [e] at h;cases h
 |some p=>
  rw [e] at h
  have:=List.getElem?_zip_eq_some.mp e
  exact ⟨p.1,p.2,this.1,this.2,by simpa using h.symm⟩
theorem qkK {K:PySem.W.Frag} {b1 b2:Bool} {c1 c2:Addr} {x y:T} {us vs:List T} {G0:Gp} {H0:Hp}
  (f1:∀ G H,HR K G H->Kp G0 H0 G H->jD G x=some us->∃ vs,SqB K b1 H c1 vs/\Rps K H us vs) (f2:∀ G H,HR K G H->Kp G0 H0 G H->jD G y=some vs->∃ ws,SqB K b2 H c2 ws/\Rps K H vs ws) :
  qiW K (Itz K b1 b2 c1 c2) (qcK us vs) (fun G=>jD G x=some us/\jD G y=some vs) G0 H0:=by
 intro G H hr k ⟨h1,h2⟩
 obtain ⟨p,sp,rp⟩:=f1 G H hr k h1
 obtain ⟨q,sq,rq⟩:=f2 G H hr k h2
 refine ⟨fun i z hz=>?_,fun i z v H' hz hy=>?_,⟨p,q,sp,sq,?_⟩⟩
 ·obtain ⟨a,b,ha,hb,_⟩:=T5 hz
  obtain ⟨v,hv,_⟩:=rp.get ha
  obtain ⟨w,hw,_⟩:=rq.get hb
  exact ⟨p,q,v,w,sp,sq,hv,hw⟩
 ·obtain ⟨a,b,ha,hb,rfl⟩:=T5 hz
  obtain ⟨t,v1,v2,ht,rfl,rfl,g1,g2⟩:=hy
  obtain ⟨v,hv,rv⟩:=rp.get ha
  obtain ⟨w,hw,rw'⟩:=rq.get hb
  have e1:=(g1 p sp).symm.trans hv
  have e2:=(g2 q sq).symm.trans hw
  obtain rfl:v1=v:=Option.some.inj e1
  obtain rfl:v2=w:=Option.some.inj e2
  have kk:Kp G H G (upd H t (.tup [v1,v2])):=Kp.laid ht
  exact ⟨.tup (SqT.of zj) (.cons (rv.keep hr kk) (.cons (rw'.keep hr kk) .nil)),hr.laid ht,kk⟩
 ·rw [← rp.length,← rq.length,show (qcK us vs).length=min us.length vs.length by simp [qcK]]
  omega
def qaV (ta:TA3):TI3:=fun τ G r=>ta τ G fun xs G1=>match xs with
 |[x,y]=>(match jD G1 x,jD G1 y with|some us,some vs=>r (qcK us vs) (fun G=>jD G x=some us/\jD G y=some vs) G1|_,_=>False)
 |_=>False
section
variable {X:Cx} {a b e l:Expr} {es:List Expr} {pos:Pos} {t:TA3}
theorem qo0 {p pt:Pos} {k1:Nat} (hg:Gl X "zip") (hm:X.mg "zip" = none) (ha:A3 X [a,b] t) (hs:starEach [a,b] X.env=[(false,eval a X.env),(false,eval b X.env)]:=by rfl) (hs2:starEach [b] X.env=[(false,eval b X.env)]:=by rfl) :
  I3 X (.Tuple es k1 pt) (.Call (.Name "zip" p) [a,b] [] pos) (qaV t):=
 ql3 (qlP hg hm ha hs hs2) fun σ H R ⟨τ,G,r,rl,h,af⟩=>VE rl h fun xs G1 h1 vs H1 rs hr1 k1 rl1=>by
  split at h1
  ·rename_i x y
   split at h1
   ·rename_i us ws e1 e2
    obtain ⟨v,u,rfl,r1,r2⟩:=qn0 rs
    obtain ⟨b1,c1,rfl,f1⟩:=qbJ hr1 r1 e1
    obtain ⟨b2,c2,rfl,f2⟩:=qbJ hr1 r2 e2
    obtain ⟨p,sp,_⟩:=f1 G1 H1 hr1 Kp.refl e1
    obtain ⟨q,sq,_⟩:=f2 G1 H1 hr1 Kp.refl e2
    exact ⟨b1,b2,c1,c2,p,q,rfl,sp,sq,af _ _ G1 h1 _ H1 hr1 k1 (qkK f1 f2)⟩
   ·exact h1.elim
  ·exact h1.elim
def YR:List T->Gp->Q3->Prop:=fun xs G q=>match xs with
 |[.ref p]=>(match getL G p with|some ys=>(match qeJ ys with|some k=>q (.bl k) G|none=>False)|none=>False)
 |_=>False
theorem qbQ {K:PySem.W.Frag} {H:Hp}:∀ {ys:List T} {vs:List V} {k:Bool},Rps K H ys vs->qeJ ys=some k->∃ ks:List Bool,vs=ks.map V.bl/\ks.all id=k
 |_,_,_,.nil,h=>by cases h;exact ⟨[],rfl,rfl⟩
 |y::ys,_,k,.cons a b,h=>by
  unfold qeJ at h
  split at h
  ·rename_i e;cases e
  ·rename_i j r e
   cases e
   split at h
   ·rename_i i ei
    obtain ⟨ks,rfl,hk⟩:=qbQ b ei
    cases a
    cases h
    exact ⟨j::ks,rfl,by rw [List.all_cons,hk];rfl⟩
   ·cases h
  ·cases h
theorem qcM {K:PySem.W.Frag}:M7 K YR (fun xs H Q=>∃ (p:Addr) (ks:List Bool),xs=[.ref p]/\SqL K H p (ks.map V.bl)/\Q (.bl (ks.all id)) H):=fun xs vs G H q Q hr rs h af=>by
 unfold YR at h
 split at h
 ·rename_i p
  obtain ⟨v,rfl,r⟩:=KJ rs
  cases r
  split at h
  ·rename_i ys e0
   split at h
   ·rename_i k e1
    obtain ⟨us,hs,r2⟩:=zT hr e0
    obtain ⟨ks,rfl,hk⟩:=qbQ r2 e1
    exact ⟨p,ks,rfl,hs,by rw [hk];exact af _ G h _ H (.bl _) hr Kp.refl⟩
   ·exact h.elim
  ·exact h.elim
 ·exact h.elim
end
def qpe:Value->Bool
 |.type t=>t == "list"
 |_=>false
def WE:List (Addr×Obj)->Bool
 |[]=>true
 |p::r=>if qpe p.2.cls then false else WE r
theorem SJ:∀ {K:List (Addr×Obj)} {a:Addr} {o:Obj},WE K=true->K.lookup a=some o->o.cls≠.type "list"
 |[],_,_,_,e=>by simp at e
 | (b,x)::r,a,o,h,e=>by
  unfold WE at h
  split at h
  ·cases h
  ·rename_i hx
   rw [List.lookup_cons] at e
   split at e
   ·cases e
    intro z
    rw [z] at hx
    exact hx rfl
   ·exact SJ h e
theorem qbo {K:PySem.W.Frag} {H:Hp} {a:Addr} {ns:List Int} (hK:WE K=true) (hO:qnS H) (hS:SqL K H a (ns.map V.int)):∃ o,H a=some (.frz o (.lst (ns.map V.int))):=by
 rcases hS with (h|h)|⟨o,its,n,h1,h2,_⟩
 ·rcases hO a with z|⟨o,xs,z⟩<;>(rw [h] at z;cases z)
 ·exact h
 ·exact absurd h2 (SJ hK h1)
def only (a:Addr) (ns:List Int):Gp:=fun b=>if b=a then some (.frz (ns.map T.int)) else none
theorem qiJ {K:PySem.W.Frag} {H:Hp} {a:Addr} {ns:List Int} (h:∃ o,H a=some (.frz o (.lst (ns.map V.int)))):HR K (only a ns) H:=fun b o e=>by
 unfold only at e
 split at e
 ·rename_i hb;subst hb;cases e;exact ⟨_,h,Rps.ints ns⟩
 ·cases e
def SL:Sp3:=fun ts G q=>∃ (a:Addr) (ns:List Int),ts=[.ref a]/\G a=some (.frz (ns.map T.int))/\ns.length<=63/\∀ G',q (.bl true) G'
theorem qoA {l:PySem.W.OpenLaw} {k:Nat} {q:Program} {loose:List Str} {XP:(Str->Option Value)->Heap->Prop} {YP:World->Heap->Prop} {d:DefRec} {K:Params->PySem.W.Frag} {x:Str} (hn:l.most=some 63) (hdf:d.params.defaults=[]) (hr:Room k callerA)
  (hY:∀ (w:World) (h:Heap),YP w h->(K w.params).In h) (hK:∀ w:World,WE (K w.params)=true)
  (F:∀ (w:World) (mg:Str->Option Value) (fa:Addr) (h:Heap),(K w.params).In h->h.Ns mainGlobals mg->mg d.name=some (.ref fa) ->
   ∃ fd:FuncData,(∀ (s:Shared) (u:Value),BindsTo s fd ⟨[u],[]⟩ [(x,u)])/\∀ base:Heap,(K w.params).In base->base.Ns mainGlobals mg->FnOk l.prog w (K w.params) mg base CX0 k fa fd [x] (lSp (K w.params) SL)) :
  PySem.W.WalkO q loose XP YP l.row.toRowW d [] (fun f vs=>PySem.call f vs):=
 L2.qiF (n:=63) (k:=k) (x:=x) (CX:=fun _=>CX0) (sp:=fun w=>lSp (K w.params) SL) hn (by decide) hdf hr hY F
  (fun w H a ns hl hO hS=>⟨[.ref a],only a ns,fun t _=>t=.bl true,qiJ (qbo (hK w) hO hS),.cons (.ref a) .nil,⟨a,ns,rfl,by simp [only],hl,fun _=>rfl⟩,fun t G' e v H' r _ _=>by subst e;cases r;rfl⟩) fun _ _ _ _ _ z=>z
theorem qh4 {P:Program} {w:World} {K:PySem.W.Frag} {mg:Str->Option Value} {base:Heap} {x qual:Str} {st:Stmt} {f:Addr} {fd:FuncData} {N ps:List Str} {k:Nat} {sp:Sp3} {t3:TS3} (F:Fun K x qual st f fd) (S:FnScope N ps (qi st))
  (body:∀ (cdv:Value) (A:Around) (outer:List Env) (s:Shared) (H:Hp) (E:XK),Room k (A.deeper (envOfC qual (qi st) s.heap.objs.size f cdv)) ->
   B3 (qdC CX0 P w K mg base N qual (qi st) f cdv A outer s H E).nox (jQ st) t3)
  (read:∀ ts G q,sp ts G q->ts.length=ps.length/\t3 { nx:=fun _ G'=>q .non G',rt:=q } (qk N ts) G):FnOk P w K mg base CX0 (k+1) f fd ps (lSp K sp):=by
 refine F.ok S (fun vs H Q E ⟨ts,G,q,h1,h2,h3,h4⟩=>by rw [← h2.length];exact (read ts G q h3).1) fun cdv A outer s H vs Q E hr ⟨ts,G,q,h1,h2,h3,h4⟩=>?_
 refine ⟨_,body cdv A outer s H E hr,qk N ts,G,_,LF h1 h2,(read ts G q h3).2,⟨fun τ' G' h' σ' H' rl' k'=>h4 _ G' h' _ H' .non rl'.hp k',h4,fun _ _ z=>z.elim,fun _ _ z=>z.elim⟩⟩
abbrev eh1 (h:Heap) (o1:Obj):Heap:=h.push o1
abbrev eh2 (h:Heap) (o1:Obj):Heap:=(eh1 h o1).push { cls:=.type "enumerate",data:=.fields #[.none,.bool false,.ref h.objs.size,rawInt 0,.none,.none] }
theorem qaZ (c:Addr) (o1:Obj) (ob:Obj) :
  Meets (Builtin.«enumerate.__new__» ⟨[.type "enumerate",.ref c],[]⟩) (fun _ R s=>s.heap.get? c=some ob /\
   (∀ (P:Program) (w:World) (A:Around) (Q:Value->Shared->Prop) (E:Value->Shared->Prop),Q (.ref s.heap.objs.size) { s with heap:=eh1 s.heap o1 }->wpAny (model P w) A (pyIter (.ref c)) Q E s) /\
   R (.ok (.ret (.ref (eh1 s.heap o1).objs.size))) { s with heap:=eh2 s.heap o1 }):=
 .of_wp fun prog w A R s h=>by
  obtain ⟨hp,g,d,tk,os⟩:=s
  obtain ⟨hl,h1,h⟩:=h
  have hsub:=sub_enumerate
  have k1:=fun A Q E=>h1 prog w A Q E
  wp_walk using wpAny_loadPart' hl
  refine wpAny_stack_any fun st=>wpAny_pure ?_
  split
  ·rename_i c _ _ _ _ _
   cases (c==Value.type "enumerate")
   ·wp_walk using wpAny_loadPart' hl,k1 _ _ _
    exact ⟨_,rfl,h⟩
   ·wp_walk using wpAny_loadPart' hl,k1 _ _ _
    exact ⟨_,rfl,h⟩
  ·wp_walk using wpAny_loadPart' hl,k1 _ _ _
   exact ⟨_,rfl,h⟩
theorem qew {b:Bool} {c:Addr} {xs:Array Value} {h:Heap} (q:MD b c xs h):∃ o,h.get? c=some o:=by
 cases b
 ·obtain ⟨o,e,_⟩:=(show h.IsTuple c xs from q);exact ⟨o,e⟩
 ·obtain ⟨o,e,_⟩:=(show h.IsList c xs from q);exact ⟨o,e⟩
section
variable {P:Program} {w:World} {A:Around} {s:Shared} {E:Value->Shared->Prop}
theorem qdf {b:Bool} {c:Addr} {xs:Array Value} {Q:Value->Shared->Prop} (h1:MD b c xs s.heap)
  (q:∀ h',IsEnum h' (s.heap.objs.size+1) s.heap.objs.size 0 .none->qel b s.heap.objs.size c 0 h'->(∀ c o,s.heap.get? c=some o->h'.get? c=some o)->Q (.ref (s.heap.objs.size+1)) { s with heap:=h' }) :
  wpAny (model P w) A (call (.type "enumerate") [.ref c]) Q E s:=by
 obtain ⟨ob,hob⟩:=qew h1
 refine callType_new F.called_enumerate (by decide) (F.typeCall_enumerate_1 _) (F.newCall_enumerate_1 _) (fun obj=>F.args_object_init_2 obj _) F.entry_enumerate_new
  (qaZ c (zW b c) ob) ⟨hob,fun P w A Q E q=>NV h1 q,?_⟩
 have e1:(eh1 s.heap (zW b c)).objs.size=s.heap.objs.size+1:=Heap.size_push ..
 have g2:(eh2 s.heap (zW b c)).get? (eh1 s.heap (zW b c)).objs.size=some _:=Heap.get?_push_size _ rfl
 have g1:(eh2 s.heap (zW b c)).get? s.heap.objs.size=some (zW b c):=Heap.get?_push_of_some _ (Heap.get?_push_size _ rfl)
 show _/\_
 rw [e1] at g2 ⊢
 refine ⟨⟨_,g2,rfl⟩,q _ g2 ?_ fun c o e=>Heap.get?_push_of_some _ (Heap.get?_push_of_some _ e)⟩
 cases b<;>exact ⟨_,g1,rfl,rfl⟩
end
theorem qdG {P:Program} {w:World} {A:Around} (hh:A.handled=none) (b:Bool) (it c:Addr) (hne:c≠it) (xs:Array Value) :
  Draws P w A it [it,c] xs.size (fun i v=>xs[i]?=some v) (fun i h=>qel b it c i h/\MD b c xs h) where
 live:=fun i h st=>let ⟨o,e,_⟩:=(jc (P:=P) (w:=w) b it c).obj st.1;⟨o,e⟩
 frame:=fun i h h' st hk=>⟨(jc (P:=P) (w:=w) b it c).keep st.1 fun o e=>hk it (by simp) o e,(jc (P:=P) (w:=w) b it c).hkeep st.2 fun o e=>hk c (by simp) o e⟩
 item:=fun i s Q E hi st hQ=>by
  refine (jc (P:=P) (w:=w) b it c).item st.1 st.2 (x:=xs[i]) (by simp [hi]) fun h' st' sb=>?_
  exact hQ _ h' s.toks (by simp [hi]) ⟨st',(jc (P:=P) (w:=w) b it c).hkeep st.2 fun o e=>(sb.2 c hne).trans e⟩ sb
 done:=fun s Q E st hE=>(jc (P:=P) (w:=w) b it c).done hh st.1 st.2 (by simp) hE
theorem T1 {P:Program} {w:World} {A:Around} {s:Shared} {E:Value->Shared->Prop} {b:Bool} {e it c:Addr} {i:Nat} {xs:Array Value} {old:Value} {Q:Option Value->Shared->Prop} (hh:A.handled=none) (he:IsEnum s.heap e it i old) (p1:qel b it c i s.heap) (l1:MD b c xs s.heap) (hx:xs[i]?=none)
  (hQ:∀ h',Heap.ExtBut it s.heap h'->Q none { s with heap:=h' }):wpAny (model P w) A (pyNext (.ref e)) Q E s:=by
 have hT:s.TypeIs (.ref e) "enumerate" := ⟨_,he,rfl⟩
 unfold pyNext
 refine wpAny_bind (wpAny_attempt (wpAny_callSpecial?_slot (name:=Str.ofString "__next__") hT F.slot_enumerate_next
  (wpAny_call_entry F.slot_enumerate_next hT F.entry_enumerate_next ?_ (F.args_enumerate_next_1 _))))
 show wpAny _ _ (field (.ref e) 2 >>= _) _ _ _
 refine wpAny_bind (wpAny_field he rfl (x:=.ref it) rfl ?_)
 refine wpAny_bind ((jc (P:=P) (w:=w) b it c).done (show A.in1.handled=none from hh) p1 l1 hx fun h' x he' hx'=>?_)
 obtain ⟨o,ho,hc⟩:=hx'
 refine wpAny_bind (wpAny_isInstance (T:="StopIteration") (b:=true) ⟨o,ho,hc⟩ isSubtype_stop ?_)
 exact wpAny_pure (hQ _ he')
def Ite (K:PySem.W.Frag) (b:Bool) (c:Addr):It:=
  ⟨fun i H=>∃ xs x,SqB K b H c xs/\xs[i]?=some x,
   fun i H v H'=>∃ p x,H p=none/\v=.ref p/\H'=upd H p (.tup [.int i,x])/\(∀ xs,SqB K b H c xs->xs[i]?=some x),
   fun i H=>∃ xs,SqB K b H c xs/\xs.length<=i⟩
def qlI (b:Bool) (e it c:Addr) (k:Nat) (h:Heap):Prop:=(∃ old,IsEnum h e it k old)/\qel b it c k h
theorem qcU {P:Program} {w:World} {K:PySem.W.Frag} {es:List Expr} {k1:Nat} {pt:Pos} {b:Bool} {e it c:Addr} (n1:e≠it) (n2:c≠e) (n3:c≠it):Turn P w K (.Tuple es k1 pt) (Ite K b c) [e,it] e (qlI b e it c) where
 mem:=by simp
 obj:=fun i h ⟨⟨old,he⟩,p1⟩ d hd=>by
  simp only [mem_cons,not_mem_nil,or_false] at hd
  rcases hd with rfl|rfl
  ·exact ⟨_,he,fun v q=>by cases q⟩
  ·exact (jc (P:=P) (w:=w) b d c).obj p1
 keep:=fun i h h' ⟨⟨old,he⟩,p1⟩ k=>⟨⟨old,k e (by simp) _ he⟩,(jc (P:=P) (w:=w) b it c).keep p1 fun o e=>k it (by simp) o e⟩
 item:=by
  intro X hP hw hK hc i pins s σ H E I hf st hg
  subst hP hw hK
  obtain ⟨xs,x,sq,hx⟩:=hg
  obtain ⟨its,rv,l1,z1⟩:=sq.get I
  obtain ⟨u,hu,ru⟩:=rv.get hx
  obtain ⟨⟨old,he⟩,p1⟩:=st
  have hil:i<its.toArray.size:=by have:=(List.getElem?_eq_some_iff.mp hu).1;simpa using this
  refine wpAny_pyNext_enum_itemD (qdG (show X.A.in1.handled=none from I.ok.hd hc) b it c n3 its.toArray) he ⟨p1,l1⟩ hil n1 (by simp only [mem_cons,not_mem_nil,or_false,not_or];exact ⟨n1,Ne.symm n2⟩) fun y h' tk hy ho st' ht hsz hk=>?_
  have hy':y=u:=by
   have:its.toArray[i]?=some u:=by simpa using hu
   rw [this] at hy;exact (Option.some.inj hy).symm
  subst hy'
  have hfr:H s.heap.objs.size=none:=I.fresh
  have free:∀ b∈[e,it],H b=none:=fun b hb=>(hf b hb).1
  refine ⟨_,rfl,wpAny_letOwnedTupleGo_enum ho fun h2 hz2 s2=>?_⟩
  have elt:e<s.heap.objs.size:=Heap.lt_size he
  have hp2:h2.get? s.heap.objs.size=some { cls:=.type "tuple",data:=.seq #[.int i tk,y] }:=(s2.2 _ (Nat.ne_of_gt elt)).trans ht
  have up:∀ c o,c≠e->h'.get? c=some o->h2.get? c=some o:=fun c o hc e=>(s2.2 c hc).trans e
  have kk:∀ c o,c∉[e,it]->s.heap.get? c=some o->h2.get? c=some o:=fun c o hc q=>by
   simp only [mem_cons,not_mem_nil,or_false,not_or] at hc
   exact up c o hc.1 (hk c o hc.1 hc.2 q)
  have I3:Inv X pins σ (upd H s.heap.objs.size (.tup [.int i,x])) { s with heap:=h2,toks:=tk+1 }:=by
   refine I.step (g':=s.gens) (d':=s.drawn) (t':=tk+1) (ch:=[e,it]) (fun b hb=>?_) (fun b o _ _ hcb e _=>kk b o hcb e) (fun b o _ _ hcb e _=>⟨o.slots,kk b o hcb e⟩) (fun b o _ e n=>by rw [qN (Nat.ne_of_lt (Heap.lt_size e))];exact n) (fun b o hcb e=>⟨o,kk b o hcb e⟩)
    (fun b _ e=>by rw [qN (qD e hfr)];exact e) (fun b _ _ e=>by rw [qN (qD e hfr)];exact e) (fun b ps e=>⟨#[],by rw [qN (qD e hfr),e];simp⟩) (fun m hm=>?_) (fun b u e=>?_) I.bare
   ·obtain ⟨f0,f1,f2,f3,f4,f5⟩:=hf b hb
    exact ⟨f3,f1,f4,f5⟩
   ·obtain ⟨o,es',ep,ho',r⟩:=hm
    refine ⟨o,es',ep,kk _ o (fun q=>?_) ho',r⟩
    obtain ⟨f0,f1,_⟩:=hf X.env.locals q
    exact f1 rfl
   ·by_cases hb:b=s.heap.objs.size
    ·subst hb
     rw [zj] at e
     cases e
     exact ⟨by show 2<=sizeLine;decide,[.int i tk,y],.cons ⟨tk,rfl⟩ (.cons ru .nil),⟨_,hp2,rfl,_,rfl⟩⟩
    ·rw [qN hb] at e
     refine (I.hok b u e).stay (fun c v hcb q=>kk c v (fun m=>?_) q) (fun _ q=>by rw [qN (qD q hfr)];exact q) fun _ _ q=>by rw [qN (qD q hfr)];exact q
     have hn:=free c m
     rcases hcb with q|q
     ·rw [q] at hn;rw [hn] at e;cases e
     ·rw [hn] at q;cases q
  refine ⟨.ref s.heap.objs.size,_,I3,rfl,⟨_,x,hfr,rfl,rfl,fun zs q=>by rw [q.inj I sq];exact hx⟩,⟨⟨_,by push_cast;exact hz2⟩,(jc (P:=X.prog) (w:=X.w) b it c).keep st'.1 fun o e=>up _ o (Ne.symm n1) e⟩,fun b hb=>?_⟩
  rw [qN (fun q=>?_)]
  ·exact free b hb
  ·subst q
   simp only [mem_cons,not_mem_nil,or_false] at hb
   rcases hb with q|q
   ·exact absurd q (Nat.ne_of_gt elt)
   ·obtain ⟨o,e,_⟩:=(jc (P:=X.prog) (w:=X.w) b it c).obj p1
    exact absurd q (Nat.ne_of_gt (Heap.lt_size e))
 done:=by
  intro X hP hw hK hc i pins s σ H E I hf st hg
  subst hP hw hK
  obtain ⟨xs,sq,hend⟩:=hg
  obtain ⟨its,rv,l1,z1⟩:=sq.get I
  obtain ⟨⟨old,he⟩,p1⟩:=st
  have e1:=rv.length
  have free:∀ b∈[e,it],H b=none:=fun b hb=>(hf b hb).1
  refine T1 (I.ok.hd hc) he p1 l1 (by simp;omega) fun h' hk0=>⟨rfl,?_⟩
  have hk:∀ c o,c∉[e,it]->s.heap.get? c=some o->h'.get? c=some o:=fun c o hcb q=>hk0 c o (by simp only [mem_cons,not_mem_nil,or_false,not_or] at hcb;exact hcb.2) q
  refine I.step (g':=s.gens) (d':=s.drawn) (t':=s.toks) (ch:=[e,it]) (fun b hb=>?_) (fun b o _ _ hcb e _=>hk b o hcb e) (fun b o _ _ hcb e _=>⟨o.slots,hk b o hcb e⟩) (fun _ _ _ _ n=>n) (fun b o hcb e=>⟨o,hk b o hcb e⟩) (fun _ _ e=>e) (fun _ _ _ e=>e) (fun b ps e=>⟨#[],by rw [e];simp⟩) (fun m hm=>?_) (fun b u e=>?_) I.bare
  ·obtain ⟨f0,f1,f2,f3,f4,f5⟩:=hf b hb
   exact ⟨f3,f1,f4,f5⟩
  ·obtain ⟨o,es',ep,ho',r⟩:=hm
   refine ⟨o,es',ep,hk _ o (fun q=>?_) ho',r⟩
   obtain ⟨f0,f1,_⟩:=hf X.env.locals q
   exact f1 rfl
  ·refine (I.hok b u e).stay (fun c v hcb q=>hk c v (fun m=>?_) q) (fun _ q=>q) fun _ _ q=>q
   have hn:=free c m
   rcases hcb with q|q
   ·rw [q] at hn;rw [hn] at e;cases e
   ·rw [hn] at q;cases q
 self:=fun A i s Q E st h=>let ⟨⟨old,he⟩,_⟩:=st;wpAny_pyIter_enum he h
section
variable {X:Cx} {a b e l:Expr} {es:List Expr} {pos:Pos}
theorem qhz {p pt:Pos} {k1:Nat} {ta:TA} (hg:Gl X "enumerate") (hm:X.mg "enumerate" = none) (ha:PA X [a] ta) (hs:starEach [a] X.env=[(false,eval a X.env)]:=by rfl) :
  PI X (.Tuple es k1 pt) (.Call (.Name "enumerate" p) [a] [] pos) (fun σ H R=>ta σ H fun vs H1=>∃ b1 c1 xs,vs=[.ref c1]/\SqB X.K b1 H1 c1 xs/\R (Ite X.K b1 c1) H1):=by
 intro pins s σ H R I h
 refine Call_ (CF I hg hm PyProof.Rows.boot_enumerate (PyProof.Rows.callWith_type1 (thn (ha pos pins s σ H _ I h) fun us s1 ⟨vs,H1,I1,r1,q1⟩=>?_) (by rw [hs];rfl) (by rfl)))
 obtain ⟨b1,c1,xs,rfl,sq1,q⟩:=q1
 obtain ⟨u1,rfl,e1⟩:=WA r1
 cases (show u1=Value.ref c1 from e1)
 obtain ⟨its1,rv1,l1,z1⟩:=sq1.get I1
 refine qdf l1 fun h' he hit hk=>wpAny_pyIter_enum he ?_
 have lt:=qh8 l1
 have ne3:∀ n c:Nat,c<n->n+1≠n/\c≠n+1/\c≠n:=fun n c h=>by omega
 obtain ⟨m1,m2,m3⟩:=ne3 _ _ lt
 refine ⟨s1.heap.objs.size+1,[s1.heap.objs.size+1,s1.heap.objs.size],_,_,H1,rfl,I1.kept (t':=s1.toks) hk,qcU m1 m2 m3,⟨⟨_,he⟩,hit⟩,fun c hc=>?_,q⟩
 have hle:s1.heap.objs.size<=c:=by
  simp only [mem_cons,not_mem_nil,or_false] at hc
  rcases hc with rfl|rfl<;>first|exact Nat.le_refl _|exact Nat.le_add_right _ _
 exact I1.fpOk hle (I1.hok.fresh hle)
end
def ZV (k:Nat):List T->List T
 |[]=>[]
 |x::r=>.tup [.int (k:Int),x]::ZV (k+1) r
def qcX (us:List T):List T:=ZV 0 us
theorem XH:∀ {us:List T} {k i:Nat} {x:T},(ZV k us)[i]?=some x->∃ a,us[i]?=some a/\x=.tup [.int ((k+i:Nat):Int),a]
 |[],_,_,_,h=>by simp [ZV] at h
 |u::us,k,0,x,h=>by simp [ZV] at h;exact ⟨u,rfl,by simp [← h]⟩
 |u::us,k,i+1,x,h=>by
  simp [ZV] at h
  obtain ⟨a,ha,hx⟩:=XH h
  exact ⟨a,by simpa using ha,by rw [hx];congr 4;omega⟩
theorem XN:∀ (us:List T) (k:Nat),(ZV k us).length=us.length
 |[],_=>rfl
 |u::us,k=>by simp [ZV,XN us]
theorem RT (us:List T):(qcX us).length=us.length:=XN us 0
theorem DF {us:List T} {i:Nat} {x:T} (h:(qcX us)[i]?=some x):∃ a,us[i]?=some a/\x=.tup [.int (i:Int),a]:=by
 obtain ⟨a,ha,hx⟩:=XH h
 exact ⟨a,ha,by rw [hx];congr 4;omega⟩
theorem qkq {K:PySem.W.Frag} {b1:Bool} {c1:Addr} {x:T} {us:List T} {G0:Gp} {H0:Hp}
  (f1:∀ G H,HR K G H->Kp G0 H0 G H->jD G x=some us->∃ vs,SqB K b1 H c1 vs/\Rps K H us vs) :
  qiW K (Ite K b1 c1) (qcX us) (fun G=>jD G x=some us) G0 H0:=by
 intro G H hr k h1
 obtain ⟨p,sp,rp⟩:=f1 G H hr k h1
 refine ⟨fun i z hz=>?_,fun i z v H' hz hy=>?_,⟨p,sp,?_⟩⟩
 ·obtain ⟨a,ha,_⟩:=DF hz
  obtain ⟨v,hv,_⟩:=rp.get ha
  exact ⟨p,v,sp,hv⟩
 ·obtain ⟨a,ha,rfl⟩:=DF hz
  obtain ⟨t,v1,ht,rfl,rfl,g1⟩:=hy
  obtain ⟨v,hv,rv⟩:=rp.get ha
  have e1:=(g1 p sp).symm.trans hv
  obtain rfl:v1=v:=Option.some.inj e1
  have kk:Kp G H G (upd H t (.tup [.int i,v1])):=Kp.laid ht
  exact ⟨.tup (SqT.of zj) (.cons (.int _) (.cons (rv.keep hr kk) .nil)),hr.laid ht,kk⟩
 ·rw [← rp.length,RT]
  exact Nat.le_refl _
def SZ (ta:TA3):TI3:=fun τ G r=>ta τ G fun xs G1=>match xs with
 |[x]=>(match jD G1 x with|some us=>r (qcX us) (fun G=>jD G x=some us) G1|_=>False)
 |_=>False
section
variable {X:Cx} {a b e l:Expr} {es:List Expr} {pos:Pos} {t:TA3}
theorem qnc {p pt:Pos} {k1:Nat} (hg:Gl X "enumerate") (hm:X.mg "enumerate" = none) (ha:A3 X [a] t) (hs:starEach [a] X.env=[(false,eval a X.env)]:=by rfl) :
  I3 X (.Tuple es k1 pt) (.Call (.Name "enumerate" p) [a] [] pos) (SZ t):=
 ql3 (qhz hg hm ha hs) fun σ H R ⟨τ,G,r,rl,h,af⟩=>VE rl h fun xs G1 h1 vs H1 rs hr1 k1 rl1=>by
  split at h1
  ·rename_i x
   split at h1
   ·rename_i us e1
    obtain ⟨v,rfl,r1⟩:=KJ rs
    obtain ⟨b1,c1,rfl,f1⟩:=qbJ hr1 r1 e1
    obtain ⟨p,sp,_⟩:=f1 G1 H1 hr1 Kp.refl e1
    exact ⟨b1,c1,p,rfl,sp,af _ _ G1 h1 _ H1 hr1 k1 (qkq f1)⟩
   ·exact h1.elim
  ·exact h1.elim
end
section
variable {X:Cx} {a b c e:Expr} {es:List Expr} {ta tb tc te:TE3} {t:TA3} {pos:Pos}
def UI (i:Nat) (r:R3) (te:TE3):TS3:=fun d τ G=>match τ[i]? with
 |some (some x)=>te τ G fun y G1=>r x y G1 fun z G2=>d.nx (τ.set i (some z)) G2
 |_=>False
theorem qei (i:Nat) {x:Str} {pos':Pos} (hN:X.N.Nodup) (he:E3 X e te) (hi:X.N[i]?=some x:=by rfl) (hx:Loc X.env.scope x:=by first|exact Or.inl rfl|exact Or.inr rfl) (hf:X.fn x=true\/X.env.scope.names.lookup x=some .local:=by first|exact .inl rfl|exact .inr rfl) :
  S3 X (.AugAssign (.Name x pos') .Add e pos) (UI i (iI (·+·)) te):=
 qdB (qlV (i:=i) hN hi hx he qjG hf) fun D σ H ⟨τ,G,d,rl,h,af⟩=>by
  unfold UI at h
  split at h
  ·rename_i x e1
   obtain ⟨v,e2,rv⟩:=rl.st i x e1
   refine ⟨v,e2,zH rl h fun y G1 h1 u H1 ry hr1 k1 rl1=>?_⟩
   have rv1:=rv.keep rl.hp k1
   cases x<;>try exact h1.elim
   cases y<;>try exact h1.elim
   cases rv1;cases ry
   exact ⟨_,_,rfl,rfl,af.nx _ G1 h1 _ H1 (rl1.set i (.int _)) k1⟩
  ·exact h.elim
def qiQ (ns:List Int):Prop:=ns.length<=1000000/\∀ x∈ns,-1000000000000<=x/\x<=1000000000000
theorem NS (ns:List Int):∀ j,j<=ns.length->preSum (fun i=>ns.getD i 0) j=(ns.take j).sum
 |0,_=>by simp [preSum]
 |j+1,h=>by
  have hj:j<ns.length:=h
  unfold preSum
  rw [NS ns j (by omega),List.take_succ_eq_append_getElem hj,List.sum_append,getD_eq_getElem?_getD,getElem?_eq_getElem hj]
  simp
theorem qgt:∀ (ns:List Int),(∀ x∈ns,-1000000000000<=x/\x<=1000000000000)->-1000000000000*(ns.length:Int)<=ns.sum/\ns.sum<=1000000000000*(ns.length:Int)
 |[],_=>by simp
 |n::r,h=>by
  have h1:=h n List.mem_cons_self
  have h2:=qgt r fun x hx=>h x (List.mem_cons_of_mem _ hx)
  rw [List.sum_cons,length_cons]
  omega
theorem EX (hc:X.calm=true):JN X (.builtin "sum") (fun xs H Q=>∃ (p:Addr) (ns:List Int),xs=[.ref p]/\SqL X.K H p (ns.map V.int)/\qiQ ns/\Q (.int ns.sum) H):=by
 intro pins s σ H xs us Q I r h
 obtain ⟨p,ns,rfl,hq,ok,q⟩:=h
 obtain ⟨u,rfl,rp⟩:=WA r
 cases (show u=Value.ref p from rp)
 obtain ⟨its,rv,pl,hz⟩:=I.list hq
 have hlen:its.length=ns.length:=by have:=rv.length;simp at this;omega
 have hp:p<s.heap.objs.size:=by obtain ⟨o,n,e,_⟩:=pl;exact Heap.lt_size e
 have bd:∀ j,j<=ns.length->InLong (preSum (fun i=>ns.getD i 0) j):=fun j hj=>by
  rw [NS ns j hj]
  have:=qgt (ns.take j) fun x hx=>ok.2 x (List.mem_of_mem_take hx)
  have hl:(ns.take j).length<=1000000:=Nat.le_trans (by rw [List.length_take];omega) ok.1
  unfold InLong
  omega
 refine call_sum_walk (wpAny_pyIter_list pl.isList ⟨s.heap.objs.size,_,_,_,_,_,fun i=>ns.getD i 0,rfl,Walks.list (A:=X.A.in1) (show X.A.in1.handled=none from I.ok.hd hc) s.heap.objs.size p (Nat.ne_of_lt hp) its.toArray,⟨⟨_,Heap.get?_push_size _ rfl,rfl,rfl⟩,?_⟩,fun b hb=>?_,fun i v hv=>?_,fun j hj=>?_,fun h' tk t' hk=>?_⟩)
 ·obtain ⟨o,n,e,c,_,d⟩:=pl
  exact ⟨o,Heap.get?_push_of_some _ e,c,n,d⟩
 ·have lt1:∀ n c:Nat,c<n->c<n+1:=fun n c h=>by omega
  rw [show (({ s with heap:=s.heap.push _ }:Shared).heap.objs.size)=s.heap.objs.size+1 from Heap.size_push ..]
  simp only [mem_cons,not_mem_nil,or_false] at hb
  rcases hb with rfl|rfl
  ·exact Nat.lt_succ_self _
  ·exact lt1 _ _ hp
 ·have hv':its[i]?=some v:=by simpa using hv
  obtain ⟨hi,_⟩:=List.getElem?_eq_some_iff.mp hv'
  have hi':i<ns.length:=by omega
  obtain ⟨u,hu,ru⟩:=rv.get (i:=i) (show (ns.map V.int)[i]?=some (V.int (ns[i])) by simp [hi'])
  rw [hv'] at hu;cases hu
  obtain ⟨t,rfl⟩:=ru
  exact ⟨t,by show Value.int ns[i] t=Value.int (ns.getD i 0) t;rw [getD_eq_getElem?_getD,getElem?_eq_getElem hi'];rfl⟩
 ·have hj':j<ns.length:=by rw [size_toArray] at hj;omega
  refine ⟨?_,bd _ hj'⟩
  have:=ok.2 (ns.getD j 0) (by rw [getD_eq_getElem?_getD,getElem?_eq_getElem hj'];exact List.getElem_mem hj')
  show InLong (ns.getD j 0)
  unfold InLong
  omega
 ·refine ⟨.int _,H,?_,⟨_,rfl⟩,by rw [size_toArray,hlen,NS ns _ (Nat.le_refl _),List.take_length];exact q⟩
  exact I.kept (h':=h') (t':=tk) fun b o e=>hk b o (by simp;exact Nat.ne_of_lt (Heap.lt_size e)) (Heap.get?_push_of_some _ e)
def RX:List T->Option (List Int)
 |[]=>some []
 |.int i::r=>(match RX r with|some ns=>some (i::ns)|none=>none)
 |_=>none
theorem VB (ns:List Int):RX (ns.map T.int)=some ns:=by
 induction ns with
 |nil=>rfl
 |cons n r ih=>simp [RX,ih]
theorem ES:∀ {xs:List T} {ns:List Int},RX xs=some ns->xs=ns.map T.int
 |[],_,h=>by simp [RX] at h;subst h;rfl
 |x::r,ns,h=>by
  unfold RX at h
  split at h
  ·rename_i e;cases e
  ·rename_i i r' e
   cases e
   split at h
   ·rename_i ms e2
    cases h
    rw [ES e2];rfl
   ·cases h
  ·cases h
def qiT:List T->Gp->Q3->Prop:=fun xs G q=>match xs with
 |[.ref p]=>(match getL G p with|some ys=>(match RX ys with|some ns=>qiQ ns/\q (.int ns.sum) G|none=>False)|none=>False)
 |_=>False
theorem EZ {K:PySem.W.Frag} {H:Hp}:∀ {ns:List Int} {vs:List V},Rps K H (ns.map T.int) vs->vs=ns.map V.int
 |[],_,r=>by cases r;rfl
 |n::ns,_,r=>by
  cases r with
  |cons a b=>cases a;rw [EZ b];rfl
theorem qbW {K:PySem.W.Frag}:M7 K qiT (fun xs H Q=>∃ (p:Addr) (ns:List Int),xs=[.ref p]/\SqL K H p (ns.map V.int)/\qiQ ns/\Q (.int ns.sum) H):=fun xs vs G H q Q hr rs h af=>by
 unfold qiT at h
 split at h
 ·rename_i p
  obtain ⟨v,rfl,r⟩:=KJ rs
  cases r
  split at h
  ·rename_i ys e0
   split at h
   ·rename_i ns e1
    obtain ⟨us,hs,r2⟩:=zT hr e0
    have:=ES e1
    subst this
    have:=EZ r2
    subst this
    exact ⟨p,ns,rfl,hs,h.1,af _ G h.2 _ H (.int _) hr Kp.refl⟩
   ·exact h.elim
  ·exact h.elim
 ·exact h.elim
def EU:List T->Gp->Q3->Prop:=fun xs G q=>match xs with
 |[.ref p]=>(match getL G p with|some ys=>(match qnV ys with|some k=>q (.bl k) G|none=>False)|none=>False)
 |_=>False
end
section
variable {X:Cx}
theorem qiz {elt tg iter:Expr} {ifs:List Expr} {scope:Scope} {pos cpos:Pos} {N':List Str} {m:List (Option Nat)} {wi:TI} {g:TG} {tif:TT} {te:TE} {use:Option (Value->Sem Unit)} {Qc:Value->Shared->Prop} {QD:Addr->Hp->Prop} (hc:X.calm=true) (hi:PI X tg iter wi)
  (hg:∀ s H fp,PG (qq X N' scope s H fp) tg g) (hf:∀ s H fp,PF (qq X N' scope s H fp) ifs tif) (he:∀ s H fp,PE (qq X N' scope s H fp) elt te)
  (hsc:qbu X.env.scope scope=true) (hcap:U4 X.N N' scope m=true) (hs:∀ x,foldedSetIterable iter X.env x=pure x) {pins:List (Addr×Obj)} {s:Shared} {σ:L2.St} {H:Hp} (I:Inv X pins σ H s)
  (h:wi σ H fun J H1=>∀ D,H1 D=none ->
   ∃ W:Nat->Nat->L2.St->Hp->Prop,(∃ n,W 0 n (cap m σ) (upd H1 D (.lst [])))/\∀ i n σ H,W i n σ H ->
    (J.stop i H/\QD D H)\/(J.go i H/\∀ x H',J.yld i H x H'->g x σ H' fun σ2 H2=>tif σ2 H2 fun k H3=>
     if k=true then te σ2 H3 fun y H4=>∃ zs,H4 D=some (.lst zs)/\zs.length<sizeLine/\∃ n',n'<n/\W (i+1) n' σ2 (upd H4 D (.lst (zs++[y])))
     else ∃ n',n'<n/\W (i+1) n' σ2 H3))
  (fin:∀ (D:Addr) (s3:Shared) (H3:Hp) (fp:List Addr) (s6:Shared) (H6:Hp) (σ6:L2.St) (r:Flow),Inv X pins σ H3 s3->(∀ b∈fp,KP X pins H3 b)->Inv (qq X N' scope s3 H3 fp) [] σ6 H6 s6->QD D H6->compPost (model X.prog X.w) X.A X.xe use Qc (.ref D) s3.heap.objs.size (.ok r) s6) :
  wpAny (model X.prog X.w) X.A (comprehension (.ListComp elt [⟨tg,iter,ifs,0⟩] scope pos) scope X.env cpos (newList []) false (eval iter X.env) use) Qc X.xe s:=by
 have sc:=WB hsc
 have hcl:∀ y∈scope.names,y.2=.free->∃ c,X.env.cells.lookup y.1=some c:=fun y hy e=>by
  rcases (sc.free y hy e).2 with z|z
  ·exact I.ok.has y.1 (.inl z)
  ·exact I.ok.has y.1 (.inr z)
 refine wpAny_comprehension_free (g:=⟨tg,iter,ifs,0⟩) (gs:=[]) rfl hs (YH hcl) sc.kind sc.loc ?_
 show wpAny _ _ (eval iter X.env) _ _ s
 refine thn (hi pins s σ H _ I h) fun v s1 h1=>thn h1 fun itv s2 h2=>?_
 obtain ⟨it,fp,tn,J,H2,rfl,I2,T,st2,f2,hW⟩:=h2
 refine wpAny_newObj_type ?_
 have hD:H2 s2.heap.objs.size=none:=I2.fresh
 obtain ⟨W,⟨n0,w0⟩,turn⟩:=hW _ hD
 generalize hDe:s2.heap.objs.size=D at *
 have I3:Inv X pins σ (upd H2 D (.lst [])) { s2 with heap:=s2.heap.push { cls:=.type "list",dict:=none,data:=.seq ([]:List Value).toArray } }:=by
  subst hDe
  exact I2.laid (t':=s2.toks) (fun b u e=>Heap.get?_push_of_some _ e) (Nat.le_refl _) ⟨Nat.zero_le _,[],0,.nil,Heap.get?_push_size _ rfl⟩
 have ob2:=T.obj 0 _ st2
 have ob3:∀ b∈fp,∃ o,(s2.heap.push { cls:=.type "list",dict:=none,data:=.seq ([]:List Value).toArray }).get? b=some o:=fun b hb=>let ⟨o,e,_⟩:=ob2 b hb;⟨o,Heap.get?_push_of_some _ e⟩
 have f3:∀ b∈fp,KP X pins (upd H2 D (.lst [])) b:=fun b hb=>by
  obtain ⟨o,e,_⟩:=ob2 b hb
  have:b≠D:=by rw [← hDe];exact Nat.ne_of_lt (Heap.lt_size e)
  exact ⟨by rw [qN this];exact (f2 b hb).1,(f2 b hb).2⟩
 have k23:∀ b o,s2.heap.get? b=some o->(s2.heap.push { cls:=.type "list",dict:=none,data:=.seq ([]:List Value).toArray }).get? b=some o:=fun b o e=>Heap.get?_push_of_some _ e
 generalize hH3:upd H2 D (.lst [])=H3 at *
 generalize hs3:({ s2 with heap:=s2.heap.push { cls:=.type "list",dict:=none,data:=.seq ([]:List Value).toArray } }:Shared)=s3 at *
 have ob3:∀ b∈fp,∃ o,s3.heap.get? b=some o:=by rw [← hs3];exact ob3
 have k23:∀ b o,s2.heap.get? b=some o->s3.heap.get? b=some o:=by rw [← hs3];exact k23
 refine QJ fun h₁ hns hk hown=>?_
 have I4:Inv (qq X N' scope s3 H3 fp) [] (cap m σ) H3 { s3 with heap:=h₁ }:=T9 hc I3 sc hcap f3 ob3 hns hk hown
 have tn4:tn 0 h₁:=T.keep _ _ _ st2 fun b hb o e=>hk b o (k23 b o e)
 have fr4:∀ b∈fp,H3 b=none:=fun b hb=>(f3 b hb).1
 have stat:∀ {H':Hp},(∀ b∈fp,H' b=none)->∀ b∈fp,KP (qq X N' scope s3 H3 fp) [] H' b:=fun hn b hb=>by
  refine ⟨hn b hb,I4.ok.exf b hb |>.1,I4.ok.exfs b hb,.inl hb,fun x c e=>(I4.ok.exf b hb).2 x c e,fun p hp=>absurd (show p∈([]:List (Addr×Obj)) from hp) (by simp)⟩
 show codeAny (model X.prog X.w) X.A (.compStart (.ListComp elt [⟨tg,iter,ifs,0⟩] scope pos) 0 (.ref it) (.ref D) (qq X N' scope s3 H3 fp).env) (compPost (model X.prog X.w) X.A X.xe use Qc (.ref D) s3.heap.objs.size) { s3 with heap:=h₁ }
 have loop:codeAny (model X.prog X.w) X.A (.compLoop (.ListComp elt [⟨tg,iter,ifs,0⟩] scope pos) 0 (.ref it) (.ref D) (qq X N' scope s3 H3 fp).env) (compPost (model X.prog X.w) X.A X.xe use Qc (.ref D) s3.heap.objs.size) { s3 with heap:=h₁ }:=by
  refine codeAny_loop rfl (fun n s'=>∃ i σ' H',Inv (qq X N' scope s3 H3 fp) [] σ' H' s'/\tn i s'.heap/\(∀ b∈fp,H' b=none)/\W i n σ' H') (fun n s' hI=>?_) n0 ⟨0,cap m σ,H3,I4,tn4,fr4,w0⟩
  show wpAny _ X.A ((compTurn (.ListComp elt [⟨tg,iter,ifs,0⟩] scope pos) 0 (.ref it) (.ref D) (qq X N' scope s3 H3 fp).env).onRaise (fun x=>do noteFrame x (qq X N' scope s3 H3 fp).env;theTreesLotGoes x)) _ _ s'
  refine wpAny_noted ?_
  rw [compTurn_list]
  refine wpAny_bind (wpAny_standAt (wpAny_bind ?_))
  obtain ⟨i,σ5,H5,I5,st5,fr5,w5⟩:=hI
  rcases turn i n σ5 H5 w5 with ⟨stop,q⟩|⟨go,step⟩
  ·refine thn (T.done (qq X N' scope s3 H3 fp) rfl rfl rfl rfl i [] s' σ5 H5 _ I5 (stat fr5) st5 stop) fun r s6 ⟨hr,I6⟩=>?_
   subst hr
   refine wpAny_pure ?_
   exact fin D s3 H3 fp s6 H5 σ5 _ I3 f3 I6 q
  ·refine thn (T.item (qq X N' scope s3 H3 fp) rfl rfl rfl rfl i [] s' σ5 H5 _ I5 (stat fr5) st5 go) fun r s6 ⟨u,hr,h6⟩=>?_
   subst hr
   refine wpAny_bind (thn h6 fun _ s7 ⟨x,H7,I7,r7,y7,st7,fr7⟩=>?_)
   have I7':=I7.pinned (stat fr7) (T.obj _ _ st7)
   have again:∀ {σ8:L2.St} {H8:Hp} {s8:Shared},Inv (qq X N' scope s3 H3 fp) ([]++XD fp s7.heap) σ8 H8 s8->(∃ n',n'<n/\W (i+1) n' σ8 H8) ->
     ∃ m',m'<n/\∃ i σ' H',Inv (qq X N' scope s3 H3 fp) [] σ' H' s8/\tn i s8.heap/\(∀ b∈fp,H' b=none)/\W i m' σ' H':=fun {σ8 H8 s8} I8 ⟨n',hn,w8⟩=>by
    refine ⟨n',hn,i+1,σ8,H8,I8.unpinned,T.keep _ _ _ st7 fun b hb o e=>(I8.pin (b,o) (mem_append_right _ (mem_append_right _ (zR hb e)))).1,fun b hb=>?_,w8⟩
    obtain ⟨o,e,d⟩:=T.obj _ _ st7 b hb
    exact (I8.pin (b,o) (mem_append_right _ (mem_append_right _ (zR hb e)))).2.1
   refine wpAny_bind (wpAny_mono (hg s3 H3 fp _ s7 σ5 H7 x u _ I7' r7 (step x H7 y7)) (fun _ s8 ⟨σ8,H8,I8,q8⟩=>?_) fun _ _ z=>z.elim)
   refine wpAny_bind (wpAny_mono (hf s3 H3 fp _ s8 σ8 H8 _ I8 q8) (fun k s9 ⟨H9,I9,q9⟩=>?_) fun _ _ z=>z.elim)
   cases k with
   |false=>
    rw [if_neg Bool.false_ne_true] at q9
    exact wpAny_pure ⟨rfl,again I9 q9⟩
   |true=>
    rw [if_pos rfl] at q9
    refine wpAny_bind (wpAny_bind (wpAny_mono (he s3 H3 fp _ s9 σ8 H9 _ I9 q9) (fun w s10 ⟨y,H10,I10,r10,q10⟩=>?_) fun _ _ z=>z.elim))
    obtain ⟨zs,hz,hl,q10⟩:=q10
    refine wpAny_bind (wpAny_mono (DS (X:=qq X N' scope s3 H3 fp) _ s10 σ8 H10 (.ref D) [y] (.ref D) [w] (fun _ H11=>H11=upd H10 D (.lst (zs++[y]))) I10 rfl (.cons r10 .nil) ⟨D,zs,y,rfl,rfl,hz,hl,rfl⟩) (fun _ s11 ⟨_,H11,I11,_,e11⟩=>?_) fun _ _ z=>z.elim)
    subst e11
    exact wpAny_pure (wpAny_pure ⟨rfl,again I11 q10⟩)
 exact codeAny_compStart_list loop (T.self X.A 0 _ _ _ tn4 loop)
theorem qed {i:Nat} {y:Str} {py spos:Pos} {elt tg iter:Expr} {ifs:List Expr} {scope:Scope} {pos:Pos} {N':List Str} {m:List (Option Nat)} {wi:TI} {g:TG} {tif:TT} {te:TE} (hc:X.calm=true) (hN:X.N.Nodup) (hi:PI X tg iter wi)
  (hg:∀ s H fp,PG (qq X N' scope s H fp) tg g) (hf:∀ s H fp,PF (qq X N' scope s H fp) ifs tif) (he:∀ s H fp,PE (qq X N' scope s H fp) elt te)
  (hsc:qbu X.env.scope scope=true) (hcap:U4 X.N N' scope m=true) (hs:∀ x,foldedSetIterable iter X.env x=pure x) (hiy:X.N[i]?=some y) (hl:X.env.scope.names.lookup y=some .local)
  (hsw:swapsWith (.ListComp elt [⟨tg,iter,ifs,0⟩] scope pos) (some (.Name y py)) spos.line X.env=pure true) :
  PS X (.Assign [.Name y py] (.ListComp elt [⟨tg,iter,ifs,0⟩] scope pos) spos) (qpc (tLC wi g tif te m) (qiG i)):=by
 intro pins s σ H D I h
 rw [exec_Assign_Name_used _ _ _ _ hsw]
 refine wpAny_bind (wpAny_standAt (wpAny_bind ?_))
 show wpAny _ X.A (do let _←comprehension (.ListComp elt [⟨tg,iter,ifs,0⟩] scope pos) scope X.env _ (newList []) false (eval iter X.env) (some (assign (.Name y py) X.env))) _ _ s
 refine wpAny_bind (wpAny_mono (qiz (use:=some (assign (.Name y py) X.env)) (QD:=fun D' H'=>D.nx (σ.set i (some (.ref D'))) H') (Qc:=fun _ s'=>∃ σ' H',Inv X pins σ' H' s'/\D.nx σ' H') hc hi hg hf he hsc hcap hs I h fun D' s3 H3 fp s6 H6 σ6 r I3 f3 I6 q=>?_) (fun _ s' hq=>wpAny_pure (wpAny_pure hq)) fun _ _ e=>e)
 have I7:Inv X pins σ H6 s6:=WK (h2:=s6.heap) I3 f3 I6 ⟨rfl,fun _ _=>rfl⟩
 obtain ⟨mm,hn6,_⟩:=I6.loc
 have hfC:KP X pins H6 s3.heap.objs.size:=I3.fpOk (Nat.le_refl _) I6.free
 obtain ⟨f0,f1,f2,f3',f4,f5⟩:=hfC
 show wpAny _ X.A (assign (.Name y py) X.env (.ref D')) _ _ _
 refine wpAny_assign_Name (KN I7 hN hiy (.inl hl) (v:=.ref D') rfl (fun s8 I8 hch=>?_) (.inr hl))
 obtain ⟨a,sb,ha⟩:=hch
 have hne:s3.heap.objs.size≠a:=by
  rcases ha with rfl|ha
  ·exact f1
  ·exact Ne.symm (f4 _ _ ha)
 refine ⟨mm,hn6.sameBut sb hne,fun h' sb'=>⟨_,_,I8.turned (t':=s8.toks) (fun b o hb e=>(sb'.2 b hb).trans e) f0 f1 f3' f4 f5,q⟩⟩
end
theorem qpN {K:PySem.W.Frag} {m:List (Option Nat)} {wi:TI3} {g:TG3} {tif:TT3} {te:TE3} {σ:L2.St} {H:Hp} {Q:VK} (hh:lE K (lc3 wi g tif te m) σ H Q):tLC (lI K wi) (lG K g) (lT K tif) (lE K te) m σ H Q:=by
  obtain ⟨τ,G,q,rl,h,af⟩:=hh
  refine ⟨τ,G,_,rl,h,fun items stay G1 h1 J H1 hr1 k1 ok D hD=>?_⟩
  have gD:G1 D=none:=hr1.free hD
  refine ⟨fun i n σ' H'=>n=items.length-i/\i<=items.length/\∃ τ' G' ys vs,Rel K τ' G' σ' H'/\Kp G1 H1 G' H'/\H' D=some (.lst vs)/\Rps K H' ys vs/\G' D=none/\RV stay g tif te q (items.drop i) ys τ' G',
   ⟨_,rfl,Nat.zero_le _,cap m τ,G1,[],[],((rl.next hr1 k1).cap m).next (hr1.laid hD) (Kp.laid hD),Kp.laid hD,zj,.nil,gD,by simpa using h1⟩,?_⟩
  rintro i n σ' H' ⟨rfl,hi,τ',G',ys,vs,rl',k',hDl,rys,gD',h'⟩
  by_cases hlt:i<items.length
  ·rw [List.drop_eq_getElem_cons hlt] at h'
   obtain ⟨hst,h'⟩:=h'
   obtain ⟨go,yld,_⟩:=ok G' H' rl'.hp k' hst
   have hx:items[i]?=some items[i]:=getElem?_eq_getElem hlt
   refine .inr ⟨go i _ hx,fun v H2 y=>?_⟩
   obtain ⟨rv,hr2,k2⟩:=yld i _ v H2 hx y
   have nxt:∀ {τ4:St3} {G4:Gp} {σ4:L2.St} {H4:Hp} {ys4:List T} {vs4:List V},Rel K τ4 G4 σ4 H4->Kp G1 H1 G4 H4->H4 D=some (.lst vs4)->Rps K H4 ys4 vs4->G4 D=none->RV stay g tif te q (items.drop (i+1)) ys4 τ4 G4 ->
     ∃ n',n'<items.length-i/\(n'=items.length-(i+1)/\i+1<=items.length/\∃ τ' G' ys vs,Rel K τ' G' σ4 H4/\Kp G1 H1 G' H4/\H4 D=some (.lst vs)/\Rps K H4 ys vs/\G' D=none/\RV stay g tif te q (items.drop (i+1)) ys τ' G'):=
    fun {τ4 G4 σ4 H4 ys4 vs4} a b c d e f=>⟨_,by omega,rfl,hlt,τ4,G4,ys4,vs4,a,b,c,d,e,f⟩
   refine ⟨_,τ',G',_,rv,rl'.next hr2 k2,h',fun τ3 G3 h3 σ3 H3 rl3 k3=>⟨τ3,G3,_,rl3,h3,fun k G4 h4 H4 hr4 k4=>?_⟩⟩
   have kk:=(k2.trans k3).trans k4
   obtain ⟨hD4,gD4⟩:=kk D _ hDl gD'
   have rys4:=rys.keep rl'.hp kk
   cases k with
   |false=>
    rw [if_neg Bool.false_ne_true] at h4
    refine qnY ?_
    exact nxt (rl3.next hr4 k4) (k'.trans kk) hD4 rys4 gD4 h4
   |true=>
    rw [if_pos rfl] at h4
    refine qn3 ?_
    refine ⟨τ3,G4,_,rl3.next hr4 k4,h4,fun z G5 h5 w H5 rw5 hr5 k5=>?_⟩
    obtain ⟨hD5,gD5⟩:=k5 D _ hD4 gD4
    have rys5:=rys4.keep hr4 k5
    exact ⟨vs,hD5,by rw [← rys.length];exact h5.1,nxt (((rl3.next hr4 k4).next hr5 k5).wrD hD5 gD5) (((k'.trans kk).trans k5).wrD hD) zj ((rys5.append (.cons rw5 .nil)).wrD hD5) gD5 h5.2⟩
  ·have e:i=items.length:=by omega
   subst e
   rw [List.drop_length] at h'
   obtain ⟨_,_,stop⟩:=ok G' H' rl'.hp k' h'.1
   refine .inl ⟨stop,af _ _ (h'.2 D gD') _ H' (.ref D) (fun a o e=>?_) fun a o e ga=>?_⟩
   ·by_cases ha:a=D
    ·subst ha
     rw [qw] at e;cases e
     exact ⟨vs,hDl,rys⟩
    ·rw [jF ha] at e
     exact rl'.hp a o e
   ·obtain ⟨e1,g1⟩:=k1 a o e ga
    obtain ⟨e2,g2⟩:=k' a o e1 g1
    exact ⟨e2,by rw [jF (qD e1 hD)];exact g2⟩
theorem qhP {X:Cx} {py spos:Pos} {elt tg iter:Expr} {ifs:List Expr} {scope:Scope} {pos:Pos} {y:Str} (i:Nat) (N':List Str) (m:List (Option Nat)) {wi:TI3} {g:TG3} {tif:TT3} {te:TE3} (hc:X.calm=true) (hN:X.N.Nodup) (hi:I3 X tg iter wi)
  (hg:∀ s H fp,G3 (qq X N' scope s H fp) tg g) (hf:∀ s H fp,F3 (qq X N' scope s H fp) ifs tif) (he:∀ s H fp,E3 (qq X N' scope s H fp) elt te)
  (hsc:qbu X.env.scope scope=true) (hcap:U4 X.N N' scope m=true) (hl:X.env.scope.names.lookup y=some .local) (hsw:swapsWith (.ListComp elt [⟨tg,iter,ifs,0⟩] scope pos) (some (.Name y py)) spos.line X.env=pure true) (hiy:X.N[i]?=some y:=by rfl) (hs:∀ x,foldedSetIterable iter X.env x=pure x:=by intro _;rfl) :
  S3 X (.Assign [.Name y py] (.ListComp elt [⟨tg,iter,ifs,0⟩] scope pos) spos) (qH (lc3 wi g tif te m) (gn3 i)):=
 qdB (qed (g:=lG X.K g) (tif:=lT X.K tif) (te:=lE X.K te) hc hN hi hg hf he hsc hcap hs hiy hl hsw) fun _ σ H ⟨τ,G,d,rl,h,af⟩=>
  qpN ⟨τ,G,_,rl,h,fun x G1 h1 v H1 rx hr1 k1=>af.nx _ G1 h1 _ H1 ((rl.next hr1 k1).set i rx) k1⟩
end L3
set_option autoImplicit true
namespace L3
open PySem PySem.Spec PyProof.Rows L2
structure jE3 (X:Cx) (e:Expr) (t:TE3):Prop where h:E3 X e t
structure jC3 (X:Cx) (e:Expr) (t:TT3):Prop where h:C3 X e t
structure jW3 (X:Cx) (e:Expr) (t:TT3):Prop where h:W3 X e t
structure jA3 (X:Cx) (e:List Expr) (t:TA3):Prop where h:A3 X e t
structure jP3 (X:Cx) (e:Option Expr) (t:TO3):Prop where h:P3 X e t
structure jS3 (X:Cx) (e:Stmt) (t:TS3):Prop where h:S3 X e t
structure jB3 (X:Cx) (e:List Stmt) (t:TS3):Prop where h:B3 X e t
structure jG3 (X:Cx) (e:Expr) (t:TG3):Prop where h:G3 X e t
structure jGs3 (X:Cx) (e:List Expr) (t:MC):Prop where h:Gs3 X e t
structure jI3 (X:Cx) (tg e:Expr) (t:TI3):Prop where h:I3 X tg e t
structure jF3 (X:Cx) (e:List Expr) (t:TT3):Prop where h:F3 X e t
theorem qb {X:Cx} (i:Nat) {x:Str} {pos:Pos} (hN:X.N[i]?=some x:=by rfl) (hv:Vis X.env.scope x:=by first|exact Or.inl rfl|exact Or.inr (Or.inl rfl)|exact Or.inr (Or.inr rfl)) (hd:(x==("__debug__" : Str))=false:=by decide)
  (hcd:(x==("__classdict__" : Str))=false:=by decide):jE3 X (.Name x pos) (v3 i):=
 ⟨qpz (i:=i) (hN:=hN) (hv:=hv) (hd:=hd) (hcd:=hcd)⟩
theorem qd {X:Cx} {i:Int} {j pos}:jE3 X (.Constant (.int i) j pos) (c3 (.int i)):=
 ⟨qoI ⟩
theorem qcs {X:Cx} {b:Bool} {j pos}:jE3 X (.Constant (.bool b) j pos) (c3 (.bl b)):=
 ⟨qqK ⟩
theorem CM {X:Cx} {j pos}:jE3 X (.Constant .none j pos) (c3 .non):=
 ⟨qo5 ⟩
theorem qG {X:Cx} {x:Str} {j pos}:jE3 X (.Constant (.str x) j pos) (c3 (.str x)):=
 ⟨qot ⟩
theorem QM {ta:TE3} {tb:TE3} {pos:Pos} {a:Expr} {b:Expr} {X:Cx} {op:CmpOp} {r3:R3} {r:R2} (ho:OpR X (compareOp op) r) (hr:CY X.K r3 r) (ha:jE3 X a ta) (hb:jE3 X b tb) (hm:behindInMarks op b=false):jE3 X (.Compare a [op] [b] pos) (o3 r3 ta tb):=
 ⟨qpb (ho:=ho) (hr:=hr) (ha:=ha.h) (hb:=hb.h) (hm:=hm)⟩
theorem qC {ta:TE3} {tb:TE3} {pos:Pos} {a:Expr} {b:Expr} {X:Cx} {op:CmpOp} {r3:R3} {r:R2} (ho:OpR X (compareOp op) r) (hr:CY X.K r3 r) (ha:jE3 X a ta) (hb:jE3 X b tb) (hm:behindInMarks op b=false):jC3 X (.Compare a [op] [b] pos) (tb3 (o3 r3 ta tb)):=
 ⟨qo1 (ho:=ho) (hr:=hr) (ha:=ha.h) (hb:=hb.h) (hm:=hm)⟩
theorem qax {ta:TE3} {tb:TE3} {tc:TE3} {pos:Pos} {a:Expr} {b:Expr} {c:Expr} {X:Cx} {op op':CmpOp} {r3 r3':R3} {r r':R2} (ho:OpR X (compareOp op) r) (hr:CY X.K r3 r) (ho':OpR X (compareOp op') r') (hr':CY X.K r3' r') (ha:jE3 X a ta) (hb:jE3 X b tb) (hc:jE3 X c tc)
  (hm:lastMarks [op,op'] [b,c]=false:=by with_unfolding_all rfl):jE3 X (.Compare a [op,op'] [b,c] pos) (ch3 r3 r3' ta tb tc):=
 ⟨qij (ho:=ho) (hr:=hr) (ho':=ho') (hr':=hr') (ha:=ha.h) (hb:=hb.h) (hc:=hc.h) (hm:=hm)⟩
theorem SU {ta:TE3} {tb:TE3} {pos:Pos} {a:Expr} {b:Expr} {X:Cx} (ha:jE3 X a ta) (hb:jE3 X b tb):jE3 X (.BinOp a .Sub b pos) (o3 (iI (·-·)) ta tb):=
 ⟨qpQ (ha:=ha.h) (hb:=hb.h)⟩
theorem zm {ta:TE3} {tb:TE3} {pos:Pos} {a:Expr} {b:Expr} {X:Cx} (ha:jE3 X a ta) (hb:jE3 X b tb):jE3 X (.BinOp a .Mult b pos) (o3 (iC ZF (·*·)) ta tb):=
 ⟨qoK (ha:=ha.h) (hb:=hb.h)⟩
theorem j0 {ta:TE3} {tb:TE3} {pos:Pos} {a:Expr} {b:Expr} {X:Cx} (ha:jE3 X a ta) (hb:jE3 X b tb):jE3 X (.BinOp a .Mod b pos) (o3 (iC (fun _ j=>0<j) (·%·)) ta tb):=
 ⟨qoe (ha:=ha.h) (hb:=hb.h)⟩
theorem UO {ta:TE3} {tb:TE3} {pos:Pos} {a:Expr} {b:Expr} {X:Cx} (ha:jE3 X a ta) (hb:jE3 X b tb):jE3 X (.BinOp a .FloorDiv b pos) (o3 (iC qbs (·/·)) ta tb):=
 ⟨qpI (ha:=ha.h) (hb:=hb.h)⟩
theorem qj3 {ta:TE3} {tb:TE3} {pos:Pos} {a:Expr} {b:Expr} {X:Cx} (ha:jE3 X a ta) (hb:jE3 X b tb):jE3 X (.BinOp a .Pow b pos) (o3 (iC qa7 (fun i j=>i ^ j.toNat)) ta tb):=
 ⟨qoq (ha:=ha.h) (hb:=hb.h)⟩
theorem KI {ta:TE3} {tb:TE3} {pos:Pos} {a:Expr} {b:Expr} {X:Cx} (ha:jE3 X a ta) (hb:jE3 X b tb):jE3 X (.BinOp a .BitAnd b pos) (o3 (iI Builtin.bitAnd) ta tb):=
 ⟨qkU (ha:=ha.h) (hb:=hb.h)⟩
theorem N4 {ta:TE3} {tb:TE3} {pos:Pos} {a:Expr} {b:Expr} {X:Cx} (ha:jE3 X a ta) (hb:jE3 X b tb):jE3 X (.BinOp a .LShift b pos) (o3 (iC qa7 (fun i j=>i*2 ^ j.toNat)) ta tb):=
 ⟨qpM (ha:=ha.h) (hb:=hb.h)⟩
theorem qjY {ta:TE3} {tb:TE3} {pos:Pos} {a:Expr} {b:Expr} {X:Cx} (ha:jE3 X a ta) (hb:jE3 X b tb):jE3 X (.BinOp a .RShift b pos) (o3 (iC (fun _ j=>0<=j) (fun i j=>i/2 ^ j.toNat)) ta tb):=
 ⟨qpn (ha:=ha.h) (hb:=hb.h)⟩
theorem XB {ta:TE3} {pos:Pos} {a:Expr} {X:Cx} (ha:jE3 X a ta):jE3 X (.UnaryOp .USub a pos) (u3 Z5 ta):=
 ⟨qpL (ha:=ha.h)⟩
theorem qir {tA:TT3} {pos:Pos} {a:Expr} {X:Cx} (ha:jC3 X a tA):jW3 X (.BoolOp .And [a] pos) tA:=
 ⟨qj4 (ha:=ha.h)⟩
theorem qay {tA:TT3} {pos:Pos} {a:Expr} {X:Cx} (ha:jC3 X a tA):jW3 X (.BoolOp .Or [a] pos) tA:=
 ⟨qpi (ha:=ha.h)⟩
theorem qjd {ZP:List Expr} {tA:TT3} {tB:TT3} {pos:Pos} {a:Expr} {X:Cx} (ha:jC3 X a tA) (hb:jW3 X (.BoolOp .And (b::ZP) pos) tB):jW3 X (.BoolOp .And (a::b::ZP) pos) (UH tA tB):=
 ⟨qow (ha:=ha.h) (hb:=hb.h)⟩
theorem qd3 {ZP:List Expr} {tA:TT3} {tB:TT3} {pos:Pos} {a:Expr} {X:Cx} (ha:jC3 X a tA) (hb:jW3 X (.BoolOp .Or (b::ZP) pos) tB):jW3 X (.BoolOp .Or (a::b::ZP) pos) (or3 tA tB):=
 ⟨qrh (ha:=ha.h) (hb:=hb.h)⟩
theorem qad {tA:TT3} {pos:Pos} {a:Expr} {X:Cx} (ha:jC3 X a tA):jC3 X (.UnaryOp .Not a pos) (YT tA):=
 ⟨qoW (ha:=ha.h)⟩
theorem XJ {X:Cx} {e:Expr} {t:TE3} (h:jE3 X e t) (he:∀ whole,isTrue e X.env whole=(do let v←whole;standAt e.pos;holding [v] (truthy v)):=by intro _;rfl):jC3 X e (tb3 t):=
 ⟨qpR (h:=h.h) (he:=he)⟩
theorem DQ {ta:TE3} {pos:Pos} {a:Expr} {X:Cx} {op} (h:jE3 X a ta):jE3 X (.BoolOp op [a] pos) ta:=
 ⟨qpJ (h:=h.h)⟩
theorem JP {ZP:List Expr} {ta:TE3} {tb:TE3} {pos:Pos} {a:Expr} {X:Cx} (ha:jE3 X a ta) (hb:jE3 X (.BoolOp .And (b::ZP) pos) tb):jE3 X (.BoolOp .And (a::b::ZP) pos) (zb ta tb):=
 ⟨qpr (ha:=ha.h) (hb:=hb.h)⟩
theorem qf6 {ta:TE3} {pos:Pos} {a:Expr} {X:Cx} (ha:jE3 X a ta):jE3 X (.UnaryOp .Not a pos) (jg ta):=
 ⟨qpl (ha:=ha.h)⟩
theorem qlt {tA:TT3} {ta:TE3} {tb:TE3} {pos:Pos} {a:Expr} {b:Expr} {X:Cx} {c:Expr} (hc:jC3 X c tA) (ha:jE3 X a ta) (hb:jE3 X b tb):jE3 X (.IfExp c a b pos) (if3 tA ta tb):=
 ⟨qqP (hc:=hc.h) (ha:=ha.h) (hb:=hb.h)⟩
theorem qe {X:Cx} :jA3 X [] qh:=
 ⟨qpP ⟩
theorem qa {te:TE3} {t:TA3} {es:List Expr} {X:Cx} (ha:jE3 X e te) (hr:jA3 X es t) (hs:starEach (e::es) X.env=(false,eval e X.env)::starEach es X.env:=by rfl):jA3 X (e::es) (qc te t):=
 ⟨qjz (ha:=ha.h) (hr:=hr.h) (hs:=hs)⟩
theorem qy {t:TA3} {pos:Pos} {es:List Expr} {X:Cx} {x1} (h:jA3 X es t):jE3 X (.Tuple es x1 pos) (qU t):=
 ⟨qoV (h:=h.h)⟩
theorem jp {t:TA3} {pos:Pos} {es:List Expr} {X:Cx} (h:jA3 X es t):jE3 X (.List es pos) (zV t):=
 ⟨qpj (h:=h.h)⟩
theorem qI {t:TA3} {pos:Pos} {es:List Expr} {X:Cx} {x:Str} {p:Pos} {id:String} {r3:List T->Gp->Q3->Prop} {r:List V->Hp->VK->Prop} (hc:JN X (.builtin id) r) (hr:M7 X.K r3 r) (hg:Gl X x) (hm:X.mg x=none) (hv:bootBuiltins x=some (.builtin id)) (ha:jA3 X (e::es) t) (hn:x≠"__name__" := by decide) (hdb:(x==("__debug__" : Str))=false:=by decide)
  (he:starEach (e::es) X.env=(false,eval e X.env)::starEach es X.env:=by rfl) (hpl:(backTo pos (starEach es X.env)).any (·.1)=false:=by rfl):jE3 X (.Call (.Name x p) (e::es) [] pos) (cb3 r3 t):=
 ⟨qhq (hc:=hc) (hr:=hr) (hg:=hg) (hm:=hm) (hv:=hv) (ha:=ha.h) (hn:=hn) (hdb:=hdb) (he:=he) (hpl:=hpl)⟩
theorem zi {t:TA3} {pos:Pos} {es:List Expr} {X:Cx} {x:Str} {p:Pos} {ty:String} {r3:List T->Gp->Q3->Prop} {r:List V->Hp->VK->Prop} (hc:JN X (.type ty) r) (hr:M7 X.K r3 r) (hg:Gl X x) (hm:X.mg x=none) (hv:bootBuiltins x=some (.type ty)) (ha:jA3 X (e::es) t) (hn:x≠"__name__" := by decide) (hdb:(x==("__debug__" : Str))=false:=by decide)
  (he:starEach (e::es) X.env=(false,eval e X.env)::starEach es X.env:=by rfl) (hpl:(backTo pos (starEach es X.env)).any (·.1)=false:=by rfl):jE3 X (.Call (.Name x p) (e::es) [] pos) (cb3 r3 t):=
 ⟨qee (hc:=hc) (hr:=hr) (hg:=hg) (hm:=hm) (hv:=hv) (ha:=ha.h) (hn:=hn) (hdb:=hdb) (he:=he) (hpl:=hpl)⟩
theorem qs {ta:TE3} {tb:TE3} {pos:Pos} {a:Expr} {b:Expr} {X:Cx} (ha:jE3 X a ta) (hb:jE3 X b tb) (hs:WZ b:=by intro _ _;rfl):jE3 X (.Subscript a b pos) (o3 ix3 ta tb):=
 ⟨qqM (ha:=ha.h) (hb:=hb.h) (hs:=hs)⟩
theorem MU {X:Cx} :jP3 X none np3:=
 ⟨qlJ ⟩
theorem U8 {te:TE3} {e:Expr} {X:Cx} (h:jE3 X e te):jP3 X (some e) (sp3 te):=
 ⟨qkd (h:=h.h)⟩
theorem DT {te:TE3} {pos:Pos} {e:Expr} {X:Cx} {lo hi:Option Expr} {tl th:TO3} {p2:Pos} (he:jE3 X e te) (hl:jP3 X lo tl) (hu:jP3 X hi th):jE3 X (.Subscript e (.Slice lo hi none p2) pos) (Z8 te tl th):=
 ⟨qhl (he:=he.h) (hl:=hl.h) (hu:=hu.h)⟩
theorem qx {ta:TE3} {tb:TE3} {pos:Pos} {a:Expr} {b:Expr} {X:Cx} (ha:jE3 X a ta) (hb:jE3 X b tb):jE3 X (.BinOp a .Add b pos) (o3 qW ta tb):=
 ⟨qmn (ha:=ha.h) (hb:=hb.h)⟩
theorem CL {t:TA3} {e:Expr} {X:Cx} {o:Expr} {to:TE3} {apos cpos:Pos} (ho:jE3 X o to) (ha:jA3 X [e] t)
  (hbase:attributeBase o "append" X.env (eval o X.env)=eval o X.env:=by rfl)
  (hfew:((backTo cpos (starEach [e] X.env)).all (fun x=>!x.1)&&(backToKw cpos (keywordEach [] X.env)).all (fun x=>x.1.isSome)
   && decide (([e]:List Expr).length+([]:List Keyword).length+(if ([]:List Keyword).isEmpty then 0 else 1)<30))=true:=by rfl)
  (hline:(apos.endLine==cpos.line)=true:=by rfl) (hs:starEach [e] X.env=(false,eval e X.env)::starEach [] X.env:=by rfl) (hplain:(backTo cpos (starEach [] X.env)).any (·.1)=false:=by rfl):jE3 X (.Call (.Attribute o "append" apos) [e] [] cpos) (bm3 YQ to t):=
 ⟨qdS (ho:=ho.h) (ha:=ha.h) (hbase:=hbase) (hfew:=hfew) (hline:=hline) (hs:=hs) (hplain:=hplain)⟩
theorem K5 {t:TA3} {e:Expr} {X:Cx} {o:Expr} {to:TE3} {apos cpos:Pos} (ho:jE3 X o to) (ha:jA3 X [e] t)
  (hbase:attributeBase o "extend" X.env (eval o X.env)=eval o X.env:=by rfl)
  (hfew:((backTo cpos (starEach [e] X.env)).all (fun x=>!x.1)&&(backToKw cpos (keywordEach [] X.env)).all (fun x=>x.1.isSome)
   && decide (([e]:List Expr).length+([]:List Keyword).length+(if ([]:List Keyword).isEmpty then 0 else 1)<30))=true:=by rfl)
  (hline:(apos.endLine==cpos.line)=true:=by rfl) (hs:starEach [e] X.env=(false,eval e X.env)::starEach [] X.env:=by rfl) (hplain:(backTo cpos (starEach [] X.env)).any (·.1)=false:=by rfl):jE3 X (.Call (.Attribute o "extend" apos) [e] [] cpos) (bm3 YW to t):=
 ⟨qes (ho:=ho.h) (ha:=ha.h) (hbase:=hbase) (hfew:=hfew) (hline:=hline) (hs:=hs) (hplain:=hplain)⟩
theorem VJ {te:TE3} {pos:Pos} {e:Expr} {X:Cx} {tn:Str} {ty:String} {p p2:Pos} (he:jE3 X e te) (hg:Gl X "isinstance") (hm:X.mg "isinstance" = none) (hg2:Gl X tn) (hm2:X.mg tn=none) (hv:bootBuiltins tn=some (.type ty)) (hmem:ty∈ZE:=by decide) (hn:tn≠"__name__" := by decide) (hdb:(tn==("__debug__" : Str))=false:=by decide)
  (hs:starEach [e,.Name tn p2] X.env=(false,eval e X.env)::starEach [.Name tn p2] X.env:=by rfl) (hs2:starEach [.Name tn p2] X.env=(false,eval (.Name tn p2) X.env)::starEach [] X.env:=by rfl) (hpl:(backTo pos (starEach [.Name tn p2] X.env)).any (·.1)=false:=by rfl):jE3 X (.Call (.Name "isinstance" p) [e,.Name tn p2] [] pos) (QT (fun t=>jn t ty) te):=
 ⟨qpt (he:=he.h) (hg:=hg) (hm:=hm) (hg2:=hg2) (hm2:=hm2) (hv:=hv) (hmem:=hmem) (hn:=hn) (hdb:=hdb) (hs:=hs) (hs2:=hs2) (hpl:=hpl)⟩
theorem qbK {te:TE3} {pos:Pos} {e:Expr} {X:Cx} {tn tn':Str} {ty ty':String} {p p2 p3 p4:Pos} {x1} (he:jE3 X e te) (hg:Gl X "isinstance") (hm:X.mg "isinstance" = none) (hg2:Gl X tn) (hm2:X.mg tn=none) (hv:bootBuiltins tn=some (.type ty)) (hg3:Gl X tn') (hm3:X.mg tn'=none) (hv3:bootBuiltins tn'=some (.type ty'))
  (hmem:ty∈ZE:=by decide) (hn:tn≠"__name__" := by decide) (hdb:(tn==("__debug__" : Str))=false:=by decide) (hmem3:ty'∈ZE:=by decide) (hn3:tn'≠"__name__" := by decide) (hdb3:(tn'==("__debug__" : Str))=false:=by decide)
  (hs:starEach [e,.Tuple [.Name tn p2,.Name tn' p3] x1 p4] X.env=(false,eval e X.env)::starEach [.Tuple [.Name tn p2,.Name tn' p3] x1 p4] X.env:=by rfl) (hs2:starEach [.Tuple [.Name tn p2,.Name tn' p3] x1 p4] X.env=(false,eval (.Tuple [.Name tn p2,.Name tn' p3] x1 p4) X.env)::starEach [] X.env:=by rfl)
  (hs3:starEach [.Name tn p2,.Name tn' p3] X.env=(false,eval (.Name tn p2) X.env)::starEach [.Name tn' p3] X.env:=by rfl) (hs4:starEach [.Name tn' p3] X.env=(false,eval (.Name tn' p3) X.env)::starEach [] X.env:=by rfl)
  (hpl:(backTo pos (starEach [.Tuple [.Name tn p2,.Name tn' p3] x1 p4] X.env)).any (·.1)=false:=by rfl):jE3 X (.Call (.Name "isinstance" p) [e,.Tuple [.Name tn p2,.Name tn' p3] x1 p4] [] pos) (QT (fun t=>jn t ty||jn t ty') te):=
 ⟨qnG (he:=he.h) (hg:=hg) (hm:=hm) (hg2:=hg2) (hm2:=hm2) (hv:=hv) (hg3:=hg3) (hm3:=hm3) (hv3:=hv3) (hmem:=hmem) (hn:=hn) (hdb:=hdb) (hmem3:=hmem3) (hn3:=hn3) (hdb3:=hdb3) (hs:=hs) (hs2:=hs2) (hs3:=hs3) (hs4:=hs4) (hpl:=hpl)⟩
theorem qJ {X:Cx} :jB3 X [] qt:=
 ⟨qpA ⟩
theorem qf {ZP:List Stmt} {st:Stmt} {t1:TS3} {t2:TS3} {X:Cx} (h1:jS3 X st t1) (h2:jB3 X ZP t2):jB3 X (st::ZP) (qv t1 t2):=
 ⟨qkF (h1:=h1.h) (h2:=h2.h)⟩
theorem ql {st:Stmt} {t1:TS3} {X:Cx} (h1:jS3 X st t1):jB3 X [st] t1:=
 ⟨qpH (h1:=h1.h)⟩
theorem CJ {te:TE3} {pos:Pos} {e:Expr} {X:Cx} (he:jE3 X e te) (hs:swapsWith e none pos.line X.env=pure false:=by rfl):jS3 X (.Expr e pos) (zE te):=
 ⟨qli (he:=he.h) (hs:=hs)⟩
theorem qp {te:TE3} {pos:Pos} {e:Expr} {X:Cx} (he:jE3 X e te):jS3 X (.Return (some e) pos) (qB te):=
 ⟨qod (he:=he.h)⟩
theorem zl {tA:TT3} {t1:TS3} {t2:TS3} {pos:Pos} {X:Cx} {c:Expr} {ba bb:List Stmt} (hc:jC3 X c tA) (ha:jB3 X ba t1) (hb:jB3 X bb t2):jS3 X (.If c ba bb pos) (qV tA t1 t2):=
 ⟨qq6 (hc:=hc.h) (ha:=ha.h) (hb:=hb.h)⟩
theorem qdO {X:Cx} {sts:List Stmt}:jB3 X sts UK:=
 ⟨qip ⟩
theorem qr {pos:Pos} {X:Cx} {i:Nat} {x:Str} (hN:X.N.Nodup) (hi:X.N[i]?=some x:=by rfl) (hx:Loc X.env.scope x:=by first|exact Or.inl rfl|exact Or.inr rfl) (hf:X.fn x=true\/X.env.scope.names.lookup x=some .local:=by first|exact .inl rfl|exact .inr rfl):jG3 X (.Name x pos) (gn3 i):=
 ⟨qly (hN:=hN) (hi:=hi) (hx:=hx) (hf:=hf)⟩
theorem zF {X:Cx} :jGs3 X [] qL:=
 ⟨qos ⟩
theorem qo {es:List Expr} {X:Cx} {tg:TG3} {tgs:MC} (h1:jG3 X e tg) (h2:jGs3 X es tgs) (hs:(assignEach (e::es) X.env).map (·.2)=assign e X.env::(assignEach es X.env).map (·.2):=by rfl):jGs3 X (e::es) (qj tg tgs):=
 ⟨qnD (h1:=h1.h) (h2:=h2.h) (hs:=hs)⟩
theorem zG {pos:Pos} {es:List Expr} {X:Cx} {k:Nat} {tgs:MC} {n:Nat} (hc:X.calm=true) (h:jGs3 X es tgs) (hn:(assignEach es X.env).length=n:=by rfl) (hst:(assignEach es X.env).findIdx? (·.1)=none:=by rfl):jG3 X (.Tuple es k pos) (qM n tgs):=
 ⟨qoH (hc:=hc) (h:=h.h) (hn:=hn) (hst:=hst)⟩
theorem qeP {pos : Pos} {X : Cx} {o i : Expr} {to ti : TE3} (ho : jE3 X o to) (hi : jE3 X i ti) (ha : ∀ v,assign (.Subscript o i pos) X.env v = (do
      let ov←holding [v] (eval o X.env)
      let iv←holding [v,ov] (eval i X.env)
      standAt pos
      holding [v,ov,iv] (setItem ov iv v)
      release [v,ov,iv] []):=by intro _;rfl):jG3 X (.Subscript o i pos) (zO to ti):=
  ⟨qoi (ho:=ho.h) (hi:=hi.h) (ha:=ha)⟩
theorem jy {te:TE3} {pos:Pos} {X:Cx} {tg e:Expr} {g:TG3} (he:jE3 X e te) (hg:jG3 X tg g) (hs:swapsWithSole [tg] e pos.line X.env=pure false:=by rfl) (hw:swappedStores [tg] e X.env=pure none:=by rfl)
  (h1:(assignEach [tg] X.env).map (·.2)=[assign tg X.env]:=by rfl):jS3 X (.Assign [tg] e pos) (qH te g):=
 ⟨qpo (he:=he.h) (hg:=hg.h) (hs:=hs) (hw:=hw) (h1:=h1)⟩
theorem qK {te:TE3} {pos:Pos} {X:Cx} (i:Nat) {x:Str} {e:Expr} {pos':Pos} (hN:X.N.Nodup) (he:jE3 X e te) (hi:X.N[i]?=some x:=by rfl) (hx:Loc X.env.scope x:=by first|exact Or.inl rfl|exact Or.inr rfl) (hs:swapsWith e (some (.Name x pos')) pos.line X.env=pure false:=by rfl) (hf:X.fn x=true\/X.env.scope.names.lookup x=some .local:=by first|exact .inl rfl|exact .inr rfl):jS3 X (.Assign [.Name x pos'] e pos) (qH te (gn3 i)):=
 ⟨qog (i:=i) (hN:=hN) (he:=he.h) (hi:=hi) (hx:=hx) (hs:=hs) (hf:=hf)⟩
theorem UM {pos:Pos} {X:Cx} {i j:Nat} {x y:Str} {a b:Expr} {tt:TA3} {px py pt:Pos} {kt k2 pt2} (hc:X.calm=true) (hN:X.N.Nodup) (hi:X.N[i]?=some x) (hj:X.N[j]?=some y) (hij:i≠j)
  (hx:X.env.scope.names.lookup x=some .local) (hy:X.env.scope.names.lookup y=some .local) (ha:jA3 X [a,b] tt)
  (hw:swappedStores [.Tuple [.Name x px,.Name y py] kt pt] (.Tuple [a,b] k2 pt2) X.env=pure (some [x,y]):=by rfl)
  (hs:swapsWithSole [.Tuple [.Name x px,.Name y py] kt pt] (.Tuple [a,b] k2 pt2) pos.line X.env=pure false:=by rfl):jS3 X (.Assign [.Tuple [.Name x px,.Name y py] kt pt] (.Tuple [a,b] k2 pt2) pos) (j7 i j tt):=
 ⟨qpg (hc:=hc) (hN:=hN) (hi:=hi) (hj:=hj) (hij:=hij) (hx:=hx) (hy:=hy) (ha:=ha.h) (hw:=hw) (hs:=hs)⟩
theorem UL {te:TE3} {X:Cx} {tg:Expr} {l:Expr} (hl:jE3 X l te):jI3 X tg l (UG te):=
 ⟨qpf (hl:=hl.h)⟩
theorem qP {t:TA3} {pos:Pos} {a:Expr} {X:Cx} {tg:Expr} {p:Pos} (hg:Gl X "range") (hm:X.mg "range" = none) (ha:jA3 X [a] t) (hs:starEach [a] X.env=[(false,eval a X.env)]:=by rfl) (h1:∀ τ G q,t τ G q->t τ G fun xs G=>q xs G/\xs.length=1):jI3 X tg (.Call (.Name "range" p) [a] [] pos) (zA t):=
 ⟨qd7 (hg:=hg) (hm:=hm) (ha:=ha.h) (hs:=hs) (h1:=h1)⟩
theorem CU {t:TA3} {pos:Pos} {a:Expr} {b:Expr} {X:Cx} {tg:Expr} {p:Pos} (hg:Gl X "range") (hm:X.mg "range" = none) (ha:jA3 X [a,b] t) (hs:starEach [a,b] X.env=[(false,eval a X.env),(false,eval b X.env)]:=by rfl) (hs2:starEach [b] X.env=[(false,eval b X.env)]:=by rfl) (h1:∀ τ G q,t τ G q->t τ G fun xs G=>q xs G/\xs.length=2):jI3 X tg (.Call (.Name "range" p) [a,b] [] pos) (zA t):=
 ⟨qev (hg:=hg) (hm:=hm) (ha:=ha.h) (hs:=hs) (hs2:=hs2) (h1:=h1)⟩
theorem Y9 {pos:Pos} {X:Cx} {tg:Expr} {iter:Expr} {body:List Stmt} {wi:TI3} {g:TG3} {tb:TS3} (hp:PassesOwn (model X.prog X.w) X.A X.env X.xe) (hc:X.calm=true) (hi:jI3 X tg iter wi) (hg:jG3 X tg g) (hb:jB3 X body tb)
  (hs:∀ x,foldedSetIterable iter X.env x=pure x:=by intro _;rfl):jS3 X (.For tg iter body [] pos) (RU wi g tb):=
 ⟨qoQ (hp:=hp) (hc:=hc) (hi:=hi.h) (hg:=hg.h) (hb:=hb.h) (hs:=hs)⟩
theorem T4 {pos:Pos} {X:Cx} {c:Expr} {body:List Stmt} {tc:TT3} {tb:TS3} (hp:PassesOwn (model X.prog X.w) X.A X.env X.xe) (hc:jC3 X c tc) (hb:jB3 X body tb):jS3 X (.While c body [] pos) (XM tc tb):=
 ⟨qg8 (hp:=hp) (hc:=hc.h) (hb:=hb.h)⟩
theorem qg {t:TA3} {pos:Pos} {es:List Expr} {X:Cx} {k:Nat} {x:Str} {p:Pos} {sp:Sp3} (F:Fn3 X.prog X.w X.K X.mg X.base k x sp) (hr:Room k X.A) (hg:Gl X x) (ha:jA3 X (e::es) t) (hdb:(x==("__debug__" : Str))=false:=by decide)
  (he:starEach (e::es) X.env=(false,eval e X.env)::starEach es X.env:=by rfl) (hpl:(backTo pos (starEach es X.env)).any (·.1)=false:=by rfl):jE3 X (.Call (.Name x p) (e::es) [] pos) (cb3 sp t):=
 ⟨qkV (F:=F) (hr:=hr) (hg:=hg) (ha:=ha.h) (hdb:=hdb) (he:=he) (hpl:=hpl)⟩
theorem JF {X:Cx} {elt tg iter:Expr} {ifs:List Expr} {scope:Scope} {pos:Pos} (N':List Str) (m:List (Option Nat)) {wi:TI3} {g:TG3} {tif:TT3} {te:TE3} (hc:X.calm=true) (hi:jI3 X tg iter wi)
  (hg:∀ s H fp,jG3 (qq X N' scope s H fp) tg g) (hf:∀ s H fp,jF3 (qq X N' scope s H fp) ifs tif) (he:∀ s H fp,jE3 (qq X N' scope s H fp) elt te)
  (hsc:qbu X.env.scope scope=true) (hcap:U4 X.N N' scope m=true) (hs:∀ x,foldedSetIterable iter X.env x=pure x:=by intro _;rfl):jE3 X (.ListComp elt [⟨tg,iter,ifs,0⟩] scope pos) (lc3 wi g tif te m):=
 ⟨qqS (N':=N') (m:=m) (hc:=hc) (hi:=hi.h) (hg:=(fun s H fp=>(hg s H fp).h)) (hf:=(fun s H fp=>(hf s H fp).h)) (he:=(fun s H fp=>(he s H fp).h)) (hsc:=hsc) (hcap:=hcap) (hs:=hs)⟩
theorem jj {X:Cx}:jF3 X [] tt3:=
 ⟨qpd ⟩
theorem LX {X:Cx} {c:Expr} {t:TT3} (h:jC3 X c t):jF3 X [c] t:=
 ⟨qpx (h:=h.h)⟩
theorem qeU {t:TA3} {pos:Pos} {es:List Expr} {a:Expr} {b:Expr} {X:Cx} {p pt:Pos} {k1:Nat} (hg:Gl X "zip") (hm:X.mg "zip" = none) (ha:jA3 X [a,b] t) (hs:starEach [a,b] X.env=[(false,eval a X.env),(false,eval b X.env)]:=by rfl) (hs2:starEach [b] X.env=[(false,eval b X.env)]:=by rfl):jI3 X (.Tuple es k1 pt) (.Call (.Name "zip" p) [a,b] [] pos) (qaV t):=
 ⟨qo0 (hg:=hg) (hm:=hm) (ha:=ha.h) (hs:=hs) (hs2:=hs2)⟩
theorem qbP {t:TA3} {pos:Pos} {es:List Expr} {a:Expr} {X:Cx} {p pt:Pos} {k1:Nat} (hg:Gl X "enumerate") (hm:X.mg "enumerate" = none) (ha:jA3 X [a] t) (hs:starEach [a] X.env=[(false,eval a X.env)]:=by rfl):jI3 X (.Tuple es k1 pt) (.Call (.Name "enumerate" p) [a] [] pos) (SZ t):=
 ⟨qnc (hg:=hg) (hm:=hm) (ha:=ha.h) (hs:=hs)⟩
theorem qb2 {te:TE3} {pos:Pos} {e:Expr} {X:Cx} (i:Nat) {x:Str} {pos':Pos} (hN:X.N.Nodup) (he:jE3 X e te) (hi:X.N[i]?=some x:=by rfl) (hx:Loc X.env.scope x:=by first|exact Or.inl rfl|exact Or.inr rfl) (hf:X.fn x=true\/X.env.scope.names.lookup x=some .local:=by first|exact .inl rfl|exact .inr rfl):jS3 X (.AugAssign (.Name x pos') .Add e pos) (UI i (iI (·+·)) te):=
 ⟨qei (i:=i) (hN:=hN) (he:=he.h) (hi:=hi) (hx:=hx) (hf:=hf)⟩
theorem DO {X:Cx} {py spos:Pos} {elt tg iter:Expr} {ifs:List Expr} {scope:Scope} {pos:Pos} {y:Str} (i:Nat) (N':List Str) (m:List (Option Nat)) {wi:TI3} {g:TG3} {tif:TT3} {te:TE3} (hc:X.calm=true) (hN:X.N.Nodup) (hi:jI3 X tg iter wi)
  (hg:∀ s H fp,jG3 (qq X N' scope s H fp) tg g) (hf:∀ s H fp,jF3 (qq X N' scope s H fp) ifs tif) (he:∀ s H fp,jE3 (qq X N' scope s H fp) elt te)
  (hsc:qbu X.env.scope scope=true) (hcap:U4 X.N N' scope m=true) (hl:X.env.scope.names.lookup y=some .local) (hsw:swapsWith (.ListComp elt [⟨tg,iter,ifs,0⟩] scope pos) (some (.Name y py)) spos.line X.env=pure true) (hiy:X.N[i]?=some y:=by rfl) (hs:∀ x,foldedSetIterable iter X.env x=pure x:=by intro _;rfl):jS3 X (.Assign [.Name y py] (.ListComp elt [⟨tg,iter,ifs,0⟩] scope pos) spos) (qH (lc3 wi g tif te m) (gn3 i)):=
 ⟨qhP (i:=i) (N':=N') (m:=m) (hc:=hc) (hN:=hN) (hi:=hi.h) (hg:=(fun s H fp=>(hg s H fp).h)) (hf:=(fun s H fp=>(hf s H fp).h)) (he:=(fun s H fp=>(he s H fp).h)) (hsc:=hsc) (hcap:=hcap) (hl:=hl) (hsw:=hsw) (hiy:=hiy) (hs:=hs)⟩
theorem jpt {X:Cx} {e:Expr} {t:TT3} (h:jW3 X e t):jC3 X e t:=⟨PW.pt h.h⟩
theorem qA {P:Program} {w:World} {K:PySem.W.Frag} {mg:Str->Option Value} {base:Heap} {x qual:Str} {st:Stmt} {f:Addr} {fd:FuncData} {N ps:List Str} {k:Nat} {sp:Sp3} {t3:TS3} (F:Fun K x qual st f fd) (S:FnScope N ps (qi st)) (bd:zd K fd ps []) (hm:mg x=some (.ref f))
  (body:∀ (cdv:Value) (A:Around) (outer:List Env) (s:Shared) (H:Hp) (E:XK),Room k (A.deeper (envOfC qual (qi st) s.heap.objs.size f cdv)) ->
   jB3 (qdC CX0 P w K mg base N qual (qi st) f cdv A outer s H E).nox (jQ st) t3)
  (read:∀ ts G q,sp ts G q->ts.length=ps.length/\t3 { nx:=fun _ G'=>q .non G',rt:=q } (qk N ts) G):Fn3 P w K mg base (k+1) x sp:=
 qml F S bd hm (fun cdv A outer s H E hr=>(body cdv A outer s H E hr).h) read
theorem qem {P:Program} {w:World} {K:PySem.W.Frag} {mg:Str->Option Value} {base:Heap} {x qual:Str} {st:Stmt} {f:Addr} {fd:FuncData} {N ps:List Str} {k:Nat} {sp:Sp3} {t3:TS3} (F:Fun K x qual st f fd) (S:FnScope N ps (qi st))
  (body:∀ (cdv:Value) (A:Around) (outer:List Env) (s:Shared) (H:Hp) (E:XK),Room k (A.deeper (envOfC qual (qi st) s.heap.objs.size f cdv)) ->
   jB3 (qdC CX0 P w K mg base N qual (qi st) f cdv A outer s H E).nox (jQ st) t3)
  (read:∀ ts G q,sp ts G q->ts.length=ps.length/\t3 { nx:=fun _ G'=>q .non G',rt:=q } (qk N ts) G):FnOk P w K mg base CX0 (k+1) f fd ps (lSp K sp):=
 qh4 F S (fun cdv A outer s H E hr=>(body cdv A outer s H E hr).h) read
open PySem.SeqAt
def Ex (G G':Gp):Prop:=∀ b o,G b=some o->G' b=some o
theorem Ex.refl {G:Gp}:Ex G G:=fun _ _ e=>e
theorem Ex.trans {G G1 G2:Gp} (a:Ex G G1) (b:Ex G1 G2):Ex G G2:=fun x o e=>b x o (a x o e)
theorem QN {G:Gp} {p:Addr} {o:O} (hp:G p=none):Ex G (gu G p o):=fun b ob e=>by
 rw [jF (by rintro rfl;rw [hp] at e;cases e)];exact e
mutual
inductive Dp (G:Gp):T->PyData->Prop
 |non:Dp G .non .none
 |bl (b:Bool):Dp G (.bl b) (.bool b)
 |int (i:Int):Dp G (.int i) (.int i)
 |str (x:Str):Dp G (.str x) (.str x)
 |tup {xs:List T} {ds:List PyData}:Dps G xs ds->Dp G (.tup xs) (.tuple ds)
 |lst {p:Addr} {xs:List T} {ds:List PyData}:getL G p=some xs->Dps G xs ds->Dp G (.ref p) (.list ds)
inductive Dps (G:Gp):List T->List PyData->Prop
 |nil:Dps G [] []
 |cons {x:T} {d:PyData} {xs:List T} {ds:List PyData}:Dp G x d->Dps G xs ds->Dps G (x::xs) (d::ds)
end
theorem Ex.getL {G G':Gp} (e:Ex G G') {p:Addr} {xs:List T} (h:getL G p=some xs):getL G' p=some xs:=by
 unfold L3.getL at h ⊢
 split at h
 ·rename_i ys g;cases h;rw [e _ _ g]
 ·rename_i ys g;cases h;rw [e _ _ g]
 ·cases h
mutual
theorem Dp.up {G G':Gp} (e:Ex G G'):∀ {x:T} {d:PyData},Dp G x d->Dp G' x d
 |_,_,.non=>.non
 |_,_,.bl b=>.bl b
 |_,_,.int i=>.int i
 |_,_,.str x=>.str x
 |_,_,.tup h=>.tup (Dps.up e h)
 |_,_,.lst h1 h2=>.lst (e.getL h1) (Dps.up e h2)
theorem Dps.up {G G':Gp} (e:Ex G G'):∀ {x:List T} {d:List PyData},Dps G x d->Dps G' x d
 |_,_,.nil=>.nil
 |_,_,.cons a b=>.cons (Dp.up e a) (Dps.up e b)
end
theorem Dps.length {G:Gp}:∀ {xs:List T} {ds:List PyData},Dps G xs ds->xs.length=ds.length
 |_,_,.nil=>rfl
 |_,_,.cons _ b=>by simp [Dps.length b]
theorem Dps.get {G:Gp}:∀ {xs:List T} {ds:List PyData} {i:Nat} {x:T},Dps G xs ds->xs[i]?=some x->∃ d,ds[i]?=some d/\Dp G x d
 |_,_,_,_,.nil,e=>by simp at e
 |_,_,0,_,.cons r _,e=>by simp at e;subst e;exact ⟨_,rfl,r⟩
 |_,_,i+1,x,.cons _ t,e=>by
  obtain ⟨u,h1,h2⟩:=Dps.get (i:=i) (x:=x) t (by simpa using e)
  exact ⟨u,by simpa using h1,h2⟩
mutual
inductive DV (K:PySem.W.Frag) (H:Hp):V->PyData->Prop
 |non:DV K H .non .none
 |bl (b:Bool):DV K H (.bl b) (.bool b)
 |int (i:Int):DV K H (.int i) (.int i)
 |str (x:Str):DV K H (.str x) (.str x)
 |tup {a:Addr} {vs:List V} {ds:List PyData}:SqT K H a vs->DVs K H vs ds->DV K H (.ref a) (.tuple ds)
 |lst {a:Addr} {vs:List V} {ds:List PyData}:SqL K H a vs->DVs K H vs ds->DV K H (.ref a) (.list ds)
inductive DVs (K:PySem.W.Frag) (H:Hp):List V->List PyData->Prop
 |nil:DVs K H [] []
 |cons {x:V} {d:PyData} {xs:List V} {ds:List PyData}:DV K H x d->DVs K H xs ds->DVs K H (x::xs) (d::ds)
end
mutual
theorem Dp.dv {K:PySem.W.Frag} {G:Gp} {H:Hp} (hr:HR K G H):∀ {x:T} {d:PyData} {v:V},Dp G x d->Rp K H x v->DV K H v d
 |_,_,_,.non,.non=>.non
 |_,_,_,.bl b,.bl _=>.bl b
 |_,_,_,.int i,.int _=>.int i
 |_,_,_,.str x,.str _=>.str x
 |_,_,_,.tup h,.tup hs rs=>.tup hs (Dps.dv hr h rs)
 |_,_,_,.lst g h,r=>by
  cases r
  obtain ⟨_,hs,rs⟩:=zT hr g
  exact .lst hs (Dps.dv hr h rs)
theorem Dps.dv {K:PySem.W.Frag} {G:Gp} {H:Hp} (hr:HR K G H):∀ {x:List T} {d:List PyData} {v:List V},Dps G x d->Rps K H x v->DVs K H v d
 |_,_,_,.nil,.nil=>.nil
 |_,_,_,.cons a b,.cons c d=>.cons (Dp.dv hr a c) (Dps.dv hr b d)
end
mutual
def JD:PyData->PyData->Option Bool
 |.none,.none=>some true
 |.bool a,.bool b=>some (a==b)
 |.int a,.int b=>some (a==b)
 |.str a,.str b=>some (a==b)
 |.list xs,.list ys=>ED xs ys
 |.tuple xs,.tuple ys=>ED xs ys
 |_,_=>none
def ED:List PyData->List PyData->Option Bool
 |[],[]=>some true
 |x::xs,y::ys=>match JD x y,ED xs ys with|some a,some b=>some (a&&b)|_,_=>none
 |_,_=>some false
end
mutual
def dpt:PyData->Nat
 |.list xs=>qec xs+1
 |.tuple xs=>qec xs+1
 |_=>0
def qec:List PyData->Nat
 |[]=>0
 |x::xs=>max (dpt x) (qec xs)
end
section
variable {X:Cx} {pins:List (Addr×Obj)} {σ:L2.St} {H:Hp} {s:Shared}
mutual
theorem DV.inj (I:Inv X pins σ H s):∀ {v:V} {d e:PyData},DV X.K H v d->DV X.K H v e->d=e
 |_,_,_,.non,.non=>rfl
 |_,_,_,.bl _,.bl _=>rfl
 |_,_,_,.int _,.int _=>rfl
 |_,_,_,.str _,.str _=>rfl
 |_,_,_,.tup h hs,.tup k ks=>by
  have:=I.tuple_inj h k
  subst this
  rw [DVs.inj I hs ks]
 |_,_,_,.lst h hs,.lst k ks=>by
  have:=I.list_inj h k
  subst this
  rw [DVs.inj I hs ks]
 |_,_,_,.tup h hs,.lst k ks=>by
  obtain ⟨i1,_,p1,_⟩:=I.tuple h
  obtain ⟨i2,_,p2,_⟩:=I.list k
  exact absurd rfl (ne_of_list_tuple p2.isList (show s.heap.IsTuple _ i1.toArray from p1))
 |_,_,_,.lst k ks,.tup h hs=>by
  obtain ⟨i1,_,p1,_⟩:=I.tuple h
  obtain ⟨i2,_,p2,_⟩:=I.list k
  exact absurd rfl (ne_of_list_tuple p2.isList (show s.heap.IsTuple _ i1.toArray from p1))
theorem DVs.inj (I:Inv X pins σ H s):∀ {v:List V} {d e:List PyData},DVs X.K H v d->DVs X.K H v e->d=e
 |_,_,_,.nil,.nil=>rfl
 |_,_,_,.cons a b,.cons c d=>by rw [DV.inj I a c,DVs.inj I b d]
end
mutual
theorem LR:∀ {d:PyData} {b:Bool},JD d d=some b->b=true
 |.none,_,h=>by simp [JD] at h;exact h
 |.bool _,_,h=>by simp [JD] at h;exact h
 |.int _,_,h=>by simp [JD] at h;exact h
 |.str _,_,h=>by simp [JD] at h;exact h
 |.list xs,_,h=>by simp only [JD] at h;exact WT h
 |.tuple xs,_,h=>by simp only [JD] at h;exact WT h
 |.dict _,_,h=>by simp [JD] at h
theorem WT:∀ {d:List PyData} {b:Bool},ED d d=some b->b=true
 |[],_,h=>by simp [ED] at h;exact h
 |x::xs,b,h=>by
  simp only [ED] at h
  split at h
  ·rename_i a c e1 e2
   rw [LR e1,WT e2] at h
   simpa using h.symm
  ·cases h
end
theorem Y0:∀ {xs ys:List PyData} {b:Bool},ED xs ys=some b->xs.length=ys.length->∃ e:Nat->Bool,(∀ (j:Nat) x y,xs[j]?=some x->ys[j]?=some y->JD x y=some (e j))/\b=(List.range xs.length).all e
 |[],[],b,h,_=>by simp [ED] at h;exact ⟨fun _=>true,by simp,by simp [h]⟩
 |x::xs,y::ys,b,h,hl=>by
  simp only [ED] at h
  split at h
  ·rename_i a c e1 e2
   obtain ⟨e,h1,h2⟩:=Y0 e2 (by simpa using hl)
   refine ⟨fun j=>match j with|0=>a|j+1=>e j,fun j u v hu hv=>?_,?_⟩
   ·cases j with
    |zero=>simp at hu hv;subst hu;subst hv;exact e1
    |succ j=>exact h1 j u v (by simpa using hu) (by simpa using hv)
   ·rw [length_cons,List.range_succ_eq_map,List.all_cons,List.all_map]
    cases h
    rw [h2]
    rfl
  ·cases h
 |[],_::_,_,_,hl=>by simp at hl
 |_::_,[],_,_,hl=>by simp at hl
theorem VN:∀ {xs ys:List PyData} {b:Bool},ED xs ys=some b->xs.length≠ys.length->b=false/\∃ e:Nat->Bool,∀ (j:Nat) x y,xs[j]?=some x->ys[j]?=some y->JD x y=some (e j)
 |[],[],_,_,hl=>by simp at hl
 |[],_::_,b,h,_=>by simp [ED] at h;exact ⟨h,fun _=>true,by simp⟩
 |_::_,[],b,h,_=>by simp [ED] at h;exact ⟨h,fun _=>true,by simp⟩
 |x::xs,y::ys,b,h,hl=>by
  simp only [ED] at h
  split at h
  ·rename_i a c e1 e2
   obtain ⟨h0,e,h1⟩:=VN e2 (by simpa using hl)
   subst h0
   refine ⟨by simpa using h.symm,fun j=>match j with|0=>a|j+1=>e j,fun j u v hu hv=>?_⟩
   cases j with
   |zero=>simp at hu hv;subst hu;subst hv;exact e1
   |succ j=>exact h1 j u v (by simpa using hu) (by simpa using hv)
  ·cases h
theorem DN:∀ {xs:List PyData} {x:PyData},x∈xs->dpt x<=qec xs
 |[],_,h=>by simp at h
 |y::ys,x,h=>by
  simp only [qec]
  rcases mem_cons.mp h with e|e
  ·subst e;omega
  ·have:=DN e;omega
theorem DVs.get {K:PySem.W.Frag} {H:Hp}:∀ {xs:List V} {ds:List PyData} {i:Nat} {x:V},DVs K H xs ds->xs[i]?=some x->∃ d,ds[i]?=some d/\DV K H x d
 |_,_,_,_,.nil,e=>by simp at e
 |_,_,0,_,.cons r _,e=>by simp at e;subst e;exact ⟨_,rfl,r⟩
 |_,_,i+1,x,.cons _ t,e=>by
  obtain ⟨u,h1,h2⟩:=DVs.get (i:=i) (x:=x) t (by simpa using e)
  exact ⟨u,by simpa using h1,h2⟩
theorem DVs.length {K:PySem.W.Frag} {H:Hp}:∀ {xs:List V} {ds:List PyData},DVs K H xs ds->xs.length=ds.length
 |_,_,.nil=>rfl
 |_,_,.cons _ b=>by simp [DVs.length b]
theorem VL {vs:List V} {us:List Value} (r:jk vs us) {j:Nat} (h:j<us.toArray.size):∃ v,vs[j]?=some v/\jO v us.toArray[j]:=by
 have hj:j<vs.length:=by rw [r.length];simpa using h
 obtain ⟨u,hu,ru⟩:=r.get (getElem?_eq_getElem hj)
 refine ⟨vs[j],getElem?_eq_getElem hj,?_⟩
 have hj2:j<us.length:=by simpa using h
 rw [getElem?_eq_getElem hj2] at hu
 have:us[j]=u:=Option.some.inj hu
 simpa [this] using ru
theorem KA (I:Inv X pins σ H s):∀ (n:Nat) {v u:V} {d e:PyData} {b:Bool} {x y:Value} {A:Around},DV X.K H v d->DV X.K H u e->JD d e=some b->dpt d<=n->A.units+n<cLine->jO v x->jO u y ->
  RcAt A s x y b/\EqAt A s x y b:=by
 intro n
 induction n with
 |zero=>
  intro v u d e b x y A hv hu h hd hn rx ry
  cases hv with
  |non=>cases hu<;>simp [JD] at h;subst h;cases (show x=Value.none from rx);cases (show y=Value.none from ry);exact ⟨RcAt.none_none,EqAt.same _⟩
  |bl a=>cases hu<;>simp [JD] at h;subst h;cases (show x=Value.bool _ from rx);cases (show y=Value.bool _ from ry);exact ⟨RcAt.bool_bool _ _,EqAt.bool_bool _ _⟩
  |int a=>cases hu<;>simp [JD] at h;subst h;obtain ⟨t,rfl⟩:=(show ∃ t,x=Value.int _ t from rx);obtain ⟨t',rfl⟩:=(show ∃ t,y=Value.int _ t from ry);exact ⟨RcAt.int_int _ _ _ _,EqAt.int_int _ _ _ _⟩
  |str a=>cases hu<;>simp [JD] at h;subst h;obtain ⟨t,rfl⟩:=(show ∃ t,x=Value.str _ t from rx);obtain ⟨t',rfl⟩:=(show ∃ t,y=Value.str _ t from ry);exact ⟨RcAt.str_str _ _ _ _,EqAt.str_str _ _ _ _⟩
  |tup=>simp [dpt] at hd
  |lst=>simp [dpt] at hd
 |succ n ih=>
  intro v u d e b x y A hv hu h hd hn rx ry
  have fin:∀ {l l':Addr} {k:Bool},x=.ref l->y=.ref l'->v=.ref l->u=.ref l'->b=k->RcAt A s x y k->RcAt A s x y b/\EqAt A s x y b:=by
   rintro l l' k rfl rfl rfl rfl rfl rc
   refine ⟨rc,?_⟩
   by_cases hll:l=l'
   ·subst hll
    have:=DV.inj I hv hu
    subst this
    rw [LR h]
    exact EqAt.same _
   ·exact EqAt.of_refs hll rc
  cases hv with
  |non=>cases hu<;>simp [JD] at h;subst h;cases (show x=Value.none from rx);cases (show y=Value.none from ry);exact ⟨RcAt.none_none,EqAt.same _⟩
  |bl a=>cases hu<;>simp [JD] at h;subst h;cases (show x=Value.bool _ from rx);cases (show y=Value.bool _ from ry);exact ⟨RcAt.bool_bool _ _,EqAt.bool_bool _ _⟩
  |int a=>cases hu<;>simp [JD] at h;subst h;obtain ⟨t,rfl⟩:=(show ∃ t,x=Value.int _ t from rx);obtain ⟨t',rfl⟩:=(show ∃ t,y=Value.int _ t from ry);exact ⟨RcAt.int_int _ _ _ _,EqAt.int_int _ _ _ _⟩
  |str a=>cases hu<;>simp [JD] at h;subst h;obtain ⟨t,rfl⟩:=(show ∃ t,x=Value.str _ t from rx);obtain ⟨t',rfl⟩:=(show ∃ t,y=Value.str _ t from ry);exact ⟨RcAt.str_str _ _ _ _,EqAt.str_str _ _ _ _⟩
  |tup hq hs=>
   cases hu with
   |tup kq ks=>
    rename_i a1 vs1 ds1 a2 vs2 ds2
    simp only [JD] at h
    obtain ⟨i1,r1,p1,z1⟩:=I.tuple hq
    obtain ⟨i2,r2,p2,z2⟩:=I.tuple kq
    have l1:=hs.length;have l2:=ks.length;have m1:=r1.length;have m2:=r2.length
    have el:∀ (e:Nat->Bool),(∀ (j:Nat) x y,ds1[j]?=some x->ds2[j]?=some y->JD x y=some (e j))->∀ j (h1:j<i1.toArray.size) (h2:j<i2.toArray.size),EqAt A.in1 s i1.toArray[j] i2.toArray[j] (e j):=fun e he j h1 h2=>by
     obtain ⟨w1,g1,q1⟩:=VL r1 h1
     obtain ⟨w2,g2,q2⟩:=VL r2 h2
     obtain ⟨d1,f1,dv1⟩:=hs.get g1
     obtain ⟨d2,f2,dv2⟩:=ks.get g2
     have:=DN (mem_of_getElem? f1)
     exact (ih dv1 dv2 (he j d1 d2 f1 f2) (by simp only [dpt] at hd;omega) (show A.units+1+n<cLine by omega) q1 q2).2
    cases (show x=Value.ref a1 from rx)
    cases (show y=Value.ref a2 from ry)
    by_cases hl:ds1.length=ds2.length
    ·obtain ⟨e,he,hb⟩:=Y0 h hl
     refine fin rfl rfl rfl rfl (k:=(List.range (min i1.toArray.size i2.toArray.size)).all e&&i1.toArray.size==i2.toArray.size) ?_ (RcAt.tuples (show s.heap.IsTuple a1 i1.toArray from p1) (show s.heap.IsTuple a2 i2.toArray from p2) (by omega) (el e he))
     have e1:i1.toArray.size=ds1.length:=by rw [size_toArray];omega
     have e2:i2.toArray.size=ds1.length:=by rw [size_toArray];omega
     rw [e1,e2,hb];simp
    ·obtain ⟨hb,e,he⟩:=VN h hl
     refine fin rfl rfl rfl rfl (k:=(List.range (min i1.toArray.size i2.toArray.size)).all e&&i1.toArray.size==i2.toArray.size) ?_ (RcAt.tuples (show s.heap.IsTuple a1 i1.toArray from p1) (show s.heap.IsTuple a2 i2.toArray from p2) (by omega) (el e he))
     have e1:i1.toArray.size≠i2.toArray.size:=by rw [size_toArray,size_toArray];omega
     rw [hb];simp [e1]
     intro;omega
   |_=>simp [JD] at h
  |lst hq hs=>
   cases hu with
   |lst kq ks=>
    rename_i a1 vs1 ds1 a2 vs2 ds2
    simp only [JD] at h
    obtain ⟨i1,r1,p1,z1⟩:=I.list hq
    obtain ⟨i2,r2,p2,z2⟩:=I.list kq
    have l1:=hs.length;have l2:=ks.length;have m1:=r1.length;have m2:=r2.length
    have el:∀ (e:Nat->Bool),(∀ (j:Nat) x y,ds1[j]?=some x->ds2[j]?=some y->JD x y=some (e j))->∀ j (h1:j<i1.toArray.size) (h2:j<i2.toArray.size),EqAt A.in1 s i1.toArray[j] i2.toArray[j] (e j):=fun e he j h1 h2=>by
     obtain ⟨w1,g1,q1⟩:=VL r1 h1
     obtain ⟨w2,g2,q2⟩:=VL r2 h2
     obtain ⟨d1,f1,dv1⟩:=hs.get g1
     obtain ⟨d2,f2,dv2⟩:=ks.get g2
     have:=DN (mem_of_getElem? f1)
     exact (ih dv1 dv2 (he j d1 d2 f1 f2) (by simp only [dpt] at hd;omega) (show A.units+1+n<cLine by omega) q1 q2).2
    cases (show x=Value.ref a1 from rx)
    cases (show y=Value.ref a2 from ry)
    by_cases hl:ds1.length=ds2.length
    ·obtain ⟨e,he,hb⟩:=Y0 h hl
     refine fin rfl rfl rfl rfl (k:=(List.range i1.toArray.size).all e) ?_ (RcAt.lists p1.isList p2.isList (by rw [size_toArray,size_toArray];omega) (by omega) (el e he))
     have e1:i1.toArray.size=ds1.length:=by rw [size_toArray];omega
     rw [e1,hb]
    ·obtain ⟨hb,e,he⟩:=VN h hl
     refine fin rfl rfl rfl rfl (k:=false) hb (RcAt.lists_lengths p1.isList p2.isList (by rw [size_toArray,size_toArray];simp;omega) (by omega))
   |_=>simp [JD] at h
theorem qhD (I:Inv X pins σ H s) {n:Nat} {v u:V} {d e:PyData} {b:Bool} {x y:Value} {A:Around} (hv:DV X.K H v d) (hu:DV X.K H u e) (h:JD d e=some b) (hd:dpt d<=n+1) (hn:A.units+(n+1)<cLine) (rx:jO v x) (ry:jO u y) (hs:dpt d≠0):RcNeAt A s x y (!b):=by
 cases hv with
 |tup hq hs'=>
  cases hu with
  |tup kq ks=>
   rename_i a1 vs1 ds1 a2 vs2 ds2
   simp only [JD] at h
   obtain ⟨i1,r1,p1,z1⟩:=I.tuple hq
   obtain ⟨i2,r2,p2,z2⟩:=I.tuple kq
   have l1:=hs'.length;have l2:=ks.length;have m1:=r1.length;have m2:=r2.length
   have el:∀ (e:Nat->Bool),(∀ (j:Nat) x y,ds1[j]?=some x->ds2[j]?=some y->JD x y=some (e j))->∀ j (h1:j<i1.toArray.size) (h2:j<i2.toArray.size),EqAt A.in1 s i1.toArray[j] i2.toArray[j] (e j):=fun e he j h1 h2=>by
    obtain ⟨w1,g1,q1⟩:=VL r1 h1
    obtain ⟨w2,g2,q2⟩:=VL r2 h2
    obtain ⟨d1,f1,dv1⟩:=hs'.get g1
    obtain ⟨d2,f2,dv2⟩:=ks.get g2
    have:=DN (mem_of_getElem? f1)
    exact (KA I n dv1 dv2 (he j d1 d2 f1 f2) (by simp only [dpt] at hd;omega) (show A.units+1+n<cLine by omega) q1 q2).2
   cases (show x=Value.ref a1 from rx)
   cases (show y=Value.ref a2 from ry)
   by_cases hl:ds1.length=ds2.length
   ·obtain ⟨e,he,hb⟩:=Y0 h hl
    have:=RcNeAt.tuples (show s.heap.IsTuple a1 i1.toArray from p1) (show s.heap.IsTuple a2 i2.toArray from p2) (A:=A) (by omega) (el e he)
    have e1:i1.toArray.size=ds1.length:=by rw [size_toArray];omega
    have e2:i2.toArray.size=ds1.length:=by rw [size_toArray];omega
    rw [e1,e2] at this
    rw [hb];simpa using this
   ·obtain ⟨hb,e,he⟩:=VN h hl
    have:=RcNeAt.tuples (show s.heap.IsTuple a1 i1.toArray from p1) (show s.heap.IsTuple a2 i2.toArray from p2) (A:=A) (by omega) (el e he)
    have e1:(i1.toArray.size==i2.toArray.size)=false:=by rw [size_toArray,size_toArray];simp;omega
    rw [e1] at this
    rw [hb];simpa using this
  |_=>simp [JD] at h
 |lst hq hs'=>
  cases hu with
  |lst kq ks=>
   rename_i a1 vs1 ds1 a2 vs2 ds2
   simp only [JD] at h
   obtain ⟨i1,r1,p1,z1⟩:=I.list hq
   obtain ⟨i2,r2,p2,z2⟩:=I.list kq
   have l1:=hs'.length;have l2:=ks.length;have m1:=r1.length;have m2:=r2.length
   have el:∀ (e:Nat->Bool),(∀ (j:Nat) x y,ds1[j]?=some x->ds2[j]?=some y->JD x y=some (e j))->∀ j (h1:j<i1.toArray.size) (h2:j<i2.toArray.size),EqAt A.in1 s i1.toArray[j] i2.toArray[j] (e j):=fun e he j h1 h2=>by
    obtain ⟨w1,g1,q1⟩:=VL r1 h1
    obtain ⟨w2,g2,q2⟩:=VL r2 h2
    obtain ⟨d1,f1,dv1⟩:=hs'.get g1
    obtain ⟨d2,f2,dv2⟩:=ks.get g2
    have:=DN (mem_of_getElem? f1)
    exact (KA I n dv1 dv2 (he j d1 d2 f1 f2) (by simp only [dpt] at hd;omega) (show A.units+1+n<cLine by omega) q1 q2).2
   cases (show x=Value.ref a1 from rx)
   cases (show y=Value.ref a2 from ry)
   by_cases hl:ds1.length=ds2.length
   ·obtain ⟨e,he,hb⟩:=Y0 h hl
    have:=RcNeAt.lists p1.isList p2.isList (A:=A) (by rw [size_toArray,size_toArray];omega) (by omega) (el e he)
    have e1:i1.toArray.size=ds1.length:=by rw [size_toArray];omega
    rw [e1] at this
    rw [hb];exact this
   ·obtain ⟨hb,e,he⟩:=VN h hl
    rw [hb]
    exact RcNeAt.lists_lengths p1.isList p2.isList (by rw [size_toArray,size_toArray];simp;omega) (by omega)
  |_=>simp [JD] at h
 |_=>simp [dpt] at hs
def qiS (K:PySem.W.Frag) (neg:Bool):R2:=fun x y H Q=>∃ d e b,DV K H x d/\DV K H y e/\JD d e=some b/\dpt d<=40/\dpt d≠0/\Q (.bl (if neg then !b else b)) H
theorem qi3 (hu:X.A.units+64<cLine):OpR X (compareOp .Eq) (qiS X.K false):=by
 intro pins s σ H x y v u Q I rx ry h
 obtain ⟨d,e,b,hx,hy,hb,hd,_,q⟩:=h
 exact (KA I 40 hx hy hb hd (by omega) rx ry).1 X.prog X.w X.xe _ ⟨.bl b,H,I,rfl,q⟩
theorem qjB (hu:X.A.units+64<cLine):OpR X (compareOp .NotEq) (qiS X.K true):=by
 intro pins s σ H x y v u Q I rx ry h
 obtain ⟨d,e,b,hx,hy,hb,hd,hs,q⟩:=h
 exact qhD I (n:=40) hx hy hb (by omega) (by omega) rx ry hs X.prog X.w X.xe _ ⟨.bl (!b),H,I,rfl,q⟩
end
def qZ (neg:Bool):R3:=fun x y G q=>match qQ x y with
 |some k=>q (.bl (if neg then !k else k)) G
 |none=>∃ d e b,Dp G x d/\Dp G y e/\JD d e=some b/\dpt d<=40/\dpt d≠0/\q (.bl (if neg then !b else b)) G
theorem qz {K:PySem.W.Frag}:CY K (qZ false) (fun x y H Q=>rEq x y H Q\/qiS K false x y H Q):=fun x y v u G H q Q hr rx ry h af=>by
 unfold qZ at h
 split at h
 ·rename_i k e
  obtain ⟨h1,h2⟩:=qaa rx ry e
  refine .inl ⟨h1,?_⟩
  rw [h2]
  exact af _ G h _ H (.bl _) hr Kp.refl
 ·obtain ⟨d,e,b,h1,h2,h3,h4,h5,h6⟩:=h
  exact .inr ⟨d,e,b,h1.dv hr rx,h2.dv hr ry,h3,h4,h5,af _ G h6 _ H (.bl _) hr Kp.refl⟩
theorem T7 {K:PySem.W.Frag}:CY K (qZ true) (fun x y H Q=>rNe x y H Q\/qiS K true x y H Q):=fun x y v u G H q Q hr rx ry h af=>by
 unfold qZ at h
 split at h
 ·rename_i k e
  obtain ⟨h1,h2⟩:=qaa rx ry e
  refine .inl ⟨h1,?_⟩
  rw [h2]
  exact af _ G h _ H (.bl _) hr Kp.refl
 ·obtain ⟨d,e,b,h1,h2,h3,h4,h5,h6⟩:=h
  exact .inr ⟨d,e,b,h1.dv hr rx,h2.dv hr ry,h3,h4,h5,af _ G h6 _ H (.bl _) hr Kp.refl⟩
theorem qR {X:Cx} (hu:X.A.units+64<cLine):OpR X (compareOp .Eq) (fun x y H Q=>rEq x y H Q\/qiS X.K false x y H Q):=qpS.or (qi3 hu)
theorem qal {X:Cx} (hu:X.A.units+64<cLine):OpR X (compareOp .NotEq) (fun x y H Q=>rNe x y H Q\/qiS X.K true x y H Q):=qo7.or (qjB hu)
end L3
namespace L3
open PySem PySem.Spec PyProof.Rows L2
section
variable {X:Cx} {pins:List (Addr×Obj)} {σ:L2.St} {H:Hp} {s:Shared}
end
section
variable {X:Cx}
end
section
variable {prog:Program} {w:World} {A:Around} {R:Result->Shared->Prop} {s:Shared}
theorem TF (elt t1 i1 t2 i2:Expr) (f1 f2:List Expr) (scope:Scope) (pos:Pos) (it acc:Value) (env:Env) :
  compTurn (.ListComp elt [⟨t1,i1,f1,0⟩,⟨t2,i2,f2,0⟩] scope pos) 0 it acc env=(do
   standAt i1.pos
   match←pyNext it with
   |none=>pure (.done .next)
   |some v=>
    letOwnedTupleGo t1 it v
    assign t1 env v
    let mut ok:=true
    for c in f1 do
     if ok then ok←isTrue c env (eval c env)
    if ok then
     let x←eval i2 env
     standAt i2.pos
     let x←foldedSetIterable i2 env x
     let _←runOwn (.compStart (.ListComp elt [⟨t1,i1,f1,0⟩,⟨t2,i2,f2,0⟩] scope pos) 1 (← holding [x] (pyIter x)) acc env) env
    again (.compLoop (.ListComp elt [⟨t1,i1,f1,0⟩,⟨t2,i2,f2,0⟩] scope pos) 0 it acc env)):=by rfl
theorem S4 (elt t1 i1 t2 i2:Expr) (f1 f2:List Expr) (scope:Scope) (pos:Pos) (it acc:Value) (env:Env) :
  compTurn (.ListComp elt [⟨t1,i1,f1,0⟩,⟨t2,i2,f2,0⟩] scope pos) 1 it acc env=(do
   standAt i2.pos
   match←pyNext it with
   |none=>pure (.done .next)
   |some v=>
    letOwnedTupleGo t2 it v
    assign t2 env v
    let mut ok:=true
    for c in f2 do
     if ok then ok←isTrue c env (eval c env)
    if ok then
     (do let _←call (.builtin "list.append") [acc,← eval elt env])
    again (.compLoop (.ListComp elt [⟨t1,i1,f1,0⟩,⟨t2,i2,f2,0⟩] scope pos) 1 it acc env)):=by rfl
theorem YX {elt t1 i1 t2 i2:Expr} {f1 f2:List Expr} {scope:Scope} {pos:Pos} {it acc:Value} {env:Env}
  (h0:codeAny (model prog w) A (.compLoop (.ListComp elt [⟨t1,i1,f1,0⟩,⟨t2,i2,f2,0⟩] scope pos) 1 it acc env) R s)
  (h:wpAny (model prog w) A (pyIter it) (fun it' s'=>codeAny (model prog w) A (.compLoop (.ListComp elt [⟨t1,i1,f1,0⟩,⟨t2,i2,f2,0⟩] scope pos) 1 it' acc env) R s')
   (notedBy (model prog w) A env fun x s'=>R (.error x) s') s) :
  codeAny (model prog w) A (.compStart (.ListComp elt [⟨t1,i1,f1,0⟩,⟨t2,i2,f2,0⟩] scope pos) 1 it acc env) R s:=by
 refine codeAny_of_tree ?_
 show wpAny _ _ ((compStart (.ListComp elt [⟨t1,i1,f1,0⟩,⟨t2,i2,f2,0⟩] scope pos) 1 it acc env).onRaise (fun x=>do noteFrame x env;standAt theWindowsPlace)) _ _ s
 refine wpAny_notedAt ?_
 unfold compStart
 show wpAny _ _ (ask >>= _) _ _ s
 refine wpAny_bind (wpAny_askSetting (wpAny_ite ?_))
 split
 ·first
   |exact wpAny_bind (wpAny_pure (wpAny_pure (And.intro rfl h0)))
   |exact wpAny_pure (And.intro rfl h0)
 ·first
   |exact wpAny_bind (wpAny_rule (wpAny_bind (wpAny_standAt (wpAny_bind (wpAny_mono h (fun it' s' h'=>wpAny_pure (And.intro rfl h')) fun _ _ x=>x)))))
   | (refine wpAny_bind (wpAny_rule ?_);show wpAny _ _ (standAt i2.pos >>= _) _ _ s;exact wpAny_bind (wpAny_standAt (wpAny_bind (wpAny_mono h (fun it' s' h'=>wpAny_pure (And.intro rfl h')) fun _ _ x=>x))))
end
def tIn (wi:TI) (g:TG) (tif:TT) (te:TE) (D:Addr) (N:L2.St->Hp->Prop) (σ:L2.St) (H:Hp):Prop:=wi σ H fun J H1=>
 ∃ W:Nat->Nat->L2.St->Hp->Prop,(∃ n,W 0 n σ H1)/\∀ i n σ H,W i n σ H ->
  (J.stop i H/\N σ H)\/(J.go i H/\∀ x H',J.yld i H x H'->g x σ H' fun σ2 H2=>tif σ2 H2 fun k H3=>
   if k=true then te σ2 H3 fun y H4=>∃ zs,H4 D=some (.lst zs)/\zs.length<sizeLine/\∃ n',n'<n/\W (i+1) n' σ2 (upd H4 D (.lst (zs++[y])))
   else ∃ n',n'<n/\W (i+1) n' σ2 H3)
section
variable {X:Cx}
theorem qj1 {elt t1 i1 t2 i2:Expr} {f1 f2:List Expr} {scope:Scope} {pos:Pos} {wi:TI} {g:TG} {tif:TT} {te:TE} {D:Addr} {N:L2.St->Hp->Prop} (hc:X.calm=true) (hx:∀ v s,¬ X.xe v s) (hi:PI X t2 i2 wi) (hg:PG X t2 g) (hf:PF X f2 tif) (he:PE X elt te)
    (hs:∀ x,foldedSetIterable i2 X.env x=pure x) {pins:List (Addr×Obj)} {s:Shared} {σ:L2.St} {H:Hp} {E:Value->Shared->Prop} {α:Type} {kk:Sem α} {Q:α->Shared->Prop} (I:Inv X pins σ H s) (h:tIn wi g tif te D N σ H) (hk:∀ s' σ' H',Inv X pins σ' H' s'->N σ' H'->wpAny (model X.prog X.w) X.A kk Q E s') :
    wpAny (model X.prog X.w) X.A (do
            let x←eval i2 X.env
            standAt i2.pos
            let x←foldedSetIterable i2 X.env x
            let _←runOwn (.compStart (.ListComp elt [⟨t1,i1,f1,0⟩,⟨t2,i2,f2,0⟩] scope pos) 1 (← holding [x] (pyIter x)) (.ref D) X.env) X.env
            kk) Q E s:=by
  refine wpAny_bind (wpAny_mono (hi pins s σ H _ I h) (fun v s1 h1=>?_) fun _ _ z=>(hx _ _ z).elim)
  refine wpAny_bind (wpAny_standAt (wpAny_bind (wpAny_of_eq (hs v) ?_)))
  refine wpAny_bind (wpAny_holding (wpAny_mono h1 (fun itv s2 h2=>?_) fun _ _ z=>(hx _ _ z).elim))
  obtain ⟨it,fp,tn,J,H2,rfl,I2,T,st2,f2',W,⟨n0,w0⟩,turn⟩:=h2
  have stat:∀ {H':Hp},(∀ b∈fp,H' b=none)->∀ b∈fp,KP X pins H' b:=fun hn b hb=>⟨hn b hb,(f2' b hb).2⟩
  refine wpAny_bind (wpAny_runOwn ?_)
  show codeAny (model X.prog X.w) X.A (.compStart (.ListComp elt [⟨t1,i1,f1,0⟩,⟨t2,i2,f2,0⟩] scope pos) 1 (.ref it) (.ref D) X.env) _ s2
  have loop:codeAny (model X.prog X.w) X.A (.compLoop (.ListComp elt [⟨t1,i1,f1,0⟩,⟨t2,i2,f2,0⟩] scope pos) 1 (.ref it) (.ref D) X.env) (fun r s'=>match r with
      |.ok f=>wpAny (model X.prog X.w) X.A kk Q E s'
      |.error e=>cameBackBy (model X.prog X.w) X.A X.env E e s') s2:=by
    refine codeAny_loop rfl (fun n s'=>∃ i σ' H',Inv X pins σ' H' s'/\tn i s'.heap/\(∀ b∈fp,H' b=none)/\W i n σ' H') (fun n s' hI=>?_) n0 ⟨0,σ,H2,I2,st2,fun b hb=>(f2' b hb).1,w0⟩
    show wpAny _ X.A ((compTurn (.ListComp elt [⟨t1,i1,f1,0⟩,⟨t2,i2,f2,0⟩] scope pos) 1 (.ref it) (.ref D) X.env).onRaise (fun x=>do noteFrame x X.env;theTreesLotGoes x)) _ _ s'
    refine wpAny_noted ?_
    rw [S4]
    refine wpAny_bind (wpAny_standAt (wpAny_bind ?_))
    obtain ⟨i,σ5,H5,I5,st5,fr5,w5⟩:=hI
    rcases turn i n σ5 H5 w5 with ⟨stop,q⟩|⟨go,step⟩
    · refine thn (T.done X rfl rfl rfl hc i pins s' σ5 H5 _ I5 (stat fr5) st5 stop) fun r s6 ⟨hr,I6⟩=>?_
      subst hr
      exact wpAny_pure (hk _ σ5 H5 I6 q)
    · refine thn (T.item X rfl rfl rfl hc i pins s' σ5 H5 _ I5 (stat fr5) st5 go) fun r s6 ⟨u,hr,h6⟩=>?_
      subst hr
      refine wpAny_bind (thn h6 fun _ s7 ⟨x,H7,I7,r7,y7,st7,fr7⟩=>?_)
      have I7':=I7.pinned (stat fr7) (T.obj _ _ st7)
      have again:∀ {σ8:L2.St} {H8:Hp} {s8:Shared},Inv X (pins++XD fp s7.heap) σ8 H8 s8->(∃ n',n'<n/\W (i+1) n' σ8 H8) ->
          ∃ m',m'<n/\∃ i σ' H',Inv X pins σ' H' s8/\tn i s8.heap/\(∀ b∈fp,H' b=none)/\W i m' σ' H':=fun {σ8 H8 s8} I8 ⟨n',hn,w8⟩=>by
        refine ⟨n',hn,i+1,σ8,H8,I8.unpinned,T.keep _ _ _ st7 fun b hb o e=>(I8.pin (b,o) (mem_append_right _ (mem_append_right _ (zR hb e)))).1,fun b hb=>?_,w8⟩
        obtain ⟨o,e,d⟩:=T.obj _ _ st7 b hb
        exact (I8.pin (b,o) (mem_append_right _ (mem_append_right _ (zR hb e)))).2.1
      refine wpAny_bind (wpAny_mono (hg _ s7 σ5 H7 x u _ I7' r7 (step x H7 y7)) (fun _ s8 ⟨σ8,H8,I8,q8⟩=>?_) fun _ _ z=>(hx _ _ z).elim)
      refine wpAny_bind (wpAny_mono (hf _ s8 σ8 H8 _ I8 q8) (fun k s9 ⟨H9,I9,q9⟩=>?_) fun _ _ z=>(hx _ _ z).elim)
      cases k with
      |false=>
        rw [if_neg Bool.false_ne_true] at q9
        exact wpAny_pure ⟨rfl,again I9 q9⟩
      |true=>
        rw [if_pos rfl] at q9
        refine wpAny_bind (wpAny_bind (wpAny_mono (he _ s9 σ8 H9 _ I9 q9) (fun w s10 ⟨y,H10,I10,r10,q10⟩=>?_) fun _ _ z=>(hx _ _ z).elim))
        obtain ⟨zs,hz,hl,q10⟩:=q10
        refine wpAny_bind (wpAny_mono (DS (X:=X) _ s10 σ8 H10 (.ref D) [y] (.ref D) [w] (fun _ H11=>H11=upd H10 D (.lst (zs++[y]))) I10 rfl (.cons r10 .nil) ⟨D,zs,y,rfl,rfl,hz,hl,rfl⟩) (fun _ s11 ⟨_,H11,I11,_,e11⟩=>?_) fun _ _ z=>(hx _ _ z).elim)
        subst e11
        exact wpAny_pure (wpAny_pure ⟨rfl,again I11 q10⟩)
  exact YX loop (T.self X.A 0 _ _ _ st2 loop)
def qqG (wi:TI) (g:TG) (tif:TT) (wi2:TI) (g2:TG) (tif2:TT) (te:TE) (m:List (Option Nat)):TE:=fun σ H Q=>wi σ H fun J H1=>∀ D,H1 D=none ->
 ∃ W:Nat->Nat->L2.St->Hp->Prop,(∃ n,W 0 n (cap m σ) (upd H1 D (.lst [])))/\∀ i n σ H,W i n σ H ->
  (J.stop i H/\Q (.ref D) H)\/(J.go i H/\∀ x H',J.yld i H x H'->g x σ H' fun σ2 H2=>tif σ2 H2 fun k H3=>
   if k=true then tIn wi2 g2 tif2 te D (fun σ4 H4=>∃ n',n'<n/\W (i+1) n' σ4 H4) σ2 H3
   else ∃ n',n'<n/\W (i+1) n' σ2 H3)
theorem qka {elt tg iter t2 i2:Expr} {ifs f2:List Expr} {scope:Scope} {pos:Pos} {N':List Str} {m:List (Option Nat)} {wi:TI} {g:TG} {tif:TT} {wi2:TI} {g2:TG} {tif2:TT} {te:TE} (hc:X.calm=true) (hi:PI X tg iter wi)
  (hg:∀ s H fp,PG (qq X N' scope s H fp) tg g) (hf:∀ s H fp,PF (qq X N' scope s H fp) ifs tif) (hi2:∀ s H fp,PI (qq X N' scope s H fp) t2 i2 wi2) (hg2:∀ s H fp,PG (qq X N' scope s H fp) t2 g2) (hf2:∀ s H fp,PF (qq X N' scope s H fp) f2 tif2) (he:∀ s H fp,PE (qq X N' scope s H fp) elt te)
  (hsc:qbu X.env.scope scope=true) (hcap:U4 X.N N' scope m=true) (hs:∀ x,foldedSetIterable iter X.env x=pure x:=by intro _;rfl) (hs2:∀ s H fp x,foldedSetIterable i2 (qq X N' scope s H fp).env x=pure x:=by intro _ _ _ _;rfl) :
  PE X (.ListComp elt [⟨tg,iter,ifs,0⟩,⟨t2,i2,f2,0⟩] scope pos) (qqG wi g tif wi2 g2 tif2 te m):=by
 intro pins s σ H Q I h
 have sc:=WB hsc
 have hcl:∀ y∈scope.names,y.2=.free->∃ c,X.env.cells.lookup y.1=some c:=fun y hy e=>by
  rcases (sc.free y hy e).2 with z|z
  ·exact I.ok.has y.1 (.inl z)
  ·exact I.ok.has y.1 (.inr z)
 rw [eval_ListComp]
 refine wpAny_comprehension_free (use:=none) (g:=⟨tg,iter,ifs,0⟩) (gs:=[⟨t2,i2,f2,0⟩]) rfl hs (YH hcl) sc.kind sc.loc ?_
 show wpAny _ _ (eval iter X.env) _ _ s
 refine thn (hi pins s σ H _ I h) fun v s1 h1=>thn h1 fun itv s2 h2=>?_
 obtain ⟨it,fp,tn,J,H2,rfl,I2,T,st2,fF2,hW⟩:=h2
 refine wpAny_newObj_type ?_
 have hD:H2 s2.heap.objs.size=none:=I2.fresh
 obtain ⟨W,⟨n0,w0⟩,turn⟩:=hW _ hD
 generalize hDe:s2.heap.objs.size=D at *
 have I3:Inv X pins σ (upd H2 D (.lst [])) { s2 with heap:=s2.heap.push { cls:=.type "list",dict:=none,data:=.seq ([]:List Value).toArray } }:=by
  subst hDe
  exact I2.laid (t':=s2.toks) (fun b u e=>Heap.get?_push_of_some _ e) (Nat.le_refl _) ⟨Nat.zero_le _,[],0,.nil,Heap.get?_push_size _ rfl⟩
 have ob2:=T.obj 0 _ st2
 have ob3:∀ b∈fp,∃ o,(s2.heap.push { cls:=.type "list",dict:=none,data:=.seq ([]:List Value).toArray }).get? b=some o:=fun b hb=>let ⟨o,e,_⟩:=ob2 b hb;⟨o,Heap.get?_push_of_some _ e⟩
 have f3:∀ b∈fp,KP X pins (upd H2 D (.lst [])) b:=fun b hb=>by
  obtain ⟨o,e,_⟩:=ob2 b hb
  have:b≠D:=by rw [← hDe];exact Nat.ne_of_lt (Heap.lt_size e)
  exact ⟨by rw [qN this];exact (fF2 b hb).1,(fF2 b hb).2⟩
 have k23:∀ b o,s2.heap.get? b=some o->(s2.heap.push { cls:=.type "list",dict:=none,data:=.seq ([]:List Value).toArray }).get? b=some o:=fun b o e=>Heap.get?_push_of_some _ e
 generalize hH3:upd H2 D (.lst [])=H3 at *
 generalize hs3:({ s2 with heap:=s2.heap.push { cls:=.type "list",dict:=none,data:=.seq ([]:List Value).toArray } }:Shared)=s3 at *
 have ob3:∀ b∈fp,∃ o,s3.heap.get? b=some o:=by rw [← hs3];exact ob3
 have k23:∀ b o,s2.heap.get? b=some o->s3.heap.get? b=some o:=by rw [← hs3];exact k23
 refine QJ fun h₁ hns hk hown=>?_
 have I4:Inv (qq X N' scope s3 H3 fp) [] (cap m σ) H3 { s3 with heap:=h₁ }:=T9 hc I3 sc hcap f3 ob3 hns hk hown
 have tn4:tn 0 h₁:=T.keep _ _ _ st2 fun b hb o e=>hk b o (k23 b o e)
 have fr4:∀ b∈fp,H3 b=none:=fun b hb=>(f3 b hb).1
 have stat:∀ {H':Hp},(∀ b∈fp,H' b=none)->∀ b∈fp,KP (qq X N' scope s3 H3 fp) [] H' b:=fun hn b hb=>by
  refine ⟨hn b hb,I4.ok.exf b hb |>.1,I4.ok.exfs b hb,.inl hb,fun x c e=>(I4.ok.exf b hb).2 x c e,fun p hp=>absurd (show p∈([]:List (Addr×Obj)) from hp) (by simp)⟩
 show codeAny (model X.prog X.w) X.A (.compStart (.ListComp elt [⟨tg,iter,ifs,0⟩,⟨t2,i2,f2,0⟩] scope pos) 0 (.ref it) (.ref D) (qq X N' scope s3 H3 fp).env) (compPost (model X.prog X.w) X.A X.xe none (EP X pins σ Q) (.ref D) s3.heap.objs.size) { s3 with heap:=h₁ }
 have loop:codeAny (model X.prog X.w) X.A (.compLoop (.ListComp elt [⟨tg,iter,ifs,0⟩,⟨t2,i2,f2,0⟩] scope pos) 0 (.ref it) (.ref D) (qq X N' scope s3 H3 fp).env) (compPost (model X.prog X.w) X.A X.xe none (EP X pins σ Q) (.ref D) s3.heap.objs.size) { s3 with heap:=h₁ }:=by
  refine codeAny_loop rfl (fun n s'=>∃ i σ' H',Inv (qq X N' scope s3 H3 fp) [] σ' H' s'/\tn i s'.heap/\(∀ b∈fp,H' b=none)/\W i n σ' H') (fun n s' hI=>?_) n0 ⟨0,cap m σ,H3,I4,tn4,fr4,w0⟩
  show wpAny _ X.A ((compTurn (.ListComp elt [⟨tg,iter,ifs,0⟩,⟨t2,i2,f2,0⟩] scope pos) 0 (.ref it) (.ref D) (qq X N' scope s3 H3 fp).env).onRaise (fun x=>do noteFrame x (qq X N' scope s3 H3 fp).env;theTreesLotGoes x)) _ _ s'
  refine wpAny_noted ?_
  rw [TF]
  refine wpAny_bind (wpAny_standAt (wpAny_bind ?_))
  obtain ⟨i,σ5,H5,I5,st5,fr5,w5⟩:=hI
  rcases turn i n σ5 H5 w5 with ⟨stop,q⟩|⟨go,step⟩
  ·refine thn (T.done (qq X N' scope s3 H3 fp) rfl rfl rfl rfl i [] s' σ5 H5 _ I5 (stat fr5) st5 stop) fun r s6 ⟨hr,I6⟩=>?_
   subst hr
   refine wpAny_pure ?_
   obtain ⟨mm,hn6,_⟩:=I6.loc
   exact ⟨mm,hn6,fun h' sb=>⟨.ref D,H5,WK I3 f3 I6 sb,rfl,q⟩⟩
  ·refine thn (T.item (qq X N' scope s3 H3 fp) rfl rfl rfl rfl i [] s' σ5 H5 _ I5 (stat fr5) st5 go) fun r s6 ⟨u,hr,h6⟩=>?_
   subst hr
   refine wpAny_bind (thn h6 fun _ s7 ⟨x,H7,I7,r7,y7,st7,fr7⟩=>?_)
   have I7':=I7.pinned (stat fr7) (T.obj _ _ st7)
   have again:∀ {σ8:L2.St} {H8:Hp} {s8:Shared},Inv (qq X N' scope s3 H3 fp) ([]++XD fp s7.heap) σ8 H8 s8->(∃ n',n'<n/\W (i+1) n' σ8 H8) ->
     ∃ m',m'<n/\∃ i σ' H',Inv (qq X N' scope s3 H3 fp) [] σ' H' s8/\tn i s8.heap/\(∀ b∈fp,H' b=none)/\W i m' σ' H':=fun {σ8 H8 s8} I8 ⟨n',hn,w8⟩=>by
    refine ⟨n',hn,i+1,σ8,H8,I8.unpinned,T.keep _ _ _ st7 fun b hb o e=>(I8.pin (b,o) (mem_append_right _ (mem_append_right _ (zR hb e)))).1,fun b hb=>?_,w8⟩
    obtain ⟨o,e,d⟩:=T.obj _ _ st7 b hb
    exact (I8.pin (b,o) (mem_append_right _ (mem_append_right _ (zR hb e)))).2.1
   refine wpAny_bind (wpAny_mono (hg s3 H3 fp _ s7 σ5 H7 x u _ I7' r7 (step x H7 y7)) (fun _ s8 ⟨σ8,H8,I8,q8⟩=>?_) fun _ _ z=>z.elim)
   refine wpAny_bind (wpAny_mono (hf s3 H3 fp _ s8 σ8 H8 _ I8 q8) (fun k s9 ⟨H9,I9,q9⟩=>?_) fun _ _ z=>z.elim)
   cases k with
   |false=>
    rw [if_neg Bool.false_ne_true] at q9
    exact wpAny_pure ⟨rfl,again I9 q9⟩
   |true=>
    rw [if_pos rfl] at q9
    refine qj1 (X:=qq X N' scope s3 H3 fp) rfl (fun _ _ z=>z) (hi2 s3 H3 fp) (hg2 s3 H3 fp) (hf2 s3 H3 fp) (he s3 H3 fp) (hs2 s3 H3 fp) I9 q9 fun s10 σ10 H10 I10 q10=>?_
    exact wpAny_pure ⟨rfl,again I10 q10⟩
 exact codeAny_compStart_list loop (T.self X.A 0 _ _ _ tn4 loop)
end
def qiU (D:Addr) (stay:Gp->Prop) (g:TG3) (tif:TT3) (te:TE3) (N:St3->Gp->Prop):List T->St3->Gp->Prop
 |[],τ,G=>stay G/\N τ G
 |x::r,τ,G=>stay G/\g x τ G fun τ2 G2=>tif τ2 G2 fun k G3=>
  if k=true then te τ2 G3 fun y G4=>(match G4 D with|some (.lst ys)=>ys.length<sizeLine/\qiU D stay g tif te N r τ2 (gu G4 D (.lst (ys++[y])))|_=>False) else qiU D stay g tif te N r τ2 G3
def qcO (D:Addr) (stay:Gp->Prop) (g:TG3) (tif:TT3) (wi2:TI3) (g2:TG3) (tif2:TT3) (te:TE3) (q:Q3):List T->St3->Gp->Prop
 |[],_,G=>stay G/\q (.ref D) G
 |x::r,τ,G=>stay G/\g x τ G fun τ2 G2=>tif τ2 G2 fun k G3=>
  if k=true then wi2 τ2 G3 fun items2 stay2 G4=>qiU D stay2 g2 tif2 te (fun τ' G'=>qcO D stay g tif wi2 g2 tif2 te q r τ' G') items2 τ2 G4 else qcO D stay g tif wi2 g2 tif2 te q r τ2 G3
def qnX (wi:TI3) (g:TG3) (tif:TT3) (wi2:TI3) (g2:TG3) (tif2:TT3) (te:TE3) (m:List (Option Nat)):TE3:=fun τ G q=>wi τ G fun items stay G1=>∀ D,G1 D=none->qcO D stay g tif wi2 g2 tif2 te q items (cap m τ) (gu G1 D (.lst []))
section
variable {K:PySem.W.Frag}
theorem qhF {wi2:TI3} {g2:TG3} {tif2:TT3} {te:TE3} {D:Addr} {N3:St3->Gp->Prop} {N:L2.St->Hp->Prop} {τ:St3} {G:Gp} {σ:L2.St} {H:Hp} {Gb:Gp} {Hb:Hp} (rl:Rel K τ G σ H) (kb:Kp Gb Hb G H) (h:wi2 τ G fun items stay G1=>qiU D stay g2 tif2 te N3 items τ G1)
  (hN:∀ τ' G' σ' H',Rel K τ' G' σ' H'->Kp Gb Hb G' H'->N3 τ' G'->N σ' H'):tIn (lI K wi2) (lG K g2) (lT K tif2) (lE K te) D N σ H:=by
 refine ⟨τ,G,_,rl,h,fun items stay G1 h1 J H1 hr1 k1 ok=>?_⟩
 refine ⟨fun i n σ' H'=>n=items.length-i/\i<=items.length/\∃ τ' G',Rel K τ' G' σ' H'/\Kp G1 H1 G' H'/\qiU D stay g2 tif2 te N3 (items.drop i) τ' G',⟨_,rfl,Nat.zero_le _,τ,G1,rl.next hr1 k1,Kp.refl,by simpa using h1⟩,?_⟩
 rintro i n σ' H' ⟨rfl,hi,τ',G',rl',k',h'⟩
 by_cases hlt:i<items.length
 ·rw [List.drop_eq_getElem_cons hlt] at h'
  obtain ⟨hst,h'⟩:=h'
  obtain ⟨go,yld,_⟩:=ok G' H' rl'.hp k' hst
  have hx:items[i]?=some items[i]:=getElem?_eq_getElem hlt
  refine .inr ⟨go i _ hx,fun v H2 y=>?_⟩
  obtain ⟨rv,hr2,k2⟩:=yld i _ v H2 hx y
  refine ⟨_,τ',G',_,rv,rl'.next hr2 k2,h',fun τ3 G3 h3 σ3 H3 rl3 k3=>⟨τ3,G3,_,rl3,h3,fun k G4 h4 H4 hr4 k4=>?_⟩⟩
  have kk:=(k2.trans k3).trans k4
  cases k with
  |false=>
   rw [if_neg Bool.false_ne_true] at h4
   refine qnY ?_
   exact ⟨_,by omega,rfl,hlt,τ3,G4,rl3.next hr4 k4,k'.trans kk,h4⟩
  |true=>
   rw [if_pos rfl] at h4
   refine qn3 ?_
   refine ⟨τ3,G4,_,rl3.next hr4 k4,h4,fun z G5 h5 w H5 rw5 hr5 k5=>?_⟩
   split at h5
   ·rename_i ys e1
    obtain ⟨vs,g1,r1⟩:=hr5.lst e1
    exact ⟨vs,g1,by rw [← r1.length];exact h5.1,_,by omega,rfl,hlt,τ3,_,((rl3.next hr4 k4).next hr5 k5).next (hr5.wr e1 (r1.append (.cons rw5 .nil))) (Kp.wr e1),((k'.trans kk).trans k5).trans (Kp.wr e1),h5.2⟩
   ·exact h5.elim
 ·have e:i=items.length:=by omega
  subst e
  rw [List.drop_length] at h'
  obtain ⟨_,_,stop⟩:=ok G' H' rl'.hp k' h'.1
  exact .inl ⟨stop,hN _ _ _ _ rl' ((kb.trans k1).trans k') h'.2⟩
end
section
variable {X:Cx}
theorem qoN {elt tg iter t2 i2:Expr} {ifs f2:List Expr} {scope:Scope} {pos:Pos} (N':List Str) (m:List (Option Nat)) {wi:TI3} {g:TG3} {tif:TT3} {wi2:TI3} {g2:TG3} {tif2:TT3} {te:TE3} (hc:X.calm=true) (hi:I3 X tg iter wi)
  (hg:∀ s H fp,G3 (qq X N' scope s H fp) tg g) (hf:∀ s H fp,F3 (qq X N' scope s H fp) ifs tif) (hi2:∀ s H fp,I3 (qq X N' scope s H fp) t2 i2 wi2) (hg2:∀ s H fp,G3 (qq X N' scope s H fp) t2 g2) (hf2:∀ s H fp,F3 (qq X N' scope s H fp) f2 tif2) (he:∀ s H fp,E3 (qq X N' scope s H fp) elt te)
  (hsc:qbu X.env.scope scope=true) (hcap:U4 X.N N' scope m=true) (hs:∀ x,foldedSetIterable iter X.env x=pure x:=by intro _;rfl) (hs2:∀ s H fp x,foldedSetIterable i2 (qq X N' scope s H fp).env x=pure x:=by intro _ _ _ _;rfl) :
  E3 X (.ListComp elt [⟨tg,iter,ifs,0⟩,⟨t2,i2,f2,0⟩] scope pos) (qnX wi g tif wi2 g2 tif2 te m):=
 XY (qka (g:=lG X.K g) (tif:=lT X.K tif) (wi2:=lI X.K wi2) (g2:=lG X.K g2) (tif2:=lT X.K tif2) (te:=lE X.K te) hc hi hg hf hi2 hg2 hf2 he hsc hcap hs hs2) fun σ H Q ⟨τ,G,q,rl,h,af⟩=>by
  refine ⟨τ,G,_,rl,h,fun items stay G1 h1 J H1 hr1 k1 ok D hD=>?_⟩
  have gD:G1 D=none:=hr1.free hD
  have h1:=h1 D gD
  have hr1':HR X.K (gu G1 D (.lst [])) (upd H1 D (.lst [])):=HR.newL hr1 hD .nil
  have k1':Kp G1 H1 (gu G1 D (.lst [])) (upd H1 D (.lst [])):=Kp.newL hD
  refine ⟨fun i n σ' H'=>n=items.length-i/\i<=items.length/\∃ τ' G',Rel X.K τ' G' σ' H'/\Kp G1 H1 G' H'/\qcO D stay g tif wi2 g2 tif2 te q (items.drop i) τ' G',
   ⟨_,rfl,Nat.zero_le _,cap m τ,_,((rl.next hr1 k1).cap m).next hr1' k1',k1',by simpa using h1⟩,?_⟩
  rintro i n σ' H' ⟨rfl,hi,τ',G',rl',k',h'⟩
  by_cases hlt:i<items.length
  ·rw [List.drop_eq_getElem_cons hlt] at h'
   obtain ⟨hst,h'⟩:=h'
   obtain ⟨go,yld,_⟩:=ok G' H' rl'.hp k' hst
   have hx:items[i]?=some items[i]:=getElem?_eq_getElem hlt
   refine .inr ⟨go i _ hx,fun v H2 y=>?_⟩
   obtain ⟨rv,hr2,k2⟩:=yld i _ v H2 hx y
   refine ⟨_,τ',G',_,rv,rl'.next hr2 k2,h',fun τ3 G3 h3 σ3 H3 rl3 k3=>⟨τ3,G3,_,rl3,h3,fun k G4 h4 H4 hr4 k4=>?_⟩⟩
   have kk:=(k2.trans k3).trans k4
   cases k with
   |false=>
    rw [if_neg Bool.false_ne_true] at h4
    refine qnY ?_
    exact ⟨_,by omega,rfl,hlt,τ3,G4,rl3.next hr4 k4,k'.trans kk,h4⟩
   |true=>
    rw [if_pos rfl] at h4
    refine qn3 ?_
    exact qhF (rl3.next hr4 k4) (k'.trans kk) h4 fun τ5 G5 σ5 H5 rl5 k5 h5=>⟨_,by omega,rfl,hlt,τ5,G5,rl5,k5,h5⟩
  ·have e:i=items.length:=by omega
   subst e
   rw [List.drop_length] at h'
   obtain ⟨_,_,stop⟩:=ok G' H' rl'.hp k' h'.1
   exact .inl ⟨stop,af _ _ h'.2 _ H' (.ref D) rl'.hp (k1.trans k')⟩
theorem qmd {elt tg iter t2 i2:Expr} {ifs f2:List Expr} {scope:Scope} {pos:Pos} (N':List Str) (m:List (Option Nat)) {wi:TI3} {g:TG3} {tif:TT3} {wi2:TI3} {g2:TG3} {tif2:TT3} {te:TE3} (hc:X.calm=true) (hi:jI3 X tg iter wi)
  (hg:∀ s H fp,jG3 (qq X N' scope s H fp) tg g) (hf:∀ s H fp,jF3 (qq X N' scope s H fp) ifs tif) (hi2:∀ s H fp,jI3 (qq X N' scope s H fp) t2 i2 wi2) (hg2:∀ s H fp,jG3 (qq X N' scope s H fp) t2 g2) (hf2:∀ s H fp,jF3 (qq X N' scope s H fp) f2 tif2) (he:∀ s H fp,jE3 (qq X N' scope s H fp) elt te)
  (hsc:qbu X.env.scope scope=true) (hcap:U4 X.N N' scope m=true) (hs:∀ x,foldedSetIterable iter X.env x=pure x:=by intro _;rfl) (hs2:∀ s H fp x,foldedSetIterable i2 (qq X N' scope s H fp).env x=pure x:=by intro _ _ _ _;rfl) :
  jE3 X (.ListComp elt [⟨tg,iter,ifs,0⟩,⟨t2,i2,f2,0⟩] scope pos) (qnX wi g tif wi2 g2 tif2 te m):=
 ⟨qoN N' m hc hi.h (fun s H fp=>(hg s H fp).h) (fun s H fp=>(hf s H fp).h) (fun s H fp=>(hi2 s H fp).h) (fun s H fp=>(hg2 s H fp).h) (fun s H fp=>(hf2 s H fp).h) (fun s H fp=>(he s H fp).h) hsc hcap hs hs2⟩
end
section
variable {X:Cx}
theorem S0:∀ {its:List Value} {ns:List Int},jk (ns.map V.int) its->IntsAre its ns
 |_,[],h=>by cases h;exact .nil
 |_,n::ns,h=>by
  cases h with
  |cons r t=>
   obtain ⟨k,rfl⟩:=r
   exact .cons n k (S0 t)
end
section
variable {X:Cx} {tg a b c:Expr} {pos:Pos}
end
def Z0 (ns:List Int):Nat:=(firstMet (fun i=>ns.getD i 0) ns.length).length
section
variable {X:Cx}
theorem S8 (hc:X.calm=true):JN X (.type "set") (fun xs H Q=>∃ (p:Addr) (ns:List Int),xs=[.ref p]/\SqL X.K H p (ns.map V.int)/\ns.length<4000/\∀ l S,H l=none->Q (.ref l) (upd H l (.set S (Z0 ns)))):=by
 intro pins s σ H xs us Q I r h
 obtain ⟨p,ns,rfl,hq,hl,q⟩:=h
 obtain ⟨u,rfl,rp⟩:=WA r
 cases (show u=Value.ref p from rp)
 obtain ⟨its,rv,pl,hz⟩:=I.list hq
 have hlen:its.length=ns.length:=by have:=rv.length;simp at this;omega
 refine call_set_list (items:=its.toArray) (ns:=ns) (I.ok.hd hc) pl.isList (by simpa using S0 rv) (by rw [size_toArray];unfold scanBound;omega) fun h' tk hs kp=>?_
 have e:(its.toArray).size=ns.length:=by rw [size_toArray];exact hlen
 rw [e] at hs
 exact ⟨.ref s.heap.objs.size,_,I.laid (t':=tk) (o:=.set (fun k'=>(firstMet (fun i=>ns.getD i 0) ns.length).any (·==k')) (Z0 ns)) (fun b o hb=>kp b o (Heap.lt_size hb) hb) (Nat.le_refl _) hs,rfl,q _ _ (I.hok.fresh (Nat.le_refl _))⟩
theorem TH:JN X (.builtin "len") (fun xs H Q=>∃ a S n,xs=[.ref a]/\H a=some (.set S n)/\Q (.int n) H):=by
 intro pins s σ H xs us Q I r h
 obtain ⟨a,S,n,rfl,ha,q⟩:=h
 obtain ⟨u,rfl,rp⟩:=WA r
 cases (show u=Value.ref a from rp)
 obtain ⟨o,es,ep,t,h1,h2,h3,_,_,h6,h7,h8⟩:=(show s.heap.SetOf (intKind X.prog X.w) a S n from I.hok a _ ha)
 refine call_len_set h1 h2 h3 h7 (by unfold scanBound at h6;omega) ⟨.int n,H,I.tok _,⟨_,by rw [h8]⟩,q⟩
def qeb (te:TE3):TE3:=fun τ G q=>te τ G fun x G1=>match x with
 |.ref p=>(match getL G1 p with|some ys=>(match RX ys with|some ns=>ns.length<4000/\q (.int (Z0 ns)) G1|none=>False)|none=>False)
 |_=>False
theorem KQ {e:Expr} {te:TE3} {p p2 pos pos2:Pos} (hc:X.calm=true) (hg:Gl X "len") (hm:X.mg "len" = none) (hg2:Gl X "set") (hm2:X.mg "set" = none) (he:jE3 X e te)
  (h1:starEach [e] X.env=(false,eval e X.env)::starEach [] X.env:=by rfl) (h2:starEach [.Call (.Name "set" p2) [e] [] pos2] X.env=(false,eval (.Call (.Name "set" p2) [e] [] pos2) X.env)::starEach [] X.env:=by rfl)
  (h3:(backTo pos (starEach [] X.env)).any (·.1)=false:=by rfl) (h4:(backTo pos2 (starEach [] X.env)).any (·.1)=false:=by rfl):jE3 X (.Call (.Name "len" p) [.Call (.Name "set" p2) [e] [] pos2] [] pos) (qeb te):=
 ⟨XY (X3 TH hg hm PySem.boot_len (YK (LC (S8 hc) hg2 hm2 (show bootBuiltins "set" = some (.type "set") by decide +kernel) (YK he.h SY h1) (he:=h1) (hpl:=h4)) SY h2) (he:=h2) (hpl:=h3)) fun _ _ _ ⟨τ,G,q,rl,h,af⟩=>zH rl h fun x G1 h1 v H1 rx hr1 k1 rl1=>by
  split at h1
  ·rename_i l
   cases rx
   split at h1
   ·rename_i ys e0
    split at h1
    ·rename_i ns e1
     obtain ⟨us,hs,r2⟩:=zT hr1 e0
     have:=ES e1
     subst this
     have:=EZ r2
     subst this
     exact ⟨l,ns,rfl,hs,h1.1,fun a S ha=>⟨a,S,_,rfl,zj,af _ _ h1.2 _ _ (.int _) (HR.laid hr1 ha) (k1.trans (Kp.laid ha))⟩⟩
    ·exact h1.elim
   ·exact h1.elim
  ·exact h1.elim⟩
end
section
variable {X:Cx} {a b:Expr} {ta tb:TE3} {pos:Pos}
end
end L3
namespace HT
open PySem PySem.Spec PyProof.Rows
section
variable {prog:Program} {w:World} {A:Around} {E:Value->Shared->Prop} {s:Shared}
end
end HT
namespace L3
open PySem PySem.Spec PyProof.Rows L2
section
variable {X:Cx} {e ek:Expr} {p2 pos:Pos}
end
section
variable {X:Cx} {a b:Expr} {ta tb:TE3} {pos:Pos}
end
abbrev Rd (sp:Sp3) (n:Nat) (t:TS3) (N:List Str):Prop:=∀ ts G q,sp ts G q->ts.length=n/\t { nx:=fun _ G'=>q .non G',rt:=q } (qk N ts) G
theorem jgn {pos:Pos} {X:Cx} {x:Str} (i:Nat) (hN:decide X.N.Nodup=true:=by kernel_rfl) (hi:X.N[i]?=some x:=by rfl) (hx:Loc X.env.scope x:=by first|exact Or.inl rfl|exact Or.inr rfl) (hf:X.fn x=true\/X.env.scope.names.lookup x=some .local:=by first|exact .inl rfl|exact .inr rfl):jG3 X (.Name x pos) (gn3 i):=
 qr (of_decide_eq_true hN) hi hx hf
end L3
namespace L2
open PySem PySem.Spec PyProof.Rows
section
variable {X:Cx} {pos:Pos}
end
end L2
namespace L3
open PySem PySem.Spec PyProof.Rows L2
section
variable {X:Cx} {pos:Pos}
end
section
variable {X:Cx} {K:PySem.W.Frag} {w:World} {mg:Str->Option Value}
inductive Ents (K:PySem.W.Frag) (w:World):List DictEntry->List (Str×T)->Prop
 |nil:Ents K w [] []
 |cons {x:Str} {tk:Tok} {u:Value} {v:V} {t:T} {es:List DictEntry} {tab:List (Str×T)}:jO v u->(∀ H,Rp K H t v)->Ents K w es tab->Ents K w (⟨PyData.keyHash w.params x,.str x tk,u⟩::es) ((x,t)::tab)
def jU:List (Str×T)->Str->Option T
 |[],_=>none
 | (y,t)::r,x=>if y=x then some t else jU r x
structure Tb (K:PySem.W.Frag) (mg:Str->Option Value) (w:World) (x:Str) (tab:List (Str×T)):Prop where
 at_:∃ (d:Addr) (es:Array DictEntry) (ep:Nat),mg x=some (.ref d)/\K.lookup d=some ⟨.type "dict",none,.dict es ep,#[]⟩/\(d==sysModules)=false/\Ents K w es.toList tab
theorem Ents.keys {P:Program}:∀ {es:List DictEntry} {tab:List (Str×T)},Ents K w es tab->∀ e∈es,∃ k,(PySem.strKind P w).is k e.key=true/\e.hash=(PySem.strKind P w).hash k
 |_,_,.nil,e,h=>by cases h
 |_,_,.cons (x:=x) a b t,e,h=>by
  rcases mem_cons.mp h with rfl|h
  ·exact ⟨x,by show (x==x)=true;simp,rfl⟩
  ·exact Ents.keys t e h
theorem Ents.find:∀ {es:List DictEntry} {tab:List (Str×T)} (x:Str),Ents K w es tab ->
    (match jU tab x with
     |some t=>∃ (u:Value) (v:V),(es.find? fun e=>Value.isStrOf x e.key).map (·.val)=some u/\jO v u/\∀ H,Rp K H t v
     |none=>(es.find? fun e=>Value.isStrOf x e.key).map (·.val)=none)
  |_,_,x,.nil=>by simp [jU]
  |_,_,x,.cons (x:=y) (tk:=tk) (u:=u) (v:=v) (t:=t) (es:=es) (tab:=tab) a b r=>by
    by_cases e:y=x
    · have:Value.isStrOf x (Value.str y tk)=true:=by show (y==x)=true;simp [e]
      simp only [jU,e,if_true,List.find?_cons,this]
      subst e
      simp only [this]
      exact ⟨u,v,rfl,a,b⟩
    · have:Value.isStrOf x (Value.str y tk)=false:=by show (y==x)=false;simp [e]
      have ih:=Ents.find x r
      simp only [jU,e,if_false,List.find?_cons,this]
      exact ih
theorem Ents.map {P:Program} {h:Heap} {d:Addr} {es:Array DictEntry} {ep:Nat} {tab:List (Str×T)} (hd:h.get? d=some ⟨.type "dict",none,.dict es ep,#[]⟩) (en:Ents K w es.toList tab) :
  Heap.MapOf (PySem.strKind P w) h d (fun x=>findBy Value.isStrOf es x):=
 ⟨_,es,ep,hd,⟨rfl,rfl,rfl⟩,rfl,fun e he=>en.keys e (by simpa using he),fun _=>rfl⟩
def qqQ (K:PySem.W.Frag) (d:Addr) (tab:List (Str×T)):R2:=fun x y H Q=>x=.ref d/\∃ s t,y=.str s/\jU tab s=some t/\∀ v,Rp K H t v->Q v H
theorem qjK {d:Addr} {es:Array DictEntry} {ep:Nat} {tab:List (Str×T)} (hk:X.K.lookup d=some ⟨.type "dict",none,.dict es ep,#[]⟩) (en:Ents X.K X.w es.toList tab):IxR X (qqQ X.K d tab):=by
 intro value slice pins s σ H x y v u Q I rx ry h hs
 obtain ⟨rfl,z,t,rfl,ht,q⟩:=h
 cases rx
 obtain ⟨tk,rfl⟩:=ry
 have hd:=I.kIn _ _ hk
 have f:=en.find z
 rw [ht] at f
 obtain ⟨u,v,hf,rv,rp⟩:=f
 have hf':findBy Value.isStrOf es z=some u:=by
  unfold findBy
  rw [← Array.find?_toList]
  exact hf
 refine subscriptTail_builtinR (x:=u) ⟨_,hd,rfl⟩ PySem.F.slot_dict_getitem.lookup (wpAny_getItem_of (knd:=PySem.strKind X.prog X.w) (Q:=fun r s'=>r=u/\EP X pins σ Q r s') (k:=z) (by show (z==z)=true;simp) (en.map hd) hf' ⟨rfl,v,H,I.tok _,rv,q v (rp H)⟩) hs
def qd9 (tab:List (Str×T)) (te:TE3):TE3:=fun τ G q=>te τ G fun x G1=>match x with|.str s=>(match jU tab s with|some t=>q t G1|none=>False)|_=>False
theorem qhA {x:Str} {e:Expr} {te:TE3} {tab:List (Str×T)} {p1 pos:Pos} (tb:Tb X.K X.mg X.w x tab) (hg:Gl X x) (he:jE3 X e te) (hs:WZ e) (hd:(x==("__debug__" : Str))=false:=by decide):jE3 X (.Subscript (.Name x p1) e pos) (qd9 tab te):=by
 obtain ⟨d,es,ep,hm,hk,hn,en⟩:=tb.at_
 exact ⟨XY (qlB (qjK hk en) (qh3 hg hm (v:=.ref d) rfl hd) he.h hs) fun _ _ _ ⟨τ,G,q,rl,h,af⟩=>zH rl h fun y G1 h1 v H1 rx hr1 k1 rl1=>by
  cases y<;>try exact h1.elim
  case str z=>
   cases rx
   unfold qd9 at h
   simp only at h1
   split at h1
   ·rename_i t ht
    exact ⟨rfl,z,t,rfl,ht,fun v rv=>af.back k1 _ _ h1 _ _ rv hr1 Kp.refl⟩
   ·exact h1.elim⟩
theorem L9 (hc:X.calm=true):JN X (.builtin "min") (fun xs H Q=>∃ (p:Addr) (ns:List Int),xs=[.ref p]/\SqL X.K H p (ns.map V.int)/\ns≠[]/\∀ m∈ns,(∀ a∈ns,m<=a)->Q (.int m) H):=by
 intro pins s σ H xs us Q I r h
 obtain ⟨p,ns,rfl,hq,hne,q⟩:=h
 obtain ⟨u,rfl,rp⟩:=WA r
 cases (show u=Value.ref p from rp)
 obtain ⟨its,rv,pl,hz⟩:=I.list hq
 have hlen:its.length=ns.length:=by have:=rv.length;simp at this;omega
 have hpos:0<ns.length:=List.length_pos_iff.mpr hne
 have hp:p<s.heap.objs.size:=by obtain ⟨o,n,e,_⟩:=pl;exact Heap.lt_size e
 have vals:∀ (i:Nat) (v:Value),its.toArray[i]?=some v->∃ t,v=Value.int (ns.getD i 0) t:=fun i v hv=>by
  have hv':its[i]?=some v:=by simpa using hv
  obtain ⟨hi,_⟩:=List.getElem?_eq_some_iff.mp hv'
  have hi':i<ns.length:=by omega
  obtain ⟨u,hu,ru⟩:=rv.get (i:=i) (show (ns.map V.int)[i]?=some (V.int (ns[i])) by simp [hi'])
  rw [hv'] at hu;cases hu
  obtain ⟨t,rfl⟩:=ru
  exact ⟨t,by show Value.int ns[i] t=Value.int (ns.getD i 0) t;rw [getD_eq_getElem?_getD,getElem?_eq_getElem hi'];rfl⟩
 refine call_min_walk (wpAny_pyIter_list pl.isList ⟨s.heap.objs.size,_,_,_,_,_,_,rfl,Walks.list (A:=X.A.in1) (show X.A.in1.handled=none from I.ok.hd hc) s.heap.objs.size p (Nat.ne_of_lt hp) its.toArray,⟨⟨_,Heap.get?_push_size _ rfl,rfl,rfl⟩,?_⟩,fun b hb=>?_,by rw [size_toArray];omega,CmpOf.ints_lt (fun i=>ns.getD i 0) vals,fun v h' tk hP hk=>?_⟩)
 ·obtain ⟨o,n,e,c,_,d⟩:=pl
  exact ⟨o,Heap.get?_push_of_some _ e,c,n,d⟩
 ·have lt1:∀ n c:Nat,c<n->c<n+1:=fun n c h=>by omega
  rw [show (({ s with heap:=s.heap.push _ }:Shared).heap.objs.size)=s.heap.objs.size+1 from Heap.size_push ..]
  simp only [mem_cons,not_mem_nil,or_false] at hb
  rcases hb with rfl|rfl
  ·exact Nat.lt_succ_self _
  ·exact lt1 _ _ hp
 ·obtain ⟨b1,b2⟩:=argBest_lt (fun i=>ns.getD i 0) (its.toArray.size-1)
  obtain ⟨t,rfl⟩:=vals _ _ hP
  rw [size_toArray] at b1 b2 ⊢
  have gd:∀ j,j<ns.length->ns.getD j 0∈ns:=fun j hj=>by rw [getD_eq_getElem?_getD,getElem?_eq_getElem hj];exact List.getElem_mem hj
  refine ⟨.int _,H,I.kept (h':=h') (t':=tk) fun b o e=>hk b o (by simp;exact Nat.ne_of_lt (Heap.lt_size e)) (Heap.get?_push_of_some _ e),⟨_,rfl⟩,q _ (gd _ (by omega)) fun a ha=>?_⟩
  obtain ⟨j,hj,rfl⟩:=List.mem_iff_getElem.mp ha
  have:=b2 j (by omega)
  have e:ns.getD j 0=ns[j]:=by rw [getD_eq_getElem?_getD,getElem?_eq_getElem hj];rfl
  rw [e] at this
  exact this
def qbt:List T->Gp->Q3->Prop:=fun xs G q=>match xs with
 |[.ref p]=>(match getL G p with|some ys=>(match RX ys with|some ns=>ns≠[]/\∀ m∈ns,(∀ a∈ns,m<=a)->q (.int m) G|none=>False)|none=>False)
 |_=>False
theorem qak {K:PySem.W.Frag}:M7 K qbt (fun xs H Q=>∃ (p:Addr) (ns:List Int),xs=[.ref p]/\SqL K H p (ns.map V.int)/\ns≠[]/\∀ m∈ns,(∀ a∈ns,m<=a)->Q (.int m) H):=fun xs vs G H q Q hr rs h af=>by
 unfold qbt at h
 split at h
 ·rename_i p
  obtain ⟨v,rfl,r⟩:=KJ rs
  cases r
  split at h
  ·rename_i ys e0
   split at h
   ·rename_i ns e1
    obtain ⟨us,hs,r2⟩:=zT hr e0
    have:=ES e1
    subst this
    have:=EZ r2
    subst this
    exact ⟨p,ns,rfl,hs,h.1,fun m hm ha=>af _ _ (h.2 m hm ha) _ _ (.int _) hr Kp.refl⟩
   ·exact h.elim
  ·exact h.elim
 ·exact h.elim
theorem K1 (hc:X.calm=true):JN X (.builtin "max") (fun xs H Q=>∃ (p:Addr) (ns:List Int),xs=[.ref p]/\SqL X.K H p (ns.map V.int)/\ns≠[]/\∀ m∈ns,(∀ a∈ns,a<=m)->Q (.int m) H):=by
 intro pins s σ H xs us Q I r h
 obtain ⟨p,ns,rfl,hq,hne,q⟩:=h
 obtain ⟨u,rfl,rp⟩:=WA r
 cases (show u=Value.ref p from rp)
 obtain ⟨its,rv,pl,hz⟩:=I.list hq
 have hlen:its.length=ns.length:=by have:=rv.length;simp at this;omega
 have hpos:0<ns.length:=List.length_pos_iff.mpr hne
 have hp:p<s.heap.objs.size:=by obtain ⟨o,n,e,_⟩:=pl;exact Heap.lt_size e
 have vals:∀ (i:Nat) (v:Value),its.toArray[i]?=some v->∃ t,v=Value.int (ns.getD i 0) t:=fun i v hv=>by
  have hv':its[i]?=some v:=by simpa using hv
  obtain ⟨hi,_⟩:=List.getElem?_eq_some_iff.mp hv'
  have hi':i<ns.length:=by omega
  obtain ⟨u,hu,ru⟩:=rv.get (i:=i) (show (ns.map V.int)[i]?=some (V.int (ns[i])) by simp [hi'])
  rw [hv'] at hu;cases hu
  obtain ⟨t,rfl⟩:=ru
  exact ⟨t,by show Value.int ns[i] t=Value.int (ns.getD i 0) t;rw [getD_eq_getElem?_getD,getElem?_eq_getElem hi'];rfl⟩
 refine call_max_walk (wpAny_pyIter_list pl.isList ⟨s.heap.objs.size,_,_,_,_,_,_,rfl,Walks.list (A:=X.A.in1) (show X.A.in1.handled=none from I.ok.hd hc) s.heap.objs.size p (Nat.ne_of_lt hp) its.toArray,⟨⟨_,Heap.get?_push_size _ rfl,rfl,rfl⟩,?_⟩,fun b hb=>?_,by rw [size_toArray];omega,CmpOf.ints_gt (fun i=>ns.getD i 0) vals,fun v h' tk hP hk=>?_⟩)
 ·obtain ⟨o,n,e,c,_,d⟩:=pl
  exact ⟨o,Heap.get?_push_of_some _ e,c,n,d⟩
 ·have lt1:∀ n c:Nat,c<n->c<n+1:=fun n c h=>by omega
  rw [show (({ s with heap:=s.heap.push _ }:Shared).heap.objs.size)=s.heap.objs.size+1 from Heap.size_push ..]
  simp only [mem_cons,not_mem_nil,or_false] at hb
  rcases hb with rfl|rfl
  ·exact Nat.lt_succ_self _
  ·exact lt1 _ _ hp
 ·obtain ⟨b1,b2⟩:=argBest_gt (fun i=>ns.getD i 0) (its.toArray.size-1)
  obtain ⟨t,rfl⟩:=vals _ _ hP
  rw [size_toArray] at b1 b2 ⊢
  have gd:∀ j,j<ns.length->ns.getD j 0∈ns:=fun j hj=>by rw [getD_eq_getElem?_getD,getElem?_eq_getElem hj];exact List.getElem_mem hj
  refine ⟨.int _,H,I.kept (h':=h') (t':=tk) fun b o e=>hk b o (by simp;exact Nat.ne_of_lt (Heap.lt_size e)) (Heap.get?_push_of_some _ e),⟨_,rfl⟩,q _ (gd _ (by omega)) fun a ha=>?_⟩
  obtain ⟨j,hj,rfl⟩:=List.mem_iff_getElem.mp ha
  have:=b2 j (by omega)
  have e:ns.getD j 0=ns[j]:=by rw [getD_eq_getElem?_getD,getElem?_eq_getElem hj];rfl
  rw [e] at this
  exact this
def qaR:List T->Gp->Q3->Prop:=fun xs G q=>match xs with
 |[.ref p]=>(match getL G p with|some ys=>(match RX ys with|some ns=>ns≠[]/\∀ m∈ns,(∀ a∈ns,a<=m)->q (.int m) G|none=>False)|none=>False)
 |_=>False
theorem qaq {K:PySem.W.Frag}:M7 K qaR (fun xs H Q=>∃ (p:Addr) (ns:List Int),xs=[.ref p]/\SqL K H p (ns.map V.int)/\ns≠[]/\∀ m∈ns,(∀ a∈ns,a<=m)->Q (.int m) H):=fun xs vs G H q Q hr rs h af=>by
 unfold qaR at h
 split at h
 ·rename_i p
  obtain ⟨v,rfl,r⟩:=KJ rs
  cases r
  split at h
  ·rename_i ys e0
   split at h
   ·rename_i ns e1
    obtain ⟨us,hs,r2⟩:=zT hr e0
    have:=ES e1
    subst this
    have:=EZ r2
    subst this
    exact ⟨p,ns,rfl,hs,h.1,fun m hm ha=>af _ _ (h.2 m hm ha) _ _ (.int _) hr Kp.refl⟩
   ·exact h.elim
  ·exact h.elim
 ·exact h.elim
end
inductive Cv:List Str->List V->List (Value×Value)->Prop
 |nil:Cv [] [] []
 |cons {k:Str} {tk:Tok} {v:V} {u:Value} {ks:List Str} {xs:List V} {vs:List (Value×Value)}:jO v u->Cv ks xs vs->Cv (k::ks) (v::xs) ((.str k tk,u)::vs)
structure jD3 (X:Cx) (keys:List (Option Expr)) (values:List Expr) (ks:List Str) (t:TA3):Prop where
 h:∀ (pos:Pos) (pins:List (Addr×Obj)) (s:Shared) (σ:L2.St) (H:Hp) (Q:List V->Hp->Prop),Inv X pins σ H s->lA X.K t σ H Q ->
  wpAny (model X.prog X.w) X.A (evalPairs (pairTrees keys values X.env pos)) (fun vs s'=>∃ xs H',Inv X pins σ H' s'/\Cv ks xs vs/\Q xs H') X.xe s
 len:keys.length=values.length
 all:(keys.all fun x=>x.isSome)=true
section
variable {X:Cx}
theorem qkn:jD3 X [] [] [] qh:=
 ⟨fun pos pins s σ H Q I ⟨τ,G,q,rl,h,af⟩=>by
  show wpAny _ _ (evalPairs []) _ _ _
  exact wpAny_pure ⟨[],H,I,.nil,af _ _ h _ _ .nil rl.hp Kp.refl⟩,rfl,rfl⟩
theorem C9 {k:Str} {j:Nat} {kp:Pos} {v:Expr} {tv:TE3} {keys:List (Option Expr)} {values:List Expr} {ks:List Str} {t:TA3} (hv:jE3 X v tv) (r:jD3 X keys values ks t) :
  jD3 X (some (.Constant (.str k) j kp)::keys) (v::values) (k::ks) (qc tv t):=
 ⟨fun pos pins s σ H Q I ⟨τ,G,q,rl,h,af⟩=>by
  show wpAny _ _ (evalPairs ((eval (.Constant (.str k) j kp) X.env,do let x←eval v X.env;standAt pos;pure x)::pairTrees keys values X.env pos)) _ _ _
  refine evalPairs_cons (thn (qfp (X:=X) (x:=k) (j:=j) (pos:=kp) pins s σ H (fun y H'=>y=.str k/\H'=H) I ⟨rfl,rfl⟩) fun kv s1 ⟨y,H1,I1,ry,ey,eH⟩=>?_)
  subst ey;subst eH
  obtain ⟨tk,rfl⟩:=ry
  refine wpAny_bind (thn (hv.h pins s1 σ H1 (fun x H2=>lA X.K t σ H2 fun xs H3=>Q (x::xs) H3) I1 (zH rl h fun x G1 h1 v H2 rx hr1 k1 rl1=>⟨τ,G1,_,rl1,h1,fun xs G2 h2 vs H3 rs hr2 k2=>af _ _ h2 _ _ (.cons (rx.keep hr1 k2) rs) hr2 (k1.trans k2)⟩)) fun u s2 ⟨x,H2,I2,rx,q2⟩=>?_)
  refine wpAny_bind (wpAny_standAt (wpAny_pure ?_))
  exact thn (r.h pos pins s2 σ H2 _ I2 q2) fun vs s3 ⟨xs,H3,I3,cv,q3⟩=>⟨x::xs,H3,I3,.cons rx cv,q3⟩,by simp [r.len],by simpa using r.all⟩
theorem Cv.carries {P:Program} {w:World}:∀ {ks:List Str} {xs:List V} {vs:List (Value×Value)},Cv ks xs vs->Carries (PySem.strKind P w) vs (ks.zip (vs.map (·.2)))
 |_,_,_,.nil=>True.intro
 |_,_,_,.cons (k:=k) r t=>⟨by show (k==k)=true;simp,rfl,t.carries⟩
theorem Cv.len:∀ {ks:List Str} {xs:List V} {vs:List (Value×Value)},Cv ks xs vs->ks.length=vs.length
 |_,_,_,.nil=>rfl
 |_,_,_,.cons _ t=>by simp [t.len]
def qdQ:List Str->List V->Str->Option V
 |k::ks,v::vs,x=>if k=x then some v else qdQ ks vs x
 |_,_,_=>none
theorem Cv.get:∀ {ks:List Str} {xs:List V} {vs:List (Value×Value)} {x:Str} {v:V},Cv ks xs vs->qdQ ks xs x=some v->∃ u,valueAt (ks.zip (vs.map (·.2))) x=some u/\jO v u
 |_,_,_,x,v,.nil,h=>by simp [qdQ] at h
 |_,_,_,x,v,.cons (k:=k) (u:=u) r t,h=>by
  by_cases e:k=x
  ·simp [qdQ,e] at h
   subst h
   exact ⟨u,by simp [valueAt,e],r⟩
  ·simp [qdQ,e] at h
   obtain ⟨u',h1,h2⟩:=Cv.get t h
   exact ⟨u',by simpa [valueAt,e] using h1,h2⟩
def qpC (ks:List Str) (tv:TA) (te:TE):TE:=fun σ H Q=>tv σ H fun xs H1=>te σ H1 fun y H2=>∃ k v,y=.str k/\qdQ ks xs k=some v/\Q v H2
theorem qhp {keys:List (Option Expr)} {values:List Expr} {ks:List Str} {t:TA3} {e:Expr} {te:TE} {p1 pos:Pos} (hd:jD3 X keys values ks t) (he:PE X e te) (hs:WZ e) (nd:ks.Nodup) (ne:keys≠[]) (h15:keys.length<=15) :
  PE X (.Subscript (.Dict keys values p1) e pos) (qpC ks (lA X.K t) te):=by
 intro pins s σ H Q I hl
 refine Subscript_ ?_
 refine wpAny_Dict_walk (knd:=PySem.strKind X.prog X.w) hd.all hd.len ne h15 ?_
 have hsz:=I.sz
 have hlt:=I.lt
 have I0:Inv X pins σ H { s with heap:=s.heap.push { cls:=.type "dict",data:=.dict #[] } }:=I.kept (t':=s.toks) fun b o e=>Heap.get?_push_of_some _ e
 have ok0:H s.heap.objs.size=none/\s.heap.objs.size≠X.env.locals/\s.heap.objs.size∉X.fs:=⟨I.fresh,fun z=>Nat.lt_irrefl _ (z▸hlt),I.nofs (Nat.le_refl _)⟩
 have hcell:∀ x c,X.env.cells.lookup x=some c->c≠s.heap.objs.size:=fun x c e z=>by
  obtain ⟨v,o,ho,_⟩:=I.cell x c e
  have:=Heap.lt_size ho
  rw [z] at this
  exact Nat.lt_irrefl _ this
 have hpin:∀ p∈X.pn++pins,p.1≠s.heap.objs.size:=fun p hp z=>by
  have:=Heap.lt_size (I.pin p hp).1
  rw [z] at this
  exact Nat.lt_irrefl _ this
 have Ip:Inv X (pins++[(s.heap.objs.size,{ cls:=.type "dict",data:=.dict #[] })]) σ H { s with heap:=s.heap.push { cls:=.type "dict",data:=.dict #[] } }:=I0.pins_of fun p hp=>by
  rcases List.mem_append.mp hp with z|z
  ·exact I0.pin p (mem_append_right _ z)
  ·simp only [List.mem_singleton] at z
   subst z
   exact ⟨Heap.get?_push_size _ rfl,ok0.1,ok0.2.1,ok0.2.2,fun v=>by simp⟩
 refine thn (hd.h p1 _ _ σ H _ Ip hl) fun vs s1 ⟨xs,H1,I1,cv,q1⟩=>?_
 have p1':=I1.pin (s.heap.objs.size,{ cls:=.type "dict",data:=.dict #[] }) (by simp)
 have hkeys:(List.map (fun x=>x.fst) (ks.zip (vs.map (·.2))))=ks:=by
  have:=cv.len
  rw [List.map_fst_zip (by simp;omega)]
 refine ⟨ks.zip (vs.map (·.2)),cv.carries,⟨_,#[],0,p1'.1,⟨rfl,rfl,rfl⟩,rfl,fun e he=>by simp at he,by first|exact True.intro|constructor,by simp⟩,fun h' hd' hsame=>?_⟩
 rw [merged_nil_of_nodup _ (by rw [hkeys];exact nd)] at hd'
 have I1u:Inv X pins σ H1 s1:=I1.unpinned
 have I2:Inv X pins σ H1 { heap:=h',gens:=s1.gens,drawn:=s1.drawn,toks:=s1.toks+vs.length,os:=s1.os }:=
  I1u.turned (it:=s.heap.objs.size) (fun b o hb e=>by rw [hsame.2 b hb];exact e) p1'.2.1 ok0.2.1 (.inr hsz) hcell hpin
 obtain ⟨o,es,ep,ho,hx,hdata,hk,hp,hn⟩:=hd'
 have I3:Inv X (pins++[(s.heap.objs.size,o)]) σ H1 { heap:=h',gens:=s1.gens,drawn:=s1.drawn,toks:=s1.toks+vs.length,os:=s1.os }:=I2.pins_of fun p hp=>by
  rcases List.mem_append.mp hp with z|z
  ·exact I2.pin p (mem_append_right _ z)
  ·simp only [List.mem_singleton] at z
   subst z
   exact ⟨ho,p1'.2.1,ok0.2.1,ok0.2.2,fun v=>by rw [hdata];simp⟩
 refine thn (he _ _ σ H1 _ I3 q1) fun u s2 ⟨y,H2,I4,ry,k,v,ey,hg,q2⟩=>?_
 subst ey
 obtain ⟨tk,rfl⟩:=ry
 have po:=I4.pin (s.heap.objs.size,o) (by simp)
 have dd:s2.heap.DictOf (PySem.strKind X.prog X.w) s.heap.objs.size (ks.zip (vs.map (·.2))):=⟨o,es,ep,po.1,hx,hdata,hk,hp,hn⟩
 obtain ⟨u,hu,ru⟩:=cv.get hg
 exact subscriptTail_builtinR (x:=u) ⟨_,po.1,hx.1⟩ PySem.F.slot_dict_getitem.lookup (wpAny_getItem_of (knd:=PySem.strKind X.prog X.w) (Q:=fun r s'=>r=u/\EP X pins σ Q r s') (k:=k) (by show (k==k)=true;simp) dd.mapOf hu ⟨rfl,v,H2,I4.unpinned.tok _,ru,q2⟩) (hs _ _)
def qhj (ks:List Str) (t:TA3) (te:TE3):TE3:=fun τ G q=>t τ G fun xs G1=>te τ G1 fun y G2=>match y with|.str k=>(match jU (ks.zip xs) k with|some x=>q x G2|none=>False)|_=>False
theorem qbM {K:PySem.W.Frag} {H:Hp}:∀ {ks:List Str} {xs:List T} {vs:List V} {k:Str} {x:T},Rps K H xs vs->jU (ks.zip xs) k=some x->∃ v,qdQ ks vs k=some v/\Rp K H x v
 |[],_,_,k,x,_,h=>by simp [jU] at h
 |_::_,_,_,k,x,.nil,h=>by simp [jU] at h
 |y::ks,_,_,k,x,.cons (v:=v) r t,h=>by
  by_cases e:y=k
  ·simp [jU,e] at h
   subst h
   exact ⟨v,by simp [qdQ,e],r⟩
  ·simp [jU,e] at h
   obtain ⟨v,h1,h2⟩:=qbM t h
   exact ⟨v,by simpa [qdQ,e] using h1,h2⟩
theorem qhr {keys:List (Option Expr)} {values:List Expr} {ks:List Str} {t:TA3} {e:Expr} {te:TE3} {p1 pos:Pos} (hd:jD3 X keys values ks t) (he:jE3 X e te) (hs:WZ e:=by intro _ _;rfl) (nd:ks.Nodup:=by decide) (ne:keys≠[]:=by simp) (h15:keys.length<=15:=by decide) :
  jE3 X (.Subscript (.Dict keys values p1) e pos) (qhj ks t te):=
 ⟨XY (qhp hd he.h hs nd ne h15) fun σ H Q ⟨τ,G,q,rl,h,af⟩=>
  ⟨τ,G,_,rl,h,fun xs G1 h1 vs H1 rs hr1 k1=>zH (rl.next hr1 k1) h1 fun y G2 h2 v H2 ry hr2 k2 rl2=>by
   cases y<;>try exact h2.elim
   case str k=>
    cases ry
    simp only at h2
    split at h2
    ·rename_i x hx
     obtain ⟨v,hv,rv⟩:=qbM (rs.keep hr1 k2) hx
     exact ⟨k,v,rfl,hv,af _ _ h2 _ _ rv hr2 (k1.trans k2)⟩
    ·exact h2.elim⟩⟩
end
theorem qap {K:PySem.W.Frag} {p:Addr} {od:Option Addr} {n:Nat} {sl:Array (Option Value)} {i j:Int} {ti tj:Tok} (h:K.lookup p=some ⟨.type "tuple",od,.seq #[.int i ti,.int j tj] n,sl⟩):∀ H,Rp K H (.tup [.int i,.int j]) (.ref p):=fun H=>
 .tup (vs:=[.int i,.int j]) (.inr ⟨_,_,_,h,rfl,rfl,by show 2<=sizeLine;decide,.cons ⟨_,rfl⟩ (.cons ⟨_,rfl⟩ .nil)⟩) (.cons (.int _) (.cons (.int _) .nil))
def DG:List (Str×T):=[("row",.tup [.int 0,.int 1]),("column",.tup [.int 1,.int 0]),("slant",.tup [.int 1,.int 1]),("back",.tup [.int 1,.int (-1)])]
open PySem.SeqAt
def qdE (dx:PyData):List PyData->Option Bool
 |[]=>some false
 |d::ds=>(match JD d dx,qdE dx ds with|some b,some c=>some (b||c)|_,_=>none)
theorem qas {dx:PyData}:∀ {ds:List PyData} {b:Bool},qdE dx ds=some b->∃ bs:List Bool,bs.length=ds.length/\(∀ (j:Nat) d,ds[j]?=some d->∃ c,bs[j]?=some c/\JD d dx=some c)/\b=bs.any id
 |[],b,h=>by simp [qdE] at h;subst h;exact ⟨[],rfl,fun j d hd=>by simp at hd,rfl⟩
 |d::ds,b,h=>by
  unfold qdE at h
  split at h
  ·rename_i b1 c1 e1 e2
   cases h
   obtain ⟨bs,hl,ha,hb⟩:=qas e2
   refine ⟨b1::bs,by simp [hl],fun j d' hd=>?_,by simp [hb]⟩
   cases j with
   |zero=>simp at hd;subst hd;exact ⟨b1,rfl,e1⟩
   |succ j=>simpa using ha j d' (by simpa using hd)
  ·cases h
section
variable {X:Cx} {pins:List (Addr×Obj)} {σ:L2.St} {H:Hp} {s:Shared}
theorem qdl (I:Inv X pins σ H s) {x:V} {dx:PyData} {v:Value} {xs:List V} {ds:List PyData} {its:List Value} {b:Bool} (hu:X.A.units+64<cLine) (hx:DV X.K H x dx) (rx:jO x v) (hs:DVs X.K H xs ds) (rs:jk xs its) (hb:qdE dx ds=some b) (hd:∀ d∈ds,dpt d<=40) :
  ∃ e:Value->Bool,(∀ y∈its,EqAt X.A.in1 s y v (e y))/\its.any e=b:=by
 obtain ⟨bs,hl,ha,rfl⟩:=qas hb
 have un:X.A.in1.units+40<cLine:=by
  have:X.A.in1.units<=X.A.units+8:=by first|(show X.A.units+1<=_;omega)|(show X.A.units<=_;omega)|(simp [Around.in1];omega)
  omega
 have at_:∀ (j:Nat) y,its[j]?=some y->∃ c,bs[j]?=some c/\EqAt X.A.in1 s y v c:=fun j y hj=>by
  obtain ⟨hj1,_⟩:=List.getElem?_eq_some_iff.mp hj
  have hxl:j<xs.length:=by rw [rs.length];exact hj1
  obtain ⟨u,hu',ru⟩:=rs.get (getElem?_eq_getElem hxl)
  rw [hj] at hu';cases hu'
  obtain ⟨d,hd1,hd2⟩:=hs.get (getElem?_eq_getElem hxl)
  obtain ⟨c,hc1,hc2⟩:=ha j d hd1
  exact ⟨c,hc1,(KA I 40 hd2 hx hc2 (hd d (mem_of_getElem? hd1)) un ru rx).2⟩
 classical
 refine ⟨fun y=>decide (∃ j:Nat,its[j]?=some y/\bs[j]?=some true),fun y hy=>?_,?_⟩
 ·by_cases he:∃ j:Nat,its[j]?=some y/\bs[j]?=some true
  ·obtain ⟨j,h1,h2⟩:=id he
   obtain ⟨c,hc,eq⟩:=at_ j y h1
   rw [h2] at hc;cases hc
   simpa [he] using eq
  ·obtain ⟨j,hj,e⟩:=List.mem_iff_getElem.mp hy
   have hj':its[j]?=some y:=by rw [getElem?_eq_getElem hj,e]
   obtain ⟨c,hc,eq⟩:=at_ j y hj'
   cases c with
   |true=>exact absurd ⟨j,hj',hc⟩ he
   |false=>simpa [he] using eq
 ·rw [Bool.eq_iff_iff,List.any_eq_true,List.any_eq_true]
  constructor
  ·rintro ⟨y,_,hy⟩
   obtain ⟨j,_,h2⟩:=of_decide_eq_true hy
   exact ⟨true,mem_of_getElem? h2,rfl⟩
  ·rintro ⟨c,hc,e⟩
   have:c=true:=e
   subst this
   obtain ⟨j,hj,ej⟩:=List.mem_iff_getElem.mp hc
   have hl2:its.length=bs.length:=by rw [← rs.length,hs.length,hl]
   have hj2:j<its.length:=by omega
   exact ⟨its[j],List.getElem_mem hj2,decide_eq_true ⟨j,getElem?_eq_getElem hj2,by rw [getElem?_eq_getElem hj,ej]⟩⟩
def qqv (K:PySem.W.Frag) (neg:Bool):R2:=fun x y H Q=>∃ p xs dx ds b,y=.ref p/\(SqL K H p xs\/SqT K H p xs)/\DV K H x dx/\DVs K H xs ds/\qdE dx ds=some b/\(∀ d∈ds,dpt d<=40)/\Q (.bl (if neg then !b else b)) H
theorem qcC (hu:X.A.units+64<cLine):OpR X (compareOp .NotIn) (qqv X.K true):=by
 intro pins s σ H x y v u Q I rx ry h
 obtain ⟨p,xs,dx,ds,b,rfl,hq,hx,hs,hb,hd,q⟩:=h
 cases ry
 rcases hq with hq|hq
 ·obtain ⟨its,r,pl,hz⟩:=I.list hq
  obtain ⟨e,he,ha⟩:=qdl I hu hx rx hs r hb hd
  refine SeqAt.notIn_listAt e pl.isList (fun w hw=>he w (by simpa using hw)) ⟨.bl _,H,I,rfl,?_⟩
  rw [show its.toArray.any e=its.any e by simp,ha]
  exact q
 ·obtain ⟨its,r,pl,hz⟩:=I.tuple hq
  obtain ⟨e,he,ha⟩:=qdl I hu hx rx hs r hb hd
  refine SeqAt.notIn_tupleAt e pl (fun w hw=>he w (by simpa using hw)) ⟨.bl _,H,I,rfl,?_⟩
  rw [show its.toArray.any e=its.any e by simp,ha]
  exact q
end
def qp8 (neg:Bool):R3:=fun x y G q=>∃ ys dx ds b,jD G y=some ys/\Dp G x dx/\Dps G ys ds/\qdE dx ds=some b/\(∀ d∈ds,dpt d<=40)/\q (.bl (if neg then !b else b)) G
theorem qhG {K:PySem.W.Frag} {neg:Bool}:CY K (qp8 neg) (qqv K neg):=fun x y v u G H q Q hr rx ry h af=>by
 obtain ⟨ys,dx,ds,b,h1,h2,h3,h4,h5,h6⟩:=h
 cases y with
 |tup zs=>
  simp [jD] at h1
  subst h1
  cases ry with
  |tup hs rs=>exact ⟨_,_,dx,ds,b,rfl,.inr hs,h2.dv hr rx,h3.dv hr rs,h4,h5,af _ G h6 _ H (.bl _) hr Kp.refl⟩
 |ref p=>
  simp [jD] at h1
  cases ry
  obtain ⟨us,hs,rs⟩:=zT hr h1
  exact ⟨_,_,dx,ds,b,rfl,.inl hs,h2.dv hr rx,h3.dv hr rs,h4,h5,af _ G h6 _ H (.bl _) hr Kp.refl⟩
 |_=>simp [jD] at h1
end L3
namespace HT
open PySem PySem.Spec PyProof.Rows L2
section
open PySem.SeqAt
open PySem.MeetsSeq PySem.MeetsSeq2 PySem.MeetsSeq3
end
section
variable {prog:Program} {w:World} {A:Around} {E:Value->Shared->Prop} {s:Shared}
end
end HT
namespace L3
open PySem PySem.Spec PyProof.Rows L2
section
variable {X:Cx}
end
def W8:Sp3:=fun _ _ _=>False
theorem DI {P:Program} {w:World} {K:PySem.W.Frag} {mg:Str->Option Value} {base:Heap} {x qual:Str} {st:Stmt} {f:Addr} {fd:FuncData} {ps:List Str} (F:Fun K x qual st f fd) (bd:zd K fd ps []) (hm:mg x=some (.ref f)):Fn3 P w K mg base 0 x W8:=
 ⟨f,fd,ps,⟨fun vs H Q E ⟨_,_,_,_,_,h,_⟩=>h.elim,fun A outer s H args us vs Q E _ _ _ _ ⟨_,_,_,_,_,h,_⟩=>h.elim⟩,bd,F.kp,hm⟩
theorem ixT (xs:List T) (i:Int) (G:Gp) (q:Q3):ix3 (.tup xs) (.int i) G q=(match L2.atI xs i with|some z=>q z G|none=>False):=rfl
theorem ixR (p:Addr) (i:Int) (G:Gp) (q:Q3):ix3 (.ref p) (.int i) G q=(match getL G p with|some xs=>(match L2.atI xs i with|some z=>q z G|none=>False)|none=>False):=rfl
theorem ju {α:Type} {xs:List α} {i:Int} (h0:0<=i) (h1:i<(xs.length:Int)):L2.atI xs i=xs[i.toNat]?:=by
 unfold L2.atI ixN
 have e1:i.toNat<xs.length:=by omega
 simp [h0,e1,h1]
theorem LV:¬ Str.ofString "row" = Str.ofString "block" := by decide
theorem NG:¬ Str.ofString "row" = Str.ofString "step" := by decide
theorem KS:¬ Str.ofString "row" = Str.ofString "cells" := by decide
theorem RO:¬ Str.ofString "column" = Str.ofString "block" := by decide
theorem RY:¬ Str.ofString "column" = Str.ofString "step" := by decide
theorem RJ:¬ Str.ofString "column" = Str.ofString "cells" := by decide
theorem R8:¬ Str.ofString "slant" = Str.ofString "block" := by decide
theorem KB:¬ Str.ofString "slant" = Str.ofString "step" := by decide
theorem R0:¬ Str.ofString "slant" = Str.ofString "cells" := by decide
theorem TB:¬ Str.ofString "back" = Str.ofString "block" := by decide
theorem LQ:¬ Str.ofString "back" = Str.ofString "step" := by decide
theorem TQ:¬ Str.ofString "back" = Str.ofString "cells" := by decide
theorem UP:¬ Str.ofString "block" = Str.ofString "cells" := by decide
theorem DL:¬ Str.ofString "step" = Str.ofString "block" := by decide
theorem EJ:¬ Str.ofString "step" = Str.ofString "cells" := by decide
theorem cm {i j:Int} (h1:-1000000<j) (h2:j<1000000):ZF i j:=.inr ⟨by omega,by omega⟩
theorem cm' {i j:Int} (h1:-1000000<i) (h2:i<1000000):ZF i j:=.inl ⟨by omega,by omega⟩
theorem EM {stay:Gp->Prop} {g:TG3} {tif:TT3} {te:TE3} {q:Q3} (items:List T) (Pv:Nat->List T->St3->Gp->Prop) {τ:St3} {G:Gp} (h0:Pv 0 [] τ G) (hst:∀ i ys τ G,i<=items.length->Pv i ys τ G->stay G)
  (hs:∀ i x ys τ G (R:List T->St3->Gp->Prop),items[i]?=some x->Pv i ys τ G->(∀ ys' τ' G',Pv (i+1) ys' τ' G'->R ys' τ' G') ->
   g x τ G fun τ2 G2=>tif τ2 G2 fun k G3=>if k=true then te τ2 G3 fun y G4=>ys.length<sizeLine/\R (ys++[y]) τ2 G4 else R ys τ2 G3)
  (hd:∀ ys τ G,Pv items.length ys τ G->∀ p,G p=none->q (.ref p) (gu G p (.lst ys))):RV stay g tif te q items [] τ G:=by
 have key:∀ (r:List T) (i:Nat) ys τ G,items.drop i=r->i<=items.length->Pv i ys τ G->RV stay g tif te q r ys τ G:=by
  intro r
  induction r with
  |nil=>
   intro i ys τ G e hi p
   have:i=items.length:=by have:=congrArg List.length e;simp at this;omega
   subst this
   exact ⟨hst _ ys τ G hi p,hd ys τ G p⟩
  |cons x r ih=>
   intro i ys τ G e hi p
   have hl:i<items.length:=by
    apply Classical.byContradiction
    intro z
    rw [List.drop_eq_nil_of_le (by omega)] at e
    cases e
   have e':=List.drop_eq_getElem_cons hl
   rw [e] at e'
   injection e' with e1 e2
   exact ⟨hst i ys τ G hi p,hs i x ys τ G _ (by rw [getElem?_eq_getElem hl,e1]) p fun ys2 τ2 G2 p2=>ih (i+1) ys2 τ2 G2 e2.symm hl p2⟩
 exact key items 0 [] τ G (by simp) (Nat.zero_le _) h0
theorem N6 {stay:Gp->Prop} {g:TG3} {te:TE3} {q:Q3} {G:Gp} (f:T->T) (Ok:St3->Prop) (hst:stay G):∀ (items ys:List T) (τ:St3),Ok τ ->
  (∀ x∈items,∀ τ,Ok τ->∀ R:St3->T->Gp->Prop,(∀ τ',Ok τ'->R τ' (f x) G)->g x τ G fun τ2 G2=>te τ2 G2 fun y G4=>R τ2 y G4) ->
  ys.length+items.length<sizeLine->(∀ p,G p=none->q (.ref p) (gu G p (.lst (ys++items.map f))))->RV stay g tt3 te q items ys τ G
 |[],ys,τ,_,_,_,h=>⟨hst,by simpa using h⟩
 |x::r,ys,τ,ok,step,len,h=>by
  refine ⟨hst,?_⟩
  have e:(fun τ2 G2=>tt3 τ2 G2 fun k G3=>if k=true then te τ2 G3 fun y G4=>ys.length<sizeLine/\RV stay g tt3 te q r (ys++[y]) τ2 G4 else RV stay g tt3 te q r ys τ2 G3)=(fun τ2 G2=>te τ2 G2 fun y G4=>ys.length<sizeLine/\RV stay g tt3 te q r (ys++[y]) τ2 G4):=by
   funext τ2 G2;simp [tt3]
  rw [e]
  rw [length_cons] at len
  refine step x List.mem_cons_self τ ok _ fun τ' ok'=>⟨by omega,N6 f Ok hst r (ys++[f x]) τ' ok' (fun z hz=>step z (List.mem_cons_of_mem _ hz)) (by rw [length_append,List.length_singleton];omega) fun p hp=>?_⟩
  simpa using h p hp
theorem TX {lo:Int} {n i:Nat} {x:T} (h:(qan lo n)[i]?=some x):i<n/\x=T.int (lo+(i:Int)):=by
 unfold qan at h
 rw [getElem?_map] at h
 cases e:(List.range n)[i]? with
 |none=>rw [e] at h;cases h
 |some k=>
  rw [e] at h
  obtain ⟨hi,hk⟩:=List.getElem?_eq_some_iff.mp e
  simp at hi hk
  subst hk
  exact ⟨hi,by simpa using h.symm⟩
theorem ZB (lo:Int) (n:Nat):(qan lo n).length=n:=by simp [qan]
end L3
namespace Bk
open PySem L2 L3
def JQ:TS3:=(qB (zb (QT (fun t=>jn t "int") (v3 0)) (jg (QT (fun t=>jn t "bool") (v3 0)))))
def EO (S_is_number:Sp3):TS3:=(qB (zb (QT (fun t=>jn t "tuple") (v3 0)) (zb (o3 (qZ false) (cb3 jT (qc (v3 0) qh)) (c3 (.int 2))) (zb (cb3 S_is_number (qc (o3 ix3 (v3 0) (c3 (.int 0))) qh)) (cb3 S_is_number (qc (o3 ix3 (v3 0) (c3 (.int 1))) qh))))))
def EL (S_size_of:Sp3):TS3:=(qv (qH (o3 ix3 (v3 0) (c3 (.int 0))) (gn3 1)) (qv (qV (tb3 (o3 (qZ false) (v3 1) (c3 (.str "bits")))) (qB (qU (qc (o3 (iC qa7 (fun i j=>i*2 ^ j.toNat)) (c3 (.int 1)) (o3 ix3 (v3 0) (c3 (.int 1)))) (qc (o3 (iC qa7 (fun i j=>i*2 ^ j.toNat)) (c3 (.int 1)) (o3 ix3 (v3 0) (c3 (.int 2)))) (qc (o3 (iC qa7 (fun i j=>i*2 ^ j.toNat)) (c3 (.int 1)) (cb3 jT (qc (o3 ix3 (v3 0) (c3 (.int 3))) qh))) qh))))) qt) (qv (qV (tb3 (o3 (qZ false) (v3 1) (c3 (.str "table")))) (qB (qU (qc (cb3 jT (qc (o3 ix3 (v3 0) (c3 (.int 2))) qh)) (qc (cb3 jT (qc (o3 ix3 (o3 ix3 (v3 0) (c3 (.int 2))) (c3 (.int 0))) qh)) (qc (o3 ix3 (v3 0) (c3 (.int 1))) qh))))) qt) (qv (qV (tb3 (o3 (qZ false) (v3 1) (c3 (.str "joined")))) (qv (qH (cb3 S_size_of (qc (o3 ix3 (v3 0) (c3 (.int 1))) qh)) (qM 3 (qj (gn3 2) (qj (gn3 3) (qj (gn3 4) qL))))) (qv (qH (cb3 S_size_of (qc (o3 ix3 (v3 0) (c3 (.int 2))) qh)) (qM 3 (qj (gn3 5) (qj (gn3 6) (qj (gn3 7) qL))))) (qB (qU (qc (o3 (iC ZF (·*·)) (v3 2) (v3 5)) (qc (o3 (iC ZF (·*·)) (v3 3) (v3 6)) (qc (o3 (iC ZF (·*·)) (v3 4) (v3 7)) qh))))))) qt) (qB (qU (qc (o3 ix3 (v3 0) (c3 (.int 1))) (qc (o3 ix3 (v3 0) (c3 (.int 2))) (qc (o3 ix3 (v3 0) (c3 (.int 3))) qh)))))))))
def YE (S_size_of:Sp3):TS3:=(qv (qH (cb3 S_size_of (qc (v3 0) qh)) (qM 3 (qj (gn3 2) (qj (gn3 3) (qj (gn3 4) qL))))) (qB (o3 qW (o3 (iC ZF (·*·)) (o3 ix3 (v3 1) (c3 (.int 0))) (v3 3)) (o3 ix3 (v3 1) (c3 (.int 1))))))
def ER (S_is_pair:Sp3) (S_size_of:Sp3):TS3:=(qv (qV (YT (tb3 (cb3 S_is_pair (qc (v3 1) qh)))) (qB (c3 (.bl false))) qt) (qv (qH (cb3 S_size_of (qc (v3 0) qh)) (qM 3 (qj (gn3 2) (qj (gn3 3) (qj (gn3 4) qL))))) (qB (zb (ch3 (iB fun i j=>decide (i<=j)) (iB fun i j=>decide (i<j)) (c3 (.int 0)) (o3 ix3 (v3 1) (c3 (.int 0))) (v3 2)) (ch3 (iB fun i j=>decide (i<=j)) (iB fun i j=>decide (i<j)) (c3 (.int 0)) (o3 ix3 (v3 1) (c3 (.int 1))) (v3 3))))))
def jJ:TS3:=(qv (qH (o3 (iI Builtin.bitAnd) (v3 0) (v3 1)) (gn3 2)) (qv (qH (c3 (.int 0)) (gn3 3)) (qv (XM (tb3 (o3 (iB fun i j=>decide (j<i)) (v3 2) (c3 (.int 0)))) (qv (UI 3 (iI (·+·)) (o3 (iI Builtin.bitAnd) (v3 2) (c3 (.int 1)))) (qH (o3 (iC (fun _ j=>0<=j) (fun i j=>i/2 ^ j.toNat)) (v3 2) (c3 (.int 1))) (gn3 2)))) (qB (o3 (qZ false) (o3 (iI Builtin.bitAnd) (v3 3) (c3 (.int 1))) (c3 (.int 1)))))))
def YG (S_odd_in_common:Sp3):TS3:=(qB (cb3 qiT (qc (lc3 (SZ (qc (v3 0) qh)) (qM 2 (qj (gn3 0) (qj (gn3 1) qL))) (tb3 (cb3 S_odd_in_common (qc (v3 2) (qc (v3 1) qh)))) (o3 (iC qa7 (fun i j=>i*2 ^ j.toNat)) (c3 (.int 1)) (v3 0)) [none,none,some 1]) qh)))
def XZ:TS3:=(qv (qH (v3 0) (qM 2 (qj (gn3 3) (qj (gn3 4) qL)))) (qB (qU (qc (qU (qc (o3 (iC qbs (·/·)) (v3 3) (v3 1)) (qc (o3 (iC qbs (·/·)) (v3 4) (v3 2)) qh))) (qc (qU (qc (o3 (iC (fun _ j=>0<j) (·%·)) (v3 3) (v3 1)) (qc (o3 (iC (fun _ j=>0<j) (·%·)) (v3 4) (v3 2)) qh))) qh)))))
def QU (S_size_of:Sp3) (S_parted:Sp3) (S_bank_in:Sp3):TS3:=(qv (qH (cb3 S_size_of (qc (v3 1) qh)) (qM 3 (qj (gn3 3) (qj (gn3 4) (qj (gn3 5) qL))))) (qv (qH (cb3 S_parted (qc (v3 2) (qc (v3 3) (qc (v3 4) qh)))) (qM 2 (qj (gn3 6) (qj (gn3 7) qL)))) (qB (o3 qW (o3 (iC ZF (·*·)) (cb3 S_bank_in (qc (v3 0) (qc (v3 6) qh))) (v3 5)) (cb3 S_bank_in (qc (v3 1) (qc (v3 7) qh)))))))
def DK (S_number_of:Sp3) (S_bits_bank:Sp3) (S_joined_bank:Sp3):TS3:=(qv (qH (o3 ix3 (v3 0) (c3 (.int 0))) (gn3 2)) (qv (qV (tb3 (o3 (qZ false) (v3 2) (c3 (.str "skew")))) (qB (o3 (iC (fun _ j=>0<j) (·%·)) (o3 qW (o3 (iC ZF (·*·)) (o3 ix3 (v3 0) (c3 (.int 4))) (o3 ix3 (v3 1) (c3 (.int 0)))) (o3 (iC ZF (·*·)) (o3 ix3 (v3 0) (c3 (.int 5))) (o3 ix3 (v3 1) (c3 (.int 1))))) (o3 ix3 (v3 0) (c3 (.int 3))))) qt) (qv (qV (tb3 (o3 (qZ false) (v3 2) (c3 (.str "rests")))) (qB (o3 (iC (fun _ j=>0<j) (·%·)) (cb3 S_number_of (qc (v3 0) (qc (v3 1) qh))) (o3 ix3 (v3 0) (c3 (.int 3))))) qt) (qv (qV (tb3 (o3 (qZ false) (v3 2) (c3 (.str "bits")))) (qB (cb3 S_bits_bank (qc (o3 ix3 (v3 0) (c3 (.int 3))) (qc (cb3 S_number_of (qc (v3 0) (qc (v3 1) qh))) qh)))) qt) (qv (qV (tb3 (o3 (qZ false) (v3 2) (c3 (.str "table")))) (qB (o3 ix3 (o3 ix3 (o3 ix3 (v3 0) (c3 (.int 2))) (o3 ix3 (v3 1) (c3 (.int 0)))) (o3 ix3 (v3 1) (c3 (.int 1))))) qt) (qB (cb3 S_joined_bank (qc (o3 ix3 (v3 0) (c3 (.int 1))) (qc (o3 ix3 (v3 0) (c3 (.int 2))) (qc (v3 1) qh))))))))))
def EK:TS3:=(qv (qH (o3 (iC (fun _ j=>0<j) (·%·)) (o3 (iC ZF (·*·)) (o3 qW (o3 qW (o3 (iC (fun _ j=>0<j) (·%·)) (v3 0) (c3 (.int 2147483629))) (o3 (iC ZF (·*·)) (o3 (iC ZF (·*·)) (v3 1) (v3 1)) (c3 (.int 7919)))) (c3 (.int 11))) (c3 (.int 48271))) (c3 (.int 2147483647))) (gn3 2)) (qB (o3 (iC (fun _ j=>0<j) (·%·)) (o3 (iC ZF (·*·)) (v3 2) (v3 2)) (c3 (.int 1999999973)))))
def V9:TS3:=(qv (qH (if3 (tb3 (o3 (iB fun i j=>decide (i<j)) (v3 1) (cb3 jT (qc (v3 0) qh)))) (o3 ix3 (v3 0) (v3 1)) (c3 (.int 0))) (gn3 2)) (qv (qH (if3 (tb3 (o3 (iB fun i j=>decide (j<=i)) (cb3 UD (qc (v3 2) qh)) (o3 (iC qa7 (fun i j=>i ^ j.toNat)) (c3 (.int 10)) (c3 (.int 18))))) (cb3 UD (qc (v3 2) qh)) (c3 (.int 0))) (gn3 3)) (qB (zV (qc (v3 3) (qc (o3 qW (v3 2) (o3 (iC ZF (·*·)) (c3 (.int 1000003)) (v3 1))) (qc (c3 (.int 0)) qh)))))))
def VY (S_law_mix:Sp3):TS3:=(qv (qH (o3 qW (o3 ix3 (v3 0) (c3 (.int 2))) (c3 (.int 1))) (zO (v3 0) (c3 (.int 2)))) (qv (qV (tb3 (o3 (iB fun i j=>decide (j<i)) (o3 ix3 (v3 0) (c3 (.int 0))) (c3 (.int 0)))) (qv (qH (o3 (iC (fun _ j=>0<j) (·%·)) (o3 ix3 (v3 0) (c3 (.int 0))) (v3 1)) (gn3 2)) (qv (qH (o3 (iC qbs (·/·)) (o3 ix3 (v3 0) (c3 (.int 0))) (v3 1)) (zO (v3 0) (c3 (.int 0)))) (qB (v3 2)))) qt) (qB (o3 (iC (fun _ j=>0<j) (·%·)) (o3 (iC qbs (·/·)) (cb3 S_law_mix (qc (cb3 S_law_mix (qc (o3 ix3 (v3 0) (c3 (.int 1))) (qc (o3 ix3 (v3 0) (c3 (.int 2))) qh))) (qc (o3 qW (o3 ix3 (v3 0) (c3 (.int 2))) (c3 (.int 64))) qh))) (c3 (.int 64))) (v3 1)))))
def JW (S_law_pick:Sp3):TS3:=(qv (qH (o3 ix3 (zV (qc (c3 (.int 6)) (qc (c3 (.int 6)) (qc (c3 (.int 6)) (qc (c3 (.int 16)) qh))))) (cb3 S_law_pick (qc (v3 0) (qc (c3 (.int 4)) qh)))) (gn3 1)) (qv (j7 2 3 (qc (o3 qW (c3 (.int 1)) (cb3 S_law_pick (qc (v3 0) (qc (v3 1) qh)))) (qc (o3 qW (c3 (.int 1)) (cb3 S_law_pick (qc (v3 0) (qc (v3 1) qh)))) qh))) (qB (o3 ix3 (zV (qc (qU (qc (v3 2) (qc (v3 3) qh))) (qc (qU (qc (v3 2) (qc (v3 3) qh))) (qc (qU (qc (v3 2) (qc (v3 3) qh))) (qc (qU (qc (v3 2) (qc (v3 2) qh))) qh))))) (cb3 S_law_pick (qc (v3 0) (qc (c3 (.int 4)) qh)))))))
def DU:TS3:=(qv (XM (tb3 (o3 (iB fun i j=>decide (j<i)) (v3 1) (c3 (.int 0)))) (j7 0 1 (qc (v3 1) (qc (o3 (iC (fun _ j=>0<j) (·%·)) (v3 0) (v3 1)) qh)))) (qB (v3 0)))
def V4 (S_law_sides:Sp3) (S_law_pick:Sp3):TS3:=(qv (qH (cb3 S_law_sides (qc (v3 0) qh)) (qM 2 (qj (gn3 1) (qj (gn3 2) qL)))) (qv (qH (o3 qW (c3 (.int 1)) (cb3 S_law_pick (qc (v3 0) (qc (o3 ix3 (zV (qc (c3 (.int 8)) (qc (c3 (.int 8)) (qc (c3 (.int 17)) (qc (c3 (.int 32)) qh))))) (cb3 S_law_pick (qc (v3 0) (qc (c3 (.int 4)) qh)))) qh)))) (gn3 3)) (qv (qH (o3 ix3 (zV (qc (v3 3) (qc (c3 (.int 10)) (qc (c3 (.int 100)) qh)))) (cb3 S_law_pick (qc (v3 0) (qc (c3 (.int 3)) qh)))) (gn3 4)) (qB (qU (qc (c3 (.str "skew")) (qc (v3 1) (qc (v3 2) (qc (v3 3) (qc (cb3 S_law_pick (qc (v3 0) (qc (v3 4) qh))) (qc (cb3 S_law_pick (qc (v3 0) (qc (v3 4) qh))) qh)))))))))))
def YN (S_law_sides:Sp3) (S_law_pick:Sp3) (S_law_gcd:Sp3):TS3:=(qv (qH (cb3 S_law_sides (qc (v3 0) qh)) (qM 2 (qj (gn3 1) (qj (gn3 2) qL)))) (qv (qH (o3 qW (c3 (.int 1)) (cb3 S_law_pick (qc (v3 0) (qc (o3 ix3 (zV (qc (c3 (.int 8)) (qc (c3 (.int 17)) (qc (c3 (.int 32)) qh)))) (cb3 S_law_pick (qc (v3 0) (qc (c3 (.int 3)) qh)))) qh)))) (gn3 3)) (qv (qH (o3 qW (u3 Z5 (o3 (iC qbs (·/·)) (o3 (iC ZF (·*·)) (u3 Z5 (v3 1)) (v3 2)) (v3 3))) (cb3 S_law_pick (qc (v3 0) (qc (c3 (.int 4)) qh)))) (gn3 4)) (qv (RU (zA (qc (c3 (.int 32)) qh)) (gn3 5) (qV (tb3 (o3 (iB fun i j=>decide (j<i)) (cb3 S_law_gcd (qc (v3 3) (qc (v3 4) qh))) (c3 (.int 1)))) (qH (o3 qW (v3 4) (c3 (.int 1))) (gn3 4)) qt)) (qB (qU (qc (c3 (.str "rests")) (qc (v3 1) (qc (v3 2) (qc (v3 3) (qc (v3 4) qh)))))))))))
def VO (S_law_pick:Sp3):TS3:=(qv (j7 2 3 (qc (cb3 S_law_pick (qc (v3 0) (qc (o3 qW (v3 1) (c3 (.int 1))) qh))) (qc (cb3 S_law_pick (qc (v3 0) (qc (o3 qW (v3 1) (c3 (.int 1))) qh))) qh))) (qv (qH (lc3 (zA (qc (cb3 S_law_pick (qc (v3 0) (qc (c3 (.int 6)) qh))) qh)) (gn3 0) tt3 (cb3 S_law_pick (qc (v3 1) (qc (c3 (.int 256)) qh))) [none,some 0]) (gn3 4)) (qv (qH (o3 ix3 (zV (qc (c3 (.int 1)) (qc (c3 (.int 2)) (qc (c3 (.int 4)) (qc (c3 (.int 8)) (qc (c3 (.int 16)) (qc (c3 (.int 32)) (qc (c3 (.int 64)) (qc (c3 (.int 128)) (qc (c3 (.int 256)) qh)))))))))) (o3 qW (v3 2) (v3 3))) (gn3 5)) (qB (qU (qc (c3 (.str "bits")) (qc (v3 2) (qc (v3 3) (qc (cb3 qF (qc (lc3 (UG (v3 4)) (gn3 0) tt3 (o3 (iC (fun _ j=>0<j) (·%·)) (v3 0) (v3 1)) [none,some 5]) qh)) qh)))))))))
def J6 (S_law_sides:Sp3) (S_law_pick:Sp3):TS3:=(qv (qH (cb3 S_law_sides (qc (v3 0) qh)) (qM 2 (qj (gn3 1) (qj (gn3 2) qL)))) (qv (qH (o3 qW (c3 (.int 1)) (cb3 S_law_pick (qc (v3 0) (qc (o3 ix3 (zV (qc (c3 (.int 4)) (qc (c3 (.int 9)) (qc (c3 (.int 32)) qh)))) (cb3 S_law_pick (qc (v3 0) (qc (c3 (.int 3)) qh)))) qh)))) (gn3 3)) (qv (qH (lc3 (zA (qc (v3 1) qh)) (gn3 0) tt3 (cb3 qF (qc (lc3 (zA (qc (v3 3) qh)) (gn3 0) tt3 (cb3 S_law_pick (qc (v3 1) (qc (v3 2) qh))) [none,some 1,some 2]) qh)) [none,some 0,some 3,some 2]) (gn3 4)) (qB (qU (qc (c3 (.str "table")) (qc (v3 3) (qc (cb3 qF (qc (v3 4) qh)) qh))))))))
def YD (S_law_pick:Sp3) (S_law_gcd:Sp3):TS3:=(qv (qH (qU (qc (o3 qW (c3 (.int 1)) (cb3 S_law_pick (qc (v3 0) (qc (c3 (.int 4)) qh)))) (qc (o3 qW (c3 (.int 1)) (cb3 S_law_pick (qc (v3 0) (qc (c3 (.int 4)) qh)))) (qc (o3 qW (c3 (.int 1)) (cb3 S_law_pick (qc (v3 0) (qc (c3 (.int 5)) qh)))) qh)))) (qM 3 (qj (gn3 1) (qj (gn3 2) (qj (gn3 3) qL))))) (qv (qH (cb3 S_law_pick (qc (v3 0) (qc (c3 (.int 4)) qh))) (gn3 4)) (qv (qV (tb3 (o3 (qZ false) (v3 4) (c3 (.int 0)))) (qB (qU (qc (c3 (.str "skew")) (qc (v3 1) (qc (v3 2) (qc (v3 3) (qc (cb3 S_law_pick (qc (v3 0) (qc (v3 3) qh))) (qc (cb3 S_law_pick (qc (v3 0) (qc (c3 (.int 9)) qh))) qh)))))))) qt) (qv (qV (tb3 (o3 (qZ false) (v3 4) (c3 (.int 1)))) (qv (j7 5 6 (qc (cb3 S_law_pick (qc (v3 0) (qc (c3 (.int 3)) qh))) (qc (cb3 S_law_pick (qc (v3 0) (qc (c3 (.int 3)) qh))) qh))) (qv (qH (lc3 (zA (qc (cb3 S_law_pick (qc (v3 0) (qc (c3 (.int 3)) qh))) qh)) (gn3 0) tt3 (cb3 S_law_pick (qc (v3 1) (qc (c3 (.int 16)) qh))) [none,some 0]) (gn3 7)) (qv (qH (o3 ix3 (zV (qc (c3 (.int 1)) (qc (c3 (.int 2)) (qc (c3 (.int 4)) (qc (c3 (.int 8)) (qc (c3 (.int 16)) qh)))))) (o3 qW (v3 5) (v3 6))) (gn3 8)) (qB (qU (qc (c3 (.str "bits")) (qc (v3 5) (qc (v3 6) (qc (cb3 qF (qc (lc3 (UG (v3 7)) (gn3 0) tt3 (o3 (iC (fun _ j=>0<j) (·%·)) (v3 0) (v3 1)) [none,some 8]) qh)) qh))))))))) qt) (qv (qV (tb3 (o3 (qZ false) (v3 4) (c3 (.int 2)))) (qv (qH (o3 qW (u3 Z5 (o3 (iC qbs (·/·)) (o3 (iC ZF (·*·)) (u3 Z5 (v3 1)) (v3 2)) (v3 3))) (cb3 S_law_pick (qc (v3 0) (qc (c3 (.int 3)) qh)))) (gn3 9)) (qv (RU (zA (qc (c3 (.int 9)) qh)) (gn3 10) (qV (tb3 (o3 (iB fun i j=>decide (j<i)) (cb3 S_law_gcd (qc (v3 3) (qc (v3 9) qh))) (c3 (.int 1)))) (qH (o3 qW (v3 9) (c3 (.int 1))) (gn3 9)) qt)) (qB (qU (qc (c3 (.str "rests")) (qc (v3 1) (qc (v3 2) (qc (v3 3) (qc (v3 9) qh))))))))) qt) (qv (qH (lc3 (zA (qc (v3 1) qh)) (gn3 0) tt3 (cb3 qF (qc (lc3 (zA (qc (v3 3) qh)) (gn3 0) tt3 (cb3 S_law_pick (qc (v3 1) (qc (v3 2) qh))) [none,some 1,some 2]) qh)) [none,some 0,some 3,some 2]) (gn3 11)) (qB (qU (qc (c3 (.str "table")) (qc (v3 3) (qc (cb3 qF (qc (v3 11) qh)) qh)))))))))))
def QW (S_law_pick:Sp3) (S_law_skew:Sp3) (S_law_rests:Sp3) (S_law_bits:Sp3) (S_law_table:Sp3) (S_law_small:Sp3):TS3:=(qv (qH (cb3 S_law_pick (qc (v3 0) (qc (c3 (.int 8)) qh))) (gn3 1)) (qv (qV (tb3 (o3 (iB fun i j=>decide (i<j)) (v3 1) (c3 (.int 2)))) (qB (cb3 S_law_skew (qc (v3 0) qh))) qt) (qv (qV (tb3 (o3 (qZ false) (v3 1) (c3 (.int 2)))) (qB (cb3 S_law_rests (qc (v3 0) qh))) qt) (qv (qV (tb3 (o3 (qZ false) (v3 1) (c3 (.int 3)))) (qB (cb3 S_law_bits (qc (v3 0) (qc (c3 (.int 4)) qh)))) qt) (qv (qV (tb3 (o3 (qZ false) (v3 1) (c3 (.int 4)))) (qB (cb3 S_law_table (qc (v3 0) qh))) qt) (qv (qV (tb3 (o3 (qZ false) (v3 1) (c3 (.int 5)))) (qv (qH (qU (qc (c3 (.str "joined")) (qc (qU (qc (c3 (.str "skew")) (qc (o3 qW (c3 (.int 1)) (cb3 S_law_pick (qc (v3 0) (qc (c3 (.int 2)) qh)))) (qc (c3 (.int 1)) (qc (c3 (.int 2)) (qc (c3 (.int 1)) (qc (c3 (.int 1)) qh))))))) (qc (qU (qc (c3 (.str "table")) (qc (c3 (.int 2)) (qc (qU (qc (qU (qc (c3 (.int 1)) (qc (c3 (.int 0)) qh))) qh)) qh)))) qh)))) (gn3 2)) (qv (qH (zV (qc (qU (qc (c3 (.str "joined")) (qc (v3 2) (qc (cb3 S_law_small (qc (v3 0) qh)) qh)))) (qc (qU (qc (c3 (.str "joined")) (qc (cb3 S_law_small (qc (v3 0) qh)) (qc (v3 2) qh)))) qh))) (gn3 3)) (qv (zE (bm3 YQ (v3 3) (qc (qU (qc (c3 (.str "joined")) (qc (qU (qc (c3 (.str "skew")) (qc (c3 (.int 8)) (qc (c3 (.int 1)) (qc (c3 (.int 3)) (qc (c3 (.int 1)) (qc (c3 (.int 1)) qh))))))) (qc (qU (qc (c3 (.str "rests")) (qc (c3 (.int 2)) (qc (c3 (.int 16)) (qc (c3 (.int 5)) (qc (c3 (.int 7)) qh)))))) qh)))) qh))) (qv (zE (bm3 YQ (v3 3) (qc (qU (qc (c3 (.str "joined")) (qc (qU (qc (c3 (.str "rests")) (qc (c3 (.int 1)) (qc (c3 (.int 8)) (qc (c3 (.int 3)) (qc (c3 (.int 4)) qh)))))) (qc (qU (qc (c3 (.str "skew")) (qc (c3 (.int 16)) (qc (c3 (.int 2)) (qc (c3 (.int 5)) (qc (c3 (.int 2)) (qc (c3 (.int 1)) qh))))))) qh)))) qh))) (qB (o3 ix3 (v3 3) (cb3 S_law_pick (qc (v3 0) (qc (c3 (.int 4)) qh))))))))) qt) (qB (qU (qc (c3 (.str "joined")) (qc (cb3 S_law_small (qc (v3 0) qh)) (qc (cb3 S_law_small (qc (v3 0) qh)) qh)))))))))))
def VQ (S_law_size:Sp3):TS3:=(qv (qV (tb3 (o3 (in3 false) (o3 ix3 (v3 0) (c3 (.int 0))) (qU (qc (c3 (.str "skew")) (qc (c3 (.str "rests")) qh))))) (qB (Z8 (v3 0) (sp3 (c3 (.int 1))) (sp3 (c3 (.int 4))))) qt) (qv (qV (tb3 (o3 (qZ false) (o3 ix3 (v3 0) (c3 (.int 0))) (c3 (.str "bits")))) (qv (qH (zV (qc (c3 (.int 1)) (qc (c3 (.int 2)) (qc (c3 (.int 4)) (qc (c3 (.int 8)) (qc (c3 (.int 16)) (qc (c3 (.int 32)) (qc (c3 (.int 64)) (qc (c3 (.int 128)) (qc (c3 (.int 256)) (qc (c3 (.int 512)) qh))))))))))) (gn3 1)) (qB (qU (qc (o3 ix3 (v3 1) (o3 ix3 (v3 0) (c3 (.int 1)))) (qc (o3 ix3 (v3 1) (o3 ix3 (v3 0) (c3 (.int 2)))) (qc (o3 ix3 (v3 1) (cb3 jT (qc (o3 ix3 (v3 0) (c3 (.int 3))) qh))) qh)))))) qt) (qv (qV (tb3 (o3 (qZ false) (o3 ix3 (v3 0) (c3 (.int 0))) (c3 (.str "table")))) (qB (qU (qc (cb3 jT (qc (o3 ix3 (v3 0) (c3 (.int 2))) qh)) (qc (cb3 jT (qc (o3 ix3 (o3 ix3 (v3 0) (c3 (.int 2))) (c3 (.int 0))) qh)) (qc (o3 ix3 (v3 0) (c3 (.int 1))) qh))))) qt) (qv (j7 2 3 (qc (cb3 S_law_size (qc (o3 ix3 (v3 0) (c3 (.int 1))) qh)) (qc (cb3 S_law_size (qc (o3 ix3 (v3 0) (c3 (.int 2))) qh)) qh))) (qB (cb3 qF (qc (lc3 (qaV (qc (v3 2) (qc (v3 3) qh))) (qM 2 (qj (gn3 0) (qj (gn3 1) qL))) tt3 (o3 (iC ZF (·*·)) (v3 0) (v3 1)) [none,none]) qh)))))))
def EW:TS3:=(qv (qH (c3 (.bl false)) (gn3 1)) (qv (RU (zA (qc (c3 (.int 9)) qh)) (gn3 2) (qH (o3 (qZ true) (v3 1) (o3 (qZ false) (o3 (iC (fun _ j=>0<j) (·%·)) (o3 (iC qbs (·/·)) (v3 0) (o3 ix3 (zV (qc (c3 (.int 1)) (qc (c3 (.int 2)) (qc (c3 (.int 4)) (qc (c3 (.int 8)) (qc (c3 (.int 16)) (qc (c3 (.int 32)) (qc (c3 (.int 64)) (qc (c3 (.int 128)) (qc (c3 (.int 256)) qh)))))))))) (v3 2))) (c3 (.int 2))) (c3 (.int 1)))) (gn3 1))) (qB (v3 1))))
def UE (S_law_size:Sp3) (S_law_odd:Sp3) (S_law_bank:Sp3):TS3:=(qv (qH (cb3 S_law_size (qc (v3 0) qh)) (qM 3 (qj (gn3 3) (qj (gn3 4) (qj (gn3 5) qL))))) (qv (qV (tb3 (o3 (qZ false) (o3 ix3 (v3 0) (c3 (.int 0))) (c3 (.str "skew")))) (qB (o3 (iC (fun _ j=>0<j) (·%·)) (o3 qW (o3 (iC ZF (·*·)) (o3 ix3 (v3 0) (c3 (.int 4))) (v3 1)) (o3 (iC ZF (·*·)) (o3 ix3 (v3 0) (c3 (.int 5))) (v3 2))) (v3 5))) qt) (qv (qV (tb3 (o3 (qZ false) (o3 ix3 (v3 0) (c3 (.int 0))) (c3 (.str "rests")))) (qB (o3 (iC (fun _ j=>0<j) (·%·)) (o3 qW (o3 (iC ZF (·*·)) (v3 1) (v3 4)) (v3 2)) (v3 5))) qt) (qv (qV (tb3 (o3 (qZ false) (o3 ix3 (v3 0) (c3 (.int 0))) (c3 (.str "bits")))) (qv (qH (lc3 (SZ (qc (o3 ix3 (v3 0) (c3 (.int 3))) qh)) (qM 2 (qj (gn3 0) (qj (gn3 1) qL))) (tb3 (cb3 S_law_odd (qc (o3 (iI Builtin.bitAnd) (o3 qW (o3 (iC ZF (·*·)) (v3 3) (v3 4)) (v3 2)) (v3 1)) qh))) (o3 ix3 (zV (qc (c3 (.int 1)) (qc (c3 (.int 2)) (qc (c3 (.int 4)) (qc (c3 (.int 8)) (qc (c3 (.int 16)) qh)))))) (v3 0)) [none,none,some 2,some 1,some 4]) (gn3 6)) (qB (cb3 qiT (qc (v3 6) qh)))) qt) (qv (qV (tb3 (o3 (qZ false) (o3 ix3 (v3 0) (c3 (.int 0))) (c3 (.str "table")))) (qB (o3 ix3 (o3 ix3 (o3 ix3 (v3 0) (c3 (.int 2))) (v3 1)) (v3 2))) qt) (qv (qH (cb3 S_law_size (qc (o3 ix3 (v3 0) (c3 (.int 2))) qh)) (qM 3 (qj (gn3 7) (qj (gn3 8) (qj (gn3 9) qL))))) (qB (o3 qW (o3 (iC ZF (·*·)) (cb3 S_law_bank (qc (o3 ix3 (v3 0) (c3 (.int 1))) (qc (o3 (iC qbs (·/·)) (v3 1) (v3 7)) (qc (o3 (iC qbs (·/·)) (v3 2) (v3 8)) qh)))) (v3 9)) (cb3 S_law_bank (qc (o3 ix3 (v3 0) (c3 (.int 2))) (qc (o3 (iC (fun _ j=>0<j) (·%·)) (v3 1) (v3 7)) (qc (o3 (iC (fun _ j=>0<j) (·%·)) (v3 2) (v3 8)) qh))))))))))))
def WH (S_law_same:Sp3):TS3:=(qv (qV (tb3 (QT (fun t=>jn t "list" || jn t "tuple") (v3 1))) (qv (qV (or3 (tb3 (o3 (qZ true) (QT (fun t=>jn t "list") (v3 0)) (QT (fun t=>jn t "list") (v3 1)))) (tb3 (o3 (qZ true) (QT (fun t=>jn t "tuple") (v3 0)) (QT (fun t=>jn t "tuple") (v3 1))))) (qB (c3 (.bl false))) qt) (qB (zb (o3 (qZ false) (cb3 jT (qc (v3 0) qh)) (cb3 jT (qc (v3 1) qh))) (cb3 YR (qc (lc3 (qaV (qc (v3 0) (qc (v3 1) qh))) (qM 2 (qj (gn3 0) (qj (gn3 1) qL))) tt3 (cb3 S_law_same (qc (v3 0) (qc (v3 1) qh))) [none,none]) qh))))) qt) (qv (qV (or3 (tb3 (o3 (YV false) (v3 1) (c3 .non))) (tb3 (QT (fun t=>jn t "str" || jn t "bool") (v3 1)))) (qB (zb (o3 (qZ false) (v3 0) (v3 1)) (zb (o3 (qZ false) (QT (fun t=>jn t "bool") (v3 0)) (QT (fun t=>jn t "bool") (v3 1))) (o3 (qZ false) (o3 (YV false) (v3 0) (c3 .non)) (o3 (YV false) (v3 1) (c3 .non)))))) qt) (qB (zb (QT (fun t=>jn t "int") (v3 0)) (zb (jg (QT (fun t=>jn t "bool") (v3 0))) (o3 (qZ false) (v3 0) (v3 1)))))))
inductive Dl where
 |skew (r c b x y:Int)
 |rests (r c b p:Int)
 |bits (h l:Nat) (ms:List Int)
 |table (b:Int) (cells:List (List Int))
 |joined (d e:Dl)
def qaA (r:List Int):T:=.tup (r.map T.int)
def Dl.t:Dl->T
 |.skew r c b x y=>.tup [.str "skew",.int r,.int c,.int b,.int x,.int y]
 |.rests r c b p=>.tup [.str "rests",.int r,.int c,.int b,.int p]
 |.bits h l ms=>.tup [.str "bits",.int h,.int l,.tup (ms.map T.int)]
 |.table b cells=>.tup [.str "table",.int b,.tup (cells.map qaA)]
 |.joined d e=>.tup [.str "joined",d.t,e.t]
def Dl.R:Dl->Int
 |.skew r _ _ _ _=>r
 |.rests r _ _ _=>r
 |.bits h _ _=>2 ^ h
 |.table _ cells=>cells.length
 |.joined d e=>d.R*e.R
def Dl.C:Dl->Int
 |.skew _ c _ _ _=>c
 |.rests _ c _ _=>c
 |.bits _ l _=>2 ^ l
 |.table _ cells=>((cells[0]?).getD []).length
 |.joined d e=>d.C*e.C
def Dl.B:Dl->Int
 |.skew _ _ b _ _=>b
 |.rests _ _ b _=>b
 |.bits _ _ ms=>2 ^ ms.length
 |.table b _=>b
 |.joined d e=>d.B*e.B
def pop:Nat->Nat->Nat
 |0,_=>0
 |k+1,n=>n%2+pop k (n/2)
def qbb (n m:Int):Bool:=pop 64 (Builtin.bitAnd n m).toNat%2==1
def J4 (n:Int):Nat->List Int->Int
 |_,[]=>0
 |t,m::ms=>(if qbb n m then 2 ^ t else 0)+J4 n (t+1) ms
def DE (ms:List Int) (n:Int):Int:=J4 n 0 ms
def Dl.bank:Dl->Int->Int->Int
 |.skew _ _ b x y,i,j=>(x*i+y*j)%b
 |.rests _ c b _,i,j=>(i*c+j)%b
 |.bits _ l ms,i,j=>DE ms (i*2 ^ l+j)
 |.table _ cells,i,j=>(((cells[i.toNat]?).getD [])[j.toNat]?).getD 0
 |.joined d e,i,j=>d.bank (i/e.R) (j/e.C)*e.B+e.bank (i%e.R) (j%e.C)
def Dl.Ok:Dl->Prop
 |.skew r c b x y=>1<=r/\r<=60/\1<=c/\c<=60/\1<=b/\b<=1000/\0<=x/\x<=1000/\0<=y/\y<=1000
 |.rests r c b p=>1<=r/\r<=60/\1<=c/\c<=60/\1<=b/\b<=1000/\1<=p/\p<=100000/\Int.gcd b p=1/\r*c<=b*p
 |.bits h l ms=>h<=4/\l<=4/\ms.length<=5/\∀ m∈ms,0<=m/\m<2 ^ (h+l)
 |.table b cells=>1<=b/\b<=1000/\1<=cells.length/\cells.length<=60/\∃ c,1<=c/\c<=60/\∀ row∈cells,row.length=c/\∀ x∈row,0<=x/\x<b
 |.joined d e=>d.Ok/\e.Ok/\d.R*e.R<=4096/\d.C*e.C<=4096/\d.B*e.B<=4096
def Dl.dep:Dl->Nat
 |.joined d e=>max d.dep e.dep+1
 |_=>0
theorem p2 (n:Nat):((2:Int) ^ n)=((2 ^ n:Nat):Int):=by simp
theorem DM (n:Nat):(1:Int)<=2 ^ n:=by
 rw [p2];have:=Nat.one_le_two_pow (n:=n);omega
theorem DR {n k:Nat} (h:n<=k):(2:Int) ^ n<=2 ^ k:=by
 rw [p2,p2];have:=Nat.pow_le_pow_right (n:=2) (by omega) h;omega
structure Lims (d:Dl):Prop where
 r1:1<=d.R
 r2:d.R<=4096
 c1:1<=d.C
 c2:d.C<=4096
 b1:1<=d.B
 b2:d.B<=4096
theorem V3 {a b:Int} (h1:1<=a) (h2:1<=b):1<=a*b:=by
 have:=Int.mul_le_mul (a:=1) (b:=1) (c:=a) (d:=b) h1 h2 (by omega) (by omega)
 omega
theorem Dl.lims:∀ {d:Dl},d.Ok->Lims d
 |.skew r c b x y,⟨h1,h2,h3,h4,h5,h6,_⟩=>⟨h1,by simp [Dl.R];omega,h3,by simp [Dl.C];omega,h5,by simp [Dl.B];omega⟩
 |.rests r c b x,⟨h1,h2,h3,h4,h5,h6,_⟩=>⟨h1,by simp [Dl.R];omega,h3,by simp [Dl.C];omega,h5,by simp [Dl.B];omega⟩
 |.bits h l ms,⟨h1,h2,h3,_⟩=>by
  have e1:=DR h1;have e2:=DR h2;have e3:=DR h3
  refine ⟨DM _,?_,DM _,?_,DM _,?_⟩<;>simp [Dl.R,Dl.C,Dl.B]<;>omega
 |.table b cells,⟨h1,h2,h3,h4,c,h5,h6,h7⟩=>by
  have e0:cells[0]?=some cells[0]:=getElem?_eq_getElem (by omega)
  have e1:=(h7 cells[0] (List.getElem_mem _)).1
  have e2:(Dl.table b cells).C=c:=by simp [Dl.C,e0,e1]
  exact ⟨by simp [Dl.R];omega,by simp [Dl.R];omega,by rw [e2];omega,by rw [e2];omega,h1,by simp [Dl.B];omega⟩
 |.joined d e,⟨h1,h2,h3,h4,h5⟩=>by
  have a:=Dl.lims h1;have b:=Dl.lims h2
  exact ⟨V3 a.r1 b.r1,h3,V3 a.c1 b.c1,h4,V3 a.b1 b.b1,h5⟩
structure Inn (d:Dl) (i j:Int):Prop where
 i1:0<=i
 i2:i<d.R
 j1:0<=j
 j2:j<d.C
def XX (d:Dl):T:=.tup [.int d.R,.int d.C,.int d.B]
def wdT (i j:Int):T:=.tup [.int i,.int j]
def jh:Nat->Sp3
 |0=>W8
 |n+1=>fun ts G q=>∃ d:Dl,ts=[d.t]/\d.dep<=n/\d.Ok/\q (XX d) G
def XO (n:Nat):Sp3:=fun ts G q=>∃ (d:Dl) (i j:Int),ts=[d.t,wdT i j]/\d.dep<=n/\d.Ok/\q (.int (i*d.C+j)) G
def YS:Sp3:=fun ts G q=>∃ (n m:Int),ts=[.int n,.int m]/\0<=n/\0<=m/\m<2 ^ 64/\q (.bl (qbb n m)) G
def XQ:Sp3:=fun ts G q=>∃ (ms:List Int) (n:Int),ts=[.tup (ms.map T.int),.int n]/\ms.length<=30/\(∀ m∈ms,0<=m/\m<2 ^ 64)/\0<=n/\∀ G',Ex G G'->q (.int (DE ms n)) G'
def JM:Nat->Sp3
 |0=>W8
 |n+1=>fun ts G q=>∃ (d:Dl) (i j:Int),ts=[d.t,wdT i j]/\d.dep<=n/\d.Ok/\Inn d i j/\∀ G',Ex G G'->q (.int (d.bank i j)) G'
def KT:Sp3:=fun ts G q=>∃ (i j r c:Int),ts=[wdT i j,.int r,.int c]/\(0<r/\r<1000000)/\(0<c/\c<1000000)/\q (.tup [wdT (i/r) (j/c),wdT (i%r) (j%c)]) G
def UN (n:Nat):Sp3:=fun ts G q=>∃ (d e:Dl) (i j:Int),ts=[d.t,e.t,wdT i j]/\(Dl.joined d e).dep<=n/\(Dl.joined d e).Ok/\Inn (.joined d e) i j/\∀ G',Ex G G'->q (.int ((Dl.joined d e).bank i j)) G'
def qbl (n:Nat):Sp3:=fun ts G q=>∃ (d:Dl) (i j:Int),ts=[d.t,wdT i j]/\d.dep<=n/\d.Ok/\Inn d i j/\∀ G',Ex G G'->q (.int (d.bank i j)) G'
abbrev CB (q:Q3):Ends3:={ nx:=fun _ G'=>q .non G',rt:=q }
theorem qn9 {j:Nat} (h:j<=1000):qa7 1 (j:Int):=⟨by omega,by omega,by decide⟩
theorem zu {A B:TS3} {d:Ends3} {τ:St3} {G:Gp} (h:∀ nx,nx=B d->A { d with nx:=nx } τ G):qv A B d τ G:=h _ rfl
theorem zJ {s l:Str} {i:Nat} {R S:TS3} {d:Ends3} {τ:St3} {G:Gp} (hτ:τ[i]?=some (some (T.str s))):qv (qV (tb3 (o3 (qZ false) (v3 i) (c3 (.str l)))) R qt) S d τ G=(if s=l then R { d with nx:=S d } τ G else S d τ G):=by
 simp only [qv,qV,tb3,o3,v3,hτ,c3,qZ,qQ,qt]
 by_cases e:s=l<;>simp [e]
theorem W5 (n:Nat):∀ ts G q,jh (n+1) ts G q->ts.length=1/\EL (jh n) (CB q) (qk ["dealing","kind","rows","columns","banks","other_rows","other_columns","other_banks"] ts) G:=by
 rintro ts G q ⟨d,rfl,hd,ok,h⟩
 refine ⟨rfl,?_⟩
 unfold EL
 refine zu fun nx q1=>?_
 cases d with
 |skew r c b x y=>
  show nx [some (Dl.skew r c b x y).t,some (.str "skew"),none,none,none,none,none,none] G
  rw [q1,zJ rfl,if_neg (by decide),zJ rfl,if_neg (by decide),zJ rfl,if_neg (by decide)]
  simp [Dl.t,qv,qH,gn3,qB,jS,qV,zE,UK,qt,v3,c3,o3,u3,Z5,L3.ixT,L3.ixR,qW,iI,iC,iB,qZ,qQ,YV,tb3,UH,or3,YT,zb,DP,jg,if3,ch3,cb3,qc,qh,QT,tyT,jn,qU,zV,Z8,np3,sp3,qM,qj,qL,zO,YY,j7,qk,bm3,YQ,YW,jT,UD,VP,DX,J3,qF,zY,YR,EU,UI,L2.atI,ixN,ZO,HT.sIx,getL,in3,zr,eqF,gu,sizeLine_eq,getElem?_cons_zero,getElem?_cons_succ];exact h
 |rests r c b x=>
  show nx [some (Dl.rests r c b x).t,some (.str "rests"),none,none,none,none,none,none] G
  rw [q1,zJ rfl,if_neg (by decide),zJ rfl,if_neg (by decide),zJ rfl,if_neg (by decide)]
  simp [Dl.t,qv,qH,gn3,qB,jS,qV,zE,UK,qt,v3,c3,o3,u3,Z5,L3.ixT,L3.ixR,qW,iI,iC,iB,qZ,qQ,YV,tb3,UH,or3,YT,zb,DP,jg,if3,ch3,cb3,qc,qh,QT,tyT,jn,qU,zV,Z8,np3,sp3,qM,qj,qL,zO,YY,j7,qk,bm3,YQ,YW,jT,UD,VP,DX,J3,qF,zY,YR,EU,UI,L2.atI,ixN,ZO,HT.sIx,getL,in3,zr,eqF,gu,sizeLine_eq,getElem?_cons_zero,getElem?_cons_succ];exact h
 |bits hh l ms=>
  obtain ⟨k1,k2,k3,_⟩:=ok
  show nx [some (Dl.bits hh l ms).t,some (.str "bits"),none,none,none,none,none,none] G
  rw [q1,zJ rfl,if_pos rfl]
  simp [Dl.t,qv,qH,gn3,qB,jS,qV,zE,UK,qt,v3,c3,o3,u3,Z5,L3.ixT,L3.ixR,qW,iI,iC,iB,qZ,qQ,YV,tb3,UH,or3,YT,zb,DP,jg,if3,ch3,cb3,qc,qh,QT,tyT,jn,qU,zV,Z8,np3,sp3,qM,qj,qL,zO,YY,j7,qk,bm3,YQ,YW,jT,UD,VP,DX,J3,qF,zY,YR,EU,UI,L2.atI,ixN,ZO,HT.sIx,getL,in3,zr,eqF,gu,sizeLine_eq,getElem?_cons_zero,getElem?_cons_succ]
  exact ⟨qn9 (by omega),qn9 (by omega),qn9 (by omega),h⟩
 |table b cells=>
  have L:=Dl.lims ok
  obtain ⟨k1,k2,k3,k4,c,k5,k6,k7⟩:=ok
  cases cells with
  |nil=>simp at k3
  |cons row cells=>
   show nx [some (Dl.table b (row::cells)).t,some (.str "table"),none,none,none,none,none,none] G
   rw [q1,zJ rfl,if_neg (by decide),zJ rfl,if_pos rfl]
   simp [Dl.t,qaA,qv,qH,gn3,qB,jS,qV,zE,UK,qt,v3,c3,o3,u3,Z5,L3.ixT,L3.ixR,qW,iI,iC,iB,qZ,qQ,YV,tb3,UH,or3,YT,zb,DP,jg,if3,ch3,cb3,qc,qh,QT,tyT,jn,qU,zV,Z8,np3,sp3,qM,qj,qL,zO,YY,j7,qk,bm3,YQ,YW,jT,UD,VP,DX,J3,qF,zY,YR,EU,UI,L2.atI,ixN,ZO,HT.sIx,getL,in3,zr,eqF,gu,sizeLine_eq,getElem?_cons_zero,getElem?_cons_succ];simpa [XX,Dl.R,Dl.C,Dl.B] using h
 |joined d e=>
  have Ld:=Dl.lims ok.1
  have Le:=Dl.lims ok.2.1
  have:1<=n:=by simp [Dl.dep] at hd;omega
  obtain ⟨m,rfl⟩:∃ m,n=m+1:=⟨n-1,by omega⟩
  show nx [some (Dl.joined d e).t,some (.str "joined"),none,none,none,none,none,none] G
  rw [q1,zJ rfl,if_neg (by decide),zJ rfl,if_neg (by decide),zJ rfl,if_pos rfl]
  simp [Dl.t,qv,qH,gn3,qB,jS,qV,zE,UK,qt,v3,c3,o3,u3,Z5,L3.ixT,L3.ixR,qW,iI,iC,iB,qZ,qQ,YV,tb3,UH,or3,YT,zb,DP,jg,if3,ch3,cb3,qc,qh,QT,tyT,jn,qU,zV,Z8,np3,sp3,qM,qj,qL,zO,YY,j7,qk,bm3,YQ,YW,jT,UD,VP,DX,J3,qF,zY,YR,EU,UI,L2.atI,ixN,ZO,HT.sIx,getL,in3,zr,eqF,gu,sizeLine_eq,getElem?_cons_zero,getElem?_cons_succ]
  refine ⟨d,rfl,by simp [Dl.dep] at hd;omega,ok.1,?_⟩
  simp [XX]
  refine ⟨e,rfl,by simp [Dl.dep] at hd;omega,ok.2.1,?_⟩
  have e1:=Le.r1;have e2:=Le.r2;have e3:=Le.c1;have e4:=Le.c2;have e5:=Le.b1;have e6:=Le.b2
  simp [XX]
  exact ⟨cm (by omega) (by omega),cm (by omega) (by omega),cm (by omega) (by omega),h⟩
theorem X8:∀ k,pop k 0=0
 |0=>rfl
 |k+1=>by simp [pop,X8 k]
theorem CC:∀ (k n:Nat),n<2 ^ k->pop (k+1) n=pop k n
 |0,n,h=>by simp at h;subst h;simp [pop]
 |k+1,n,h=>by
  rw [pop,CC k (n/2) (by rw [Nat.pow_succ] at h;omega)]
  rfl
theorem VH (n:Nat):∀ ts G q,XO n ts G q->ts.length=2/\YE (jh (n+1)) (CB q) (qk ["dealing","word","rows","columns","banks"] ts) G:=by
 rintro ts G q ⟨d,i,j,rfl,hd,ok,h⟩
 refine ⟨rfl,?_⟩
 have L:=Dl.lims ok
 simp [YE,qv,qH,gn3,qB,jS,qV,zE,UK,qt,v3,c3,o3,u3,Z5,L3.ixT,L3.ixR,qW,iI,iC,iB,qZ,qQ,YV,tb3,UH,or3,YT,zb,DP,jg,if3,ch3,cb3,qc,qh,QT,tyT,jn,qU,zV,Z8,np3,sp3,qM,qj,qL,zO,YY,j7,qk,bm3,YQ,YW,jT,UD,VP,DX,J3,qF,zY,YR,EU,UI,L2.atI,ixN,ZO,HT.sIx,getL,in3,zr,eqF,gu,sizeLine_eq,getElem?_cons_zero,getElem?_cons_succ]
 refine ⟨d,rfl,hd,ok,?_⟩
 simp [XX,wdT,qv,qH,gn3,qB,jS,qV,zE,UK,qt,v3,c3,o3,u3,Z5,L3.ixT,L3.ixR,qW,iI,iC,iB,qZ,qQ,YV,tb3,UH,or3,YT,zb,DP,jg,if3,ch3,cb3,qc,qh,QT,tyT,jn,qU,zV,Z8,np3,sp3,qM,qj,qL,zO,YY,j7,qk,bm3,YQ,YW,jT,UD,VP,DX,J3,qF,zY,YR,EU,UI,L2.atI,ixN,ZO,HT.sIx,getL,in3,zr,eqF,gu,sizeLine_eq,getElem?_cons_zero,getElem?_cons_succ]
 exact ⟨cm (by have:=L.c1;omega) (by have:=L.c2;omega),h⟩
theorem XW:∀ ts G q,YS ts G q->ts.length=2/\jJ (CB q) (qk ["number","mask","common","many"] ts) G:=by
 rintro ts G q ⟨n,m,rfl,hn,hm,hm2,h⟩
 refine ⟨rfl,?_⟩
 have hr:=PyProof.Rows.bitAnd_range n hm
 simp [jJ,qv,qH,gn3,qB,jS,qV,zE,UK,qt,v3,c3,o3,u3,Z5,L3.ixT,L3.ixR,qW,iI,iC,iB,qZ,qQ,YV,tb3,UH,or3,YT,zb,DP,jg,if3,ch3,cb3,qc,qh,QT,tyT,jn,qU,zV,Z8,np3,sp3,qM,qj,qL,zO,YY,j7,qk,bm3,YQ,YW,jT,UD,VP,DX,J3,qF,zY,YR,EU,UI,L2.atI,ixN,ZO,HT.sIx,getL,in3,zr,eqF,gu,sizeLine_eq,getElem?_cons_zero,getElem?_cons_succ,XM]
 refine ⟨fun k τ G'=>G'=G/\∃ c y:Nat,τ=[some (.int n),some (.int m),some (.int (c:Int)),some (.int (y:Int))]/\c<2 ^ k/\y+pop k c=pop 64 (Builtin.bitAnd n m).toNat,
  ⟨64,rfl,(Builtin.bitAnd n m).toNat,0,by simp;omega,by omega,by simp⟩,?_⟩
 rintro k τ G' ⟨rfl,c,y,rfl,hc,e⟩
 simp [PyProof.Rows.bitAnd_m1]
 by_cases h0:0<c
 ·have hk:1<=k:=by
   rcases Nat.eq_zero_or_pos k with z|z
   ·subst z;simp at hc;omega
   ·exact z
  obtain ⟨k',rfl⟩:∃ k',k=k'+1:=⟨k-1,by omega⟩
  simp [h0]
  refine ⟨fun τ' G''=>G''=G'/\∃ c y:Nat,τ'=[some (.int n),some (.int m),some (.int (c:Int)),some (.int (y:Int))]/\c<2 ^ k'/\y+pop k' c=pop 64 (Builtin.bitAnd n m).toNat,?_,rfl,c/2,y+c%2,?_,?_,?_⟩
  ·rintro τ' G'' ⟨e1,c',y',e2,e3,e4⟩
   exact ⟨k',by omega,e1,c',y',e2,e3,e4⟩
  ·simp
  ·rw [Nat.pow_succ] at hc;omega
  ·rw [pop] at e;omega
 ·have hc0:c=0:=by omega
  subst hc0
  simp
  rw [X8] at e
  have e':(qbb n m)=decide ((y:Int)%2=1):=by
   unfold qbb
   rw [← e,Nat.add_zero]
   by_cases hy:y%2=1
   ·have:(y:Int)%2=1:=by omega
    simp [hy,this]
   ·have:¬ (y:Int)%2=1:=by omega
    simp [hy,this]
  rw [← e']
  exact h
def zI (n:Int):Nat->List Int->List Int
 |_,[]=>[]
 |t,m::ms=>(if qbb n m then [2 ^ t] else [])++zI n (t+1) ms
theorem J2 (n:Int):∀ (t:Nat) (xs ys:List Int),zI n t (xs++ys)=zI n t xs++zI n (t+xs.length) ys
 |_,[],_=>by simp [zI]
 |t,x::xs,ys=>by simp [zI,J2 n (t+1) xs ys,Nat.add_assoc,Nat.add_comm 1]
theorem VW (n:Int):∀ (t:Nat) (ms:List Int),(zI n t ms).sum=J4 n t ms
 |_,[]=>rfl
 |t,m::ms=>by
  simp only [zI,J4,List.sum_append,VW n (t+1) ms]
  split<;>simp
theorem QX (n:Int):∀ (t:Nat) (ms:List Int),(zI n t ms).length<=ms.length
 |_,[]=>by simp [zI]
 |t,m::ms=>by
  have:=QX n (t+1) ms
  simp only [zI,length_append,length_cons]
  split<;>simp<;>omega
theorem UA (n:Int):∀ (t:Nat) (ms:List Int) (x:Int),x∈zI n t ms->∃ k,k<t+ms.length/\x=2 ^ k
 |_,[],_,h=>by simp [zI] at h
 |t,m::ms,x,h=>by
  simp only [zI,List.mem_append] at h
  rcases h with h|h
  ·split at h
   ·simp at h;exact ⟨t,by simp,h⟩
   ·simp at h
  ·obtain ⟨k,h1,h2⟩:=UA n (t+1) ms x h
   exact ⟨k,by simp;omega,h2⟩
theorem LL:∀ ts G q,XQ ts G q->ts.length=2/\YG YS (CB q) (qk ["masks","number"] ts) G:=by
 rintro ts G q ⟨ms,n,rfl,hl,hm,hn,h⟩
 refine ⟨rfl,?_⟩
 simp [YG,lc3,SZ,jD,cap,qv,qH,gn3,qB,jS,qV,zE,UK,qt,v3,c3,o3,u3,Z5,L3.ixT,L3.ixR,qW,iI,iC,iB,qZ,qQ,YV,tb3,UH,or3,YT,zb,DP,jg,if3,ch3,cb3,qc,qh,QT,tyT,jn,qU,zV,Z8,np3,sp3,qM,qj,qL,zO,YY,j7,qk,bm3,YQ,YW,jT,UD,VP,DX,J3,qF,zY,YR,EU,UI,L2.atI,ixN,ZO,HT.sIx,getL,in3,zr,eqF,gu,sizeLine_eq,getElem?_cons_zero,getElem?_cons_succ]
 refine EM _ (fun i ys τ G'=>G'=G/\ys=(zI n 0 (ms.take i)).map T.int/\∃ x0 x1,τ=[x0,x1,some (.int n)]) ⟨rfl,by simp [zI],none,none,rfl⟩ (fun i ys τ G' _ hp=>by simp [jD]) ?_ ?_
 ·rintro i z ys τ G' R hz ⟨rfl,rfl,x0,x1,rfl⟩ hR
  obtain ⟨a,ha,rfl⟩:=DF hz
  rw [getElem?_map] at ha
  cases e:ms[i]? with
  |none=>rw [e] at ha;cases ha
  |some m=>
   rw [e] at ha
   have:a=T.int m:=by simpa using ha.symm
   subst this
   obtain ⟨hi,hm'⟩:=List.getElem?_eq_some_iff.mp e
   have mm:m∈ms:=by rw [← hm'];exact List.getElem_mem hi
   simp [qv,qH,gn3,qB,jS,qV,zE,UK,qt,v3,c3,o3,u3,Z5,L3.ixT,L3.ixR,qW,iI,iC,iB,qZ,qQ,YV,tb3,UH,or3,YT,zb,DP,jg,if3,ch3,cb3,qc,qh,QT,tyT,jn,qU,zV,Z8,np3,sp3,qM,qj,qL,zO,YY,j7,qk,bm3,YQ,YW,jT,UD,VP,DX,J3,qF,zY,YR,EU,UI,L2.atI,ixN,ZO,HT.sIx,getL,in3,zr,eqF,gu,sizeLine_eq,getElem?_cons_zero,getElem?_cons_succ]
   refine ⟨n,m,rfl,hn,(hm m mm).1,(hm m mm).2,?_⟩
   have tk:ms.take (i+1)=ms.take i++[m]:=by rw [List.take_succ_eq_append_getElem hi,hm']
   have lt:(ms.take i).length=i:=by rw [List.length_take];omega
   have st:zI n 0 (ms.take (i+1))=zI n 0 (ms.take i)++(if qbb n m then [2 ^ i] else []):=by
    rw [tk,J2,lt];simp [zI]
   have cl:=QX n 0 (ms.take i)
   cases ho:qbb n m with
   |true=>
    simp
    refine ⟨qn9 (by omega),by omega,hR _ _ _ ⟨rfl,?_,_,_,rfl⟩⟩
    rw [st,ho];simp
   |false=>
    simp
    refine hR _ _ _ ⟨rfl,?_,_,_,rfl⟩
    rw [st,ho];simp
 ·rintro ys τ G' ⟨rfl,rfl,x0,x1,rfl⟩ p hp
  rw [RT,length_map,List.take_length]
  simp [qiT,getL,qw,VB]
  refine ⟨⟨by have:=QX n 0 ms;omega,fun x hx=>?_⟩,?_⟩
  ·obtain ⟨k,h1,rfl⟩:=UA n 0 ms x hx
   have:=DM k
   have:=DR (n:=k) (k:=30) (by omega)
   omega
  ·rw [VW]
   exact h _ (QN hp)
theorem N9 {h l:Nat} {i j:Int} (i1:0<=i) (j1:0<=j):0<=i*2 ^ l+j:=by
 have:=Int.mul_nonneg i1 (show (0:Int)<=2 ^ l by have:=DM l;omega)
 omega
theorem DZ (n:Nat):∀ ts G q,JM (n+1) ts G q->ts.length=2/\DK (XO n) XQ (UN n) (CB q) (qk ["dealing","word","kind"] ts) G:=by
 rintro ts G q ⟨d,i,j,rfl,hd,ok,I,h⟩
 refine ⟨rfl,?_⟩
 unfold DK
 refine zu fun nx q1=>?_
 have h:=h
 have i1:=I.i1;have i2:=I.i2;have j1:=I.j1;have j2:=I.j2
 have L:=Dl.lims ok
 have r2:=L.r2;have c2:=L.c2
 cases d with
 |skew r c b x y=>
  have k:=ok
  obtain ⟨k1,k2,k3,k4,k5,k6,k7,k8,k9,k10⟩:=ok
  show nx [some (Dl.skew r c b x y).t,some (wdT i j),some (.str "skew")] G
  rw [q1,zJ rfl,if_pos rfl]
  simp [Dl.t,wdT,qv,qH,gn3,qB,jS,qV,zE,UK,qt,v3,c3,o3,u3,Z5,L3.ixT,L3.ixR,qW,iI,iC,iB,qZ,qQ,YV,tb3,UH,or3,YT,zb,DP,jg,if3,ch3,cb3,qc,qh,QT,tyT,jn,qU,zV,Z8,np3,sp3,qM,qj,qL,zO,YY,j7,qk,bm3,YQ,YW,jT,UD,VP,DX,J3,qF,zY,YR,EU,UI,L2.atI,ixN,ZO,HT.sIx,getL,in3,zr,eqF,gu,sizeLine_eq,getElem?_cons_zero,getElem?_cons_succ]
  exact ⟨cm' (by omega) (by omega),cm' (by omega) (by omega),by omega,h _ Ex.refl⟩
 |rests r c b x=>
  have k:=ok
  obtain ⟨k1,k2,k3,k4,k5,k6,k7,k8,k9⟩:=ok
  show nx [some (Dl.rests r c b x).t,some (wdT i j),some (.str "rests")] G
  rw [q1,zJ rfl,if_neg (by decide),zJ rfl,if_pos rfl]
  simp [Dl.t,wdT,qv,qH,gn3,qB,jS,qV,zE,UK,qt,v3,c3,o3,u3,Z5,L3.ixT,L3.ixR,qW,iI,iC,iB,qZ,qQ,YV,tb3,UH,or3,YT,zb,DP,jg,if3,ch3,cb3,qc,qh,QT,tyT,jn,qU,zV,Z8,np3,sp3,qM,qj,qL,zO,YY,j7,qk,bm3,YQ,YW,jT,UD,VP,DX,J3,qF,zY,YR,EU,UI,L2.atI,ixN,ZO,HT.sIx,getL,in3,zr,eqF,gu,sizeLine_eq,getElem?_cons_zero,getElem?_cons_succ]
  refine ⟨.rests r c b x,i,j,rfl,hd,k,?_⟩
  simp
  exact ⟨by omega,h _ Ex.refl⟩
 |bits hh l ms=>
  have k:=ok
  obtain ⟨k1,k2,k3,k4⟩:=ok
  show nx [some (Dl.bits hh l ms).t,some (wdT i j),some (.str "bits")] G
  rw [q1,zJ rfl,if_neg (by decide),zJ rfl,if_neg (by decide),zJ rfl,if_pos rfl]
  simp [Dl.t,wdT,qv,qH,gn3,qB,jS,qV,zE,UK,qt,v3,c3,o3,u3,Z5,L3.ixT,L3.ixR,qW,iI,iC,iB,qZ,qQ,YV,tb3,UH,or3,YT,zb,DP,jg,if3,ch3,cb3,qc,qh,QT,tyT,jn,qU,zV,Z8,np3,sp3,qM,qj,qL,zO,YY,j7,qk,bm3,YQ,YW,jT,UD,VP,DX,J3,qF,zY,YR,EU,UI,L2.atI,ixN,ZO,HT.sIx,getL,in3,zr,eqF,gu,sizeLine_eq,getElem?_cons_zero,getElem?_cons_succ]
  refine ⟨.bits hh l ms,i,j,rfl,hd,k,?_⟩
  refine ⟨ms,_,rfl,by omega,fun m hm=>⟨(k4 m hm).1,?_⟩,N9 (h:=hh) i1 j1,fun G' E=>h G' E⟩
  have:=(k4 m hm).2
  have:=DR (n:=hh+l) (k:=10) (by omega)
  omega
 |table b cells=>
  obtain ⟨k1,k2,k3,k4,c,k5,k6,k7⟩:=ok
  have e0:cells[0]?=some cells[0]:=getElem?_eq_getElem (by omega)
  have eC:(Dl.table b cells).C=c:=by simp [Dl.C,e0,(k7 cells[0] (List.getElem_mem _)).1]
  have eR:(Dl.table b cells).R=cells.length:=rfl
  rw [eR] at i2
  rw [eC] at j2
  have hi:i.toNat<cells.length:=by omega
  have hrow:=k7 cells[i.toNat] (List.getElem_mem hi)
  have hj:j.toNat<cells[i.toNat].length:=by rw [hrow.1];omega
  show nx [some (Dl.table b cells).t,some (wdT i j),some (.str "table")] G
  rw [q1,zJ rfl,if_neg (by decide),zJ rfl,if_neg (by decide),zJ rfl,if_neg (by decide),zJ rfl,if_pos rfl]
  simp [Dl.t,wdT,qv,qH,gn3,qB,jS,qV,zE,UK,qt,v3,c3,o3,u3,Z5,L3.ixT,L3.ixR,qW,iI,iC,iB,qZ,qQ,YV,tb3,UH,or3,YT,zb,DP,jg,if3,ch3,cb3,qc,qh,QT,tyT,jn,qU,zV,Z8,np3,sp3,qM,qj,qL,zO,YY,j7,qk,bm3,YQ,YW,jT,UD,VP,DX,J3,qF,zY,YR,EU,UI,ZO,HT.sIx,getL,in3,zr,eqF,gu,sizeLine_eq,getElem?_cons_zero,getElem?_cons_succ,ju (xs:=[T.str (Str.ofString "table"),.int b,.tup (cells.map qaA)]) (i:=2) (by omega) (by simp),ju (xs:=[T.str (Str.ofString "table"),.int b,.tup (cells.map qaA)]) (i:=0) (by omega) (by simp),ju (xs:=[T.int i,.int j]) (i:=0) (by omega) (by simp),ju (xs:=[T.int i,.int j]) (i:=1) (by omega) (by simp)]
  rw [ju i1 (by simpa using i2)]
  simp [hi,qaA,L3.ixT]
  rw [ju j1 (by simp;omega)]
  simp [hj]
  have:=h G Ex.refl
  simpa [Dl.bank,hi,hj] using this
 |joined d e=>
  show nx [some (Dl.joined d e).t,some (wdT i j),some (.str "joined")] G
  rw [q1,zJ rfl,if_neg (by decide),zJ rfl,if_neg (by decide),zJ rfl,if_neg (by decide),zJ rfl,if_neg (by decide)]
  simp [Dl.t,wdT,qv,qH,gn3,qB,jS,qV,zE,UK,qt,v3,c3,o3,u3,Z5,L3.ixT,L3.ixR,qW,iI,iC,iB,qZ,qQ,YV,tb3,UH,or3,YT,zb,DP,jg,if3,ch3,cb3,qc,qh,QT,tyT,jn,qU,zV,Z8,np3,sp3,qM,qj,qL,zO,YY,j7,qk,bm3,YQ,YW,jT,UD,VP,DX,J3,qF,zY,YR,EU,UI,L2.atI,ixN,ZO,HT.sIx,getL,in3,zr,eqF,gu,sizeLine_eq,getElem?_cons_zero,getElem?_cons_succ]
  exact ⟨d,e,i,j,rfl,hd,ok,I,h⟩
theorem qgq {i a b:Int} (h0:0<=i) (h1:i<a*b) (hb:1<=b):0<=i/b/\i/b<a/\0<=i%b/\i%b<b:=
 ⟨Int.ediv_nonneg h0 (by omega),Int.ediv_lt_of_lt_mul (by omega) h1,Int.emod_nonneg _ (by omega),Int.emod_lt_of_pos _ (by omega)⟩
theorem Inn.up {d e:Dl} {i j:Int} (I:Inn (.joined d e) i j) (Le:Lims e):Inn d (i/e.R) (j/e.C)/\Inn e (i%e.R) (j%e.C):=by
 obtain ⟨i1,i2,j1,j2⟩:=I
 obtain ⟨a1,a2,a3,a4⟩:=qgq i1 i2 Le.r1
 obtain ⟨b1,b2,b3,b4⟩:=qgq j1 j2 Le.c1
 exact ⟨⟨a1,a2,b1,b2⟩,⟨a3,a4,b3,b4⟩⟩
theorem qcY:∀ ts G q,KT ts G q->ts.length=3/\XZ (CB q) (qk ["word","rows","columns","i","j"] ts) G:=by
 rintro ts G q ⟨i,j,r,c,rfl,hr,hc,h⟩
 refine ⟨rfl,?_⟩
 simp [XZ,wdT,qv,qH,gn3,qB,jS,qV,zE,UK,qt,v3,c3,o3,u3,Z5,L3.ixT,L3.ixR,qW,iI,iC,iB,qZ,qQ,YV,tb3,UH,or3,YT,zb,DP,jg,if3,ch3,cb3,qc,qh,QT,tyT,jn,qU,zV,Z8,np3,sp3,qM,qj,qL,zO,YY,j7,qk,bm3,YQ,YW,jT,UD,VP,DX,J3,qF,zY,YR,EU,UI,L2.atI,ixN,ZO,HT.sIx,getL,in3,zr,eqF,gu,sizeLine_eq,getElem?_cons_zero,getElem?_cons_succ]
 exact ⟨⟨by omega,by omega⟩,⟨by omega,by omega⟩,by omega,by omega,h⟩
theorem Z3 (n:Nat):∀ ts G q,UN n ts G q->ts.length=3/\QU (jh (n+1)) KT (JM n) (CB q) (qk ["one","other","word","rows","columns","banks","upper","lower"] ts) G:=by
 rintro ts G q ⟨d,e,i,j,rfl,hd,ok,I,h⟩
 refine ⟨rfl,?_⟩
 obtain ⟨kd,ke,kr,kc,kb⟩:=ok
 have Le:=Dl.lims ke
 obtain ⟨I1,I2⟩:=I.up Le
 have:1<=n:=by simp [Dl.dep] at hd;omega
 obtain ⟨m,rfl⟩:∃ m,n=m+1:=⟨n-1,by omega⟩
 have r1:=Le.r1;have r2:=Le.r2;have c1:=Le.c1;have c2:=Le.c2;have b1:=Le.b1;have b2:=Le.b2
 simp [QU,qv,qH,gn3,qB,jS,qV,zE,UK,qt,v3,c3,o3,u3,Z5,L3.ixT,L3.ixR,qW,iI,iC,iB,qZ,qQ,YV,tb3,UH,or3,YT,zb,DP,jg,if3,ch3,cb3,qc,qh,QT,tyT,jn,qU,zV,Z8,np3,sp3,qM,qj,qL,zO,YY,j7,qk,bm3,YQ,YW,jT,UD,VP,DX,J3,qF,zY,YR,EU,UI,L2.atI,ixN,ZO,HT.sIx,getL,in3,zr,eqF,gu,sizeLine_eq,getElem?_cons_zero,getElem?_cons_succ]
 refine ⟨e,rfl,by simp [Dl.dep] at hd;omega,ke,?_⟩
 simp [XX]
 refine ⟨i,j,_,_,rfl,⟨by omega,by omega⟩,⟨by omega,by omega⟩,?_⟩
 simp
 refine ⟨d,_,_,rfl,by simp [Dl.dep] at hd;omega,kd,I1,fun G1 E1=>?_⟩
 simp
 refine ⟨cm (by omega) (by omega),e,_,_,rfl,by simp [Dl.dep] at hd;omega,ke,I2,fun G2 E2=>?_⟩
 simp
 exact h _ (E1.trans E2)
def Lf (G:Gp) (a:Addr) (n:Int):Prop:=∃ o c m,G a=some (.lst [.int o,.int c,.int m])/\0<=o/\0<=m/\m<=n
def Ext (a:Addr) (G G':Gp):Prop:=∀ b o,b≠a->G b=some o->G' b=some o
theorem Lf.ne {G:Gp} {a p:Addr} {n:Int} (h:Lf G a n) (hp:G p=none):p≠a:=by
 rintro rfl
 obtain ⟨o,c,m,e,_⟩:=h
 rw [hp] at e;cases e
theorem Lf.new {G:Gp} {a p:Addr} {n:Int} {ob:O} (h:Lf G a n) (hp:p≠a):Lf (gu G p ob) a n:=by
 obtain ⟨o,c,m,e,r⟩:=h
 exact ⟨o,c,m,by rw [jF (Ne.symm hp)];exact e,r⟩
theorem Lf.mono {G:Gp} {a:Addr} {n k:Int} (h:Lf G a n) (hk:n<=k):Lf G a k:=by
 obtain ⟨o,c,m,e,h1,h2,h3⟩:=h
 exact ⟨o,c,m,e,h1,h2,by omega⟩
theorem Lf.ex {G G':Gp} {a:Addr} {n:Int} (h:Lf G a n) (e:Ex G G'):Lf G' a n:=by
 obtain ⟨o,c,m,e1,h1⟩:=h
 exact ⟨o,c,m,e _ _ e1,h1⟩
theorem Ext.refl {a:Addr} {G:Gp}:Ext a G G:=fun _ _ _ e=>e
theorem Ext.trans {a:Addr} {G G1 G2:Gp} (x:Ext a G G1) (y:Ext a G1 G2):Ext a G G2:=fun b o hb e=>y b o hb (x b o hb e)
theorem zB {a p:Addr} {G:Gp} {ob:O} (hp:G p=none):Ext a G (gu G p ob):=fun b o _ e=>by
 rw [jF (by rintro rfl;rw [hp] at e;cases e)];exact e
theorem K0 {a:Addr} {G G':Gp} (h:Ex G G'):Ext a G G':=fun b o _ e=>h b o e
def SR:Sp3:=fun ts G q=>∃ c k,ts=[.int c,.int k]/\0<=k/\k<4294967296/\∀ m,0<=m->m<1999999973->q (.int m) G
def J1:Sp3:=fun ts G q=>∃ (a:Addr) (k:Int) (ns:List Int),ts=[.ref a,.int k]/\G a=some (.frz (ns.map T.int))/\ns.length<=63/\0<=k/\k<=63/\∀ p o c,G p=none->0<=o->q (.ref p) (gu G p (.lst [.int o,.int c,.int 0]))
def qE:Sp3:=fun ts G q=>∃ a n many,ts=[.ref a,.int many]/\1<=many/\many<1073741824/\Lf G a n/\n<1073741824/\∀ d G',0<=d->d<many->Lf G' a (n+1)->Ext a G G'->q (.int d) G'
def ZZ:Sp3:=fun ts G q=>∃ a n,ts=[.ref a]/\Lf G a n/\n<100000000/\∀ r c G',1<=r->r<=16->1<=c->c<=16->Lf G' a (n+4)->Ext a G G'->q (.tup [.int r,.int c]) G'
def D6:Sp3:=fun ts G q=>∃ x y:Int,ts=[.int x,.int y]/\0<=x/\0<=y/\q (.int (Int.gcd x y:Nat)) G
structure Dr (d:Dl) (r c b:Int):Prop where
 ok:d.Ok
 r2:d.R<=r
 c2:d.C<=c
 b2:d.B<=b
def RG:Sp3:=fun ts G q=>∃ a n,ts=[.ref a]/\Lf G a n/\n<10000000/\∀ r c b x y G',Dr (.skew r c b x y) 16 16 32->Lf G' a (n+10)->Ext a G G'->q (Dl.skew r c b x y).t G'
def XS:Sp3:=fun ts G q=>∃ a n,ts=[.ref a]/\Lf G a n/\n<10000000/\∀ r c b p G',Dr (.rests r c b p) 16 16 32->Lf G' a (n+10)->Ext a G G'->q (Dl.rests r c b p).t G'
theorem qO {a:Addr} {n many:Int} {G:Gp} {q:Q3} (hL:Lf G a n) (h1:1<=many) (h2:many<1073741824) (hn:n<1073741824) (h:∀ d G',0<=d->d<many->Lf G' a (n+1)->Ext a G G'->q (.int d) G'):qE [.ref a,.int many] G q:=⟨a,n,many,rfl,h1,h2,hL,hn,h⟩
theorem qa0:∀ ts G q,SR ts G q->ts.length=2/\EK (CB q) (qk ["_law_cell","_law_k","_law_m"] ts) G:=by
 rintro ts G q ⟨c,k,rfl,h1,h2,h⟩
 refine ⟨rfl,?_⟩
 simp only [EK,qv,qH,o3,v3,qk,map_cons,List.map_nil,length_cons,length_nil,Nat.zero_add,Nat.reduceAdd,Nat.reduceSub,List.replicate_one,cons_append,List.nil_append,Nat.zero_lt_succ,getElem?_pos,getElem_cons_zero,c3,iC,Int.reduceLT,Nat.reduceLT,getElem_cons_succ,qW,gn3,qB,set_cons_succ,set_cons_zero,Nat.lt_add_one,true_and]
 exact ⟨.inl ⟨by omega,by omega⟩,cm (by omega) (by omega),cm (by omega) (by omega),.inl ⟨by omega,by omega⟩,h _ (Int.emod_nonneg _ (by omega)) (Int.emod_lt_of_pos _ (by omega))⟩
theorem cp:qa7 10 18:=⟨by decide,by decide,by decide⟩
theorem M2:∀ ts G q,J1 ts G q->ts.length=2/\V9 (CB q) (qk ["_law_script","_law_k","_law_cell","_law_own"] ts) G:=by
 rintro ts G q ⟨a,k,ns,rfl,hG,hl,h1,h2,h⟩
 refine ⟨rfl,?_⟩
 simp only [V9,qv,qH,if3,tb3,o3,v3,qk,map_cons,List.map_nil,length_cons,length_nil,Nat.zero_add,Nat.reduceAdd,Nat.reduceSub,List.reduceReplicate,cons_append,List.nil_append,Nat.reduceLT,getElem?_pos,getElem_cons_succ,getElem_cons_zero,cb3,qc,Nat.zero_lt_succ,qh,jT,getL,hG,iB,length_map,decide_eq_true_eq,gn3,set_cons_succ,set_cons_zero,UD,c3,iC,Int.reduceToNat,Int.reducePow,qB,zV,Nat.lt_add_one,qW,ne_eq,sizeLine_eq,Nat.reduceLeDiff,true_and,gu,ixR,atI,ixN,getElem?_map,Int.lt_irrefl,↓reduceIte,Int.reduceLE,decide_false,Bool.false_eq_true,Int.zero_add]
 have ck:ZF 1000003 k:=cm (by omega) (by omega)
 by_cases hk:k<ns.length
 ·have hk':k.toNat<ns.length:=by omega
  simp [hk,h1,hk',cp,ck]
  split
  ·split
   ·exact fun p hp=>h p (-ns[k.toNat]) _ hp (by omega)
   ·exact fun p hp=>h p 0 _ hp (by omega)
  ·split
   ·exact fun p hp=>h p ns[k.toNat] _ hp (by omega)
   ·exact fun p hp=>h p 0 _ hp (by omega)
 ·simp [hk,cp,ck]
  exact fun p hp=>h p 0 _ hp (by omega)
theorem M5:∀ ts G q,qE ts G q->ts.length=2/\VY SR (CB q) (qk ["_law_left_here","_law_many","_law_digit"] ts) G:=by
 rintro ts G q ⟨a,n,many,rfl,m1,m2,⟨o,c,m,hG,ho,hm,hn⟩,h3,h⟩
 refine ⟨rfl,?_⟩
 unfold VY
 refine zu fun nx1 q1=>?_
 simp only [qH,o3,v3,qk,map_cons,List.map_nil,length_cons,length_nil,Nat.zero_add,Nat.reduceAdd,Nat.reduceSub,List.replicate_one,cons_append,List.nil_append,Nat.zero_lt_succ,getElem?_pos,getElem_cons_zero,c3,qW,ne_eq,sizeLine_eq,zO,YY,ixN,Int.zero_le_ofNat,↓reduceIte,Int.reduceToNat,tb3,iB,decide_eq_true_eq,Nat.reduceLT,getElem_cons_succ,iC,gn3,set_cons_succ,set_cons_zero,Std.le_refl,Int.natCast_pos,Int.toNat_zero,qB,Nat.lt_add_one,ixR,getL,atI,qt,cb3,qc,qh,Int.toNat_one,List.length_set,hG,Int.cast_ofNat_Int,Int.reduceLT,Option.bind_some,qw]
 rw [q1]
 clear q1
 refine zu fun nx2 q2=>?_
 simp only [qV,qH,o3,v3,qk,map_cons,List.map_nil,length_cons,length_nil,Nat.zero_add,Nat.reduceAdd,Nat.reduceSub,List.replicate_one,cons_append,List.nil_append,Nat.zero_lt_succ,getElem?_pos,getElem_cons_zero,c3,qW,ne_eq,sizeLine_eq,zO,YY,ixN,Int.zero_le_ofNat,↓reduceIte,Int.reduceToNat,tb3,iB,decide_eq_true_eq,Nat.reduceLT,getElem_cons_succ,iC,gn3,set_cons_succ,set_cons_zero,Std.le_refl,Int.natCast_pos,Int.toNat_zero,qB,Nat.lt_add_one,ixR,getL,atI,qt,cb3,qc,qh,Int.toNat_one,List.length_set,hG,Int.cast_ofNat_Int,Int.reduceLT,Option.bind_some,qw]
 split
 ·simp only [qv,qH,o3,v3,length_cons,length_nil,Nat.zero_add,Nat.reduceAdd,Nat.zero_lt_succ,getElem?_pos,getElem_cons_zero,c3,Nat.reduceLT,getElem_cons_succ,iC,gn3,set_cons_succ,set_cons_zero,zO,YY,ixN,Std.le_refl,↓reduceIte,Int.natCast_pos,Int.toNat_zero,qB,Nat.lt_add_one,ixR,getL,atI,qw,Int.cast_ofNat_Int,Int.reduceLT,Option.bind_some]
  refine ⟨by omega,⟨by omega,m2⟩,h _ _ (Int.emod_nonneg _ (by omega)) (Int.emod_lt_of_pos _ (by omega)) ⟨o/many,c,m+1,qw,Int.ediv_nonneg ho (by omega),by omega,by omega⟩ fun b ob hb e=>?_⟩
  rw [jF hb,jF hb];exact e
 ·rw [q2]
  clear q2
  simp only [qH,o3,v3,qk,map_cons,List.map_nil,length_cons,length_nil,Nat.zero_add,Nat.reduceAdd,Nat.reduceSub,List.replicate_one,cons_append,List.nil_append,Nat.zero_lt_succ,getElem?_pos,getElem_cons_zero,c3,qW,ne_eq,sizeLine_eq,zO,YY,ixN,Int.zero_le_ofNat,↓reduceIte,Int.reduceToNat,tb3,iB,decide_eq_true_eq,Nat.reduceLT,getElem_cons_succ,iC,gn3,set_cons_succ,set_cons_zero,Std.le_refl,Int.natCast_pos,Int.toNat_zero,qB,Nat.lt_add_one,ixR,getL,atI,qt,cb3,qc,qh,Int.toNat_one,List.length_set,hG,Int.cast_ofNat_Int,Int.reduceLT,Option.bind_some,qw]
  refine ⟨c,m+1,rfl,by omega,by omega,fun u u1 u2=>?_⟩
  simp only [qH,o3,v3,qk,map_cons,List.map_nil,length_cons,length_nil,Nat.zero_add,Nat.reduceAdd,Nat.reduceSub,List.replicate_one,cons_append,List.nil_append,Nat.zero_lt_succ,getElem?_pos,getElem_cons_zero,c3,qW,ne_eq,sizeLine_eq,zO,YY,ixN,Int.zero_le_ofNat,↓reduceIte,Int.reduceToNat,tb3,iB,decide_eq_true_eq,Nat.reduceLT,getElem_cons_succ,iC,gn3,set_cons_succ,set_cons_zero,Std.le_refl,Int.natCast_pos,Int.toNat_zero,qB,Nat.lt_add_one,ixR,getL,atI,qt,cb3,qc,qh,Int.toNat_one,List.length_set,hG,Int.cast_ofNat_Int,Int.reduceLT,Option.bind_some,qw]
  refine ⟨u,m+1+64,rfl,by omega,by omega,fun v v1 v2=>?_⟩
  refine ⟨⟨by omega,by omega⟩,by omega,h _ _ (Int.emod_nonneg _ (by omega)) (Int.emod_lt_of_pos _ (by omega)) ⟨o,c,m+1,qw,ho,by omega,by omega⟩ fun b ob hb e=>?_⟩
  rw [jF hb];exact e
theorem qdJ {x y:Int} (hy:0<y):Int.gcd y (x%y)=Int.gcd x y:=by
 rw [Int.emod_def,Int.gcd_comm x y]
 simp
theorem qbm:∀ ts G q,D6 ts G q->ts.length=2/\DU (CB q) (qk ["_law_one","_law_other"] ts) G:=by
 rintro ts G q ⟨x,y,rfl,hx,hy,h⟩
 refine ⟨rfl,?_⟩
 simp only [DU,qv,XM,qk,map_cons,List.map_nil,length_cons,length_nil,Nat.zero_add,Nat.reduceAdd,Nat.sub_self,List.replicate_zero,List.append_nil,tb3,o3,v3,c3,iB,decide_eq_true_eq,j7,qc,iC,qh,qB]
 refine ⟨fun n τ G'=>G'=G/\∃ u v:Int,τ=[some (.int u),some (.int v)]/\n=v.toNat/\0<=u/\0<=v/\Int.gcd u v=Int.gcd x y,⟨_,rfl,x,y,rfl,rfl,hx,hy,rfl⟩,?_⟩
 rintro n τ G' ⟨eG,u,v,rfl,rfl,hu,hv,e⟩
 simp
 by_cases h0:0<v
 ·simp [h0]
  refine ⟨fun τ' G'=>G'=G/\∃ x' y':Int,τ'=[some (.int x'),some (.int y')]/\y'.toNat<v.toNat/\0<=x'/\0<=y'/\Int.gcd x' y'=Int.gcd x y,fun τ' G' ⟨e1,x',y',e2,e3,e4,e5,e6⟩=>⟨y'.toNat,by omega,e1,x',y',e2,rfl,e4,e5,e6⟩,eG,v,u%v,rfl,?_,hv,Int.emod_nonneg _ (by omega),by rw [qdJ h0,e]⟩
  have:=Int.emod_lt_of_pos u h0
  omega
 ·have:v=0:=by omega
  subst this
  simp at e
  simp [eG]
  have:u=(Int.gcd x y:Nat):=by omega
  rw [this]
  exact h
theorem qn6 {d:Int} (h1:0<=d) (h2:d<4) {x0 x1 x2 x3:T} {P:T->Prop} (p0:P x0) (p1:P x1) (p2:P x2) (p3:P x3):∃ x,L2.atI [x0,x1,x2,x3] d=some x/\P x:=by
 have:d=0\/d=1\/d=2\/d=3:=by omega
 rcases this with rfl|rfl|rfl|rfl
 ·exact ⟨x0,rfl,p0⟩
 ·exact ⟨x1,rfl,p1⟩
 ·exact ⟨x2,rfl,p2⟩
 ·exact ⟨x3,rfl,p3⟩
theorem qoy {d:Int} (h1:0<=d) (h2:d<3) {x0 x1 x2:T} {P:T->Prop} (p0:P x0) (p1:P x1) (p2:P x2):∃ x,L2.atI [x0,x1,x2] d=some x/\P x:=by
 have:d=0\/d=1\/d=2:=by omega
 rcases this with rfl|rfl|rfl
 ·exact ⟨x0,rfl,p0⟩
 ·exact ⟨x1,rfl,p1⟩
 ·exact ⟨x2,rfl,p2⟩
theorem KY:∀ ts G q,ZZ ts G q->ts.length=1/\JW qE (CB q) (qk ["_law_left_here","_law_wide","_law_rows","_law_columns"] ts) G:=by
 rintro ts G q ⟨a,n,rfl,hL,hn,h⟩
 refine ⟨rfl,?_⟩
 unfold JW
 refine zu fun nx1 q1=>?_
 simp only [qH,o3,zV,qc,c3,qh,length_cons,length_nil,Nat.zero_add,Nat.reduceAdd,sizeLine_eq,Nat.reduceLeDiff,cb3,v3,qk,map_cons,List.map_nil,Nat.add_one_sub_one,List.reduceReplicate,cons_append,List.nil_append,Nat.zero_lt_succ,getElem?_pos,getElem_cons_zero,gn3,set_cons_succ,set_cons_zero,true_and]
 intro p hp
 have hpa:=hL.ne hp
 refine qO (hL.new hpa) (by decide) (by decide) (by omega) fun d G1 d1 d2 L1 E1=>?_
 have g1:=E1 p _ hpa qw
 obtain ⟨w,hw,w',rfl,w1,w2⟩:=qn6 d1 d2 (P:=fun t=>∃ w,t=T.int w/\1<=w/\w<=16) ⟨6,rfl,by decide⟩ ⟨6,rfl,by decide⟩ ⟨6,rfl,by decide⟩ ⟨16,rfl,by decide⟩
 simp only [ixR,getL,g1,hw]
 rw [q1]
 clear q1
 refine zu fun nx2 q2=>?_
 simp only [j7,qc,o3,c3,cb3,v3,length_cons,length_nil,Nat.zero_add,Nat.reduceAdd,Nat.zero_lt_succ,getElem?_pos,getElem_cons_zero,Nat.reduceLT,getElem_cons_succ,qh,qW,ne_eq,sizeLine_eq,set_cons_succ,set_cons_zero]
 refine qO L1 w1 (by omega) (by omega) fun r G2 r1 r2 L2' E2=>?_
 simp only [iI,qv,qH,o3,zV,qc,c3,qh,length_cons,length_nil,Nat.zero_add,Nat.reduceAdd,sizeLine_eq,Nat.reduceLeDiff,cb3,v3,qk,map_cons,List.map_nil,Nat.add_one_sub_one,List.reduceReplicate,cons_append,List.nil_append,Nat.zero_lt_succ,getElem?_pos,getElem_cons_zero,gn3,j7,set_cons_succ,set_cons_zero,Nat.reduceLT,getElem_cons_succ,qW,ne_eq,qB,qU,Nat.lt_add_one,true_and,gu]
 refine qO L2' w1 (by omega) (by omega) fun c G3 c1 c2 L3' E3=>?_
 simp only [iI,qv,qH,o3,zV,qc,c3,qh,length_cons,length_nil,Nat.zero_add,Nat.reduceAdd,sizeLine_eq,Nat.reduceLeDiff,cb3,v3,qk,map_cons,List.map_nil,Nat.add_one_sub_one,List.reduceReplicate,cons_append,List.nil_append,Nat.zero_lt_succ,getElem?_pos,getElem_cons_zero,gn3,j7,set_cons_succ,set_cons_zero,Nat.reduceLT,getElem_cons_succ,qW,ne_eq,qB,qU,Nat.lt_add_one,true_and,gu]
 rw [q2]
 clear q2
 simp only [qB,o3,zV,qc,qU,v3,length_cons,length_nil,Nat.zero_add,Nat.reduceAdd,Nat.reduceLT,getElem?_pos,getElem_cons_succ,getElem_cons_zero,Nat.lt_add_one,qh,sizeLine_eq,Nat.reduceLeDiff,cb3,Nat.zero_lt_succ,c3,true_and]
 intro p2 hp2
 have hpa2:=L3'.ne hp2
 refine qO (L3'.new hpa2) (by decide) (by decide) (by omega) fun e G4 e1 e2 L4 E4=>?_
 have g4:=E4 p2 _ hpa2 qw
 have x1:1<=1+r:=by omega
 have x2:1+r<=16:=by omega
 have x3:1<=1+c:=by omega
 have x4:1+c<=16:=by omega
 obtain ⟨t,ht,r',c',rfl,z1,z2,z3,z4⟩:=qn6 e1 e2 (P:=fun t=>∃ r' c',t=T.tup [.int r',.int c']/\1<=r'/\r'<=16/\1<=c'/\c'<=16) ⟨1+r,1+c,rfl,x1,x2,x3,x4⟩ ⟨1+r,1+c,rfl,x1,x2,x3,x4⟩ ⟨1+r,1+c,rfl,x1,x2,x3,x4⟩ ⟨1+r,1+r,rfl,x1,x2,x1,x2⟩
 simp only [ixR,getL,g4,ht]
 exact h r' c' G4 z1 z2 z3 z4 (L4.mono (by omega)) ((((zB hp).trans E1).trans (E2.trans E3)).trans ((zB hp2).trans E4))
theorem NO:∀ ts G q,RG ts G q->ts.length=1/\V4 ZZ qE (CB q) (qk ["_law_left_here","_law_rows","_law_columns","_law_banks","_law_wide"] ts) G:=by
 rintro ts G q ⟨a,n,rfl,hL,hn,h⟩
 refine ⟨rfl,?_⟩
 unfold V4
 refine zu fun nx1 q1=>?_
 simp only [qH,cb3,qc,v3,qk,map_cons,List.map_nil,length_cons,length_nil,Nat.zero_add,Nat.reduceAdd,Nat.add_one_sub_one,List.reduceReplicate,cons_append,List.nil_append,Nat.zero_lt_succ,getElem?_pos,getElem_cons_zero,qh,qM,qj,gn3,qL,set_cons_succ,set_cons_zero]
 refine ⟨a,n,rfl,hL,by omega,fun r c G1 r1 r2 c1 c2 L1 E1=>?_⟩
 simp only [length_cons,length_nil,Nat.zero_add,Nat.reduceAdd,true_and]
 rw [q1]
 clear q1
 refine zu fun nx2 q2=>?_
 simp only [qH,o3,c3,cb3,qc,v3,length_cons,length_nil,Nat.zero_add,Nat.reduceAdd,Nat.zero_lt_succ,getElem?_pos,getElem_cons_zero,zV,qh,sizeLine_eq,Nat.reduceLeDiff,qW,ne_eq,gn3,set_cons_succ,set_cons_zero,true_and]
 intro p hp
 have hpa:=L1.ne hp
 refine qO (L1.new hpa) (by decide) (by decide) (by omega) fun d G2 d1 d2 L2' E2=>?_
 have g2:=E2 p _ hpa qw
 obtain ⟨w,hw,w',rfl,w1,w2⟩:=qn6 d1 d2 (P:=fun t=>∃ w,t=T.int w/\1<=w/\w<=32) ⟨8,rfl,by decide⟩ ⟨8,rfl,by decide⟩ ⟨17,rfl,by decide⟩ ⟨32,rfl,by decide⟩
 simp only [ixR,getL,g2,hw]
 refine qO L2' w1 (by omega) (by omega) fun b G3 b1 b2 L3' E3=>?_
 simp [qv,qH,gn3,qB,jS,qV,zE,UK,qt,v3,c3,o3,u3,Z5,L3.ixT,L3.ixR,qW,iI,iC,iB,qZ,qQ,YV,tb3,UH,or3,YT,zb,DP,jg,if3,ch3,cb3,qc,qh,QT,tyT,jn,qU,zV,Z8,np3,sp3,qM,qj,qL,zO,YY,j7,qk,bm3,YQ,YW,jT,UD,VP,DX,J3,qF,zY,YR,EU,UI,ZO,HT.sIx,getL,in3,zr,eqF,gu,sizeLine_eq,getElem?_cons_zero,getElem?_cons_succ]
 rw [q2]
 clear q2
 refine zu fun nx3 q3=>?_
 simp only [qH,o3,zV,qc,v3,length_cons,length_nil,Nat.zero_add,Nat.reduceAdd,Nat.reduceLT,getElem?_pos,getElem_cons_succ,getElem_cons_zero,c3,qh,sizeLine_eq,Nat.reduceLeDiff,cb3,Nat.zero_lt_succ,gn3,set_cons_succ,set_cons_zero,true_and]
 intro p2 hp2
 have hpa2:=L3'.ne hp2
 refine qO (L3'.new hpa2) (by decide) (by decide) (by omega) fun e G4 e1 e2 L4 E4=>?_
 have g4:=E4 p2 _ hpa2 qw
 obtain ⟨u,hu,u',rfl,u1,u2⟩:=qoy e1 e2 (P:=fun t=>∃ w,t=T.int w/\1<=w/\w<=100) ⟨1+b,rfl,by omega,by omega⟩ ⟨10,rfl,by decide⟩ ⟨100,rfl,by decide⟩
 simp only [ixR,getL,g4,hu]
 rw [q3]
 clear q3
 simp only [qB,qU,qc,c3,v3,length_cons,length_nil,Nat.zero_add,Nat.reduceAdd,Nat.reduceLT,getElem?_pos,getElem_cons_succ,getElem_cons_zero,cb3,Nat.zero_lt_succ,Nat.lt_add_one,qh,sizeLine_eq,Nat.reduceLeDiff,true_and]
 refine qO L4 u1 (by omega) (by omega) fun x G5 x1 x2 L5 E5=>?_
 try simp [qv,qH,gn3,qB,jS,qV,zE,UK,qt,v3,c3,o3,u3,Z5,L3.ixT,L3.ixR,qW,iI,iC,iB,qZ,qQ,YV,tb3,UH,or3,YT,zb,DP,jg,if3,ch3,cb3,qc,qh,QT,tyT,jn,qU,zV,Z8,np3,sp3,qM,qj,qL,zO,YY,j7,qk,bm3,YQ,YW,jT,UD,VP,DX,J3,qF,zY,YR,EU,UI,ZO,HT.sIx,getL,in3,zr,eqF,gu,sizeLine_eq,getElem?_cons_zero,getElem?_cons_succ]
 refine qO L5 u1 (by omega) (by omega) fun y G6 y1 y2 L6 E6=>?_
 try simp [qv,qH,gn3,qB,jS,qV,zE,UK,qt,v3,c3,o3,u3,Z5,L3.ixT,L3.ixR,qW,iI,iC,iB,qZ,qQ,YV,tb3,UH,or3,YT,zb,DP,jg,if3,ch3,cb3,qc,qh,QT,tyT,jn,qU,zV,Z8,np3,sp3,qM,qj,qL,zO,YY,j7,qk,bm3,YQ,YW,jT,UD,VP,DX,J3,qF,zY,YR,EU,UI,ZO,HT.sIx,getL,in3,zr,eqF,gu,sizeLine_eq,getElem?_cons_zero,getElem?_cons_succ]
 exact h r c (1+b) x y G6 ⟨⟨r1,by omega,c1,by omega,by omega,by omega,x1,by omega,y1,by omega⟩,r2,c2,by show 1+b<=32;omega⟩ (L6.mono (by omega)) (E1.trans (((zB hp).trans E2).trans (E3.trans (((zB hp2).trans E4).trans (E5.trans E6)))))
theorem cop {b p:Int} (hb:1<=b):∃ k:Nat,(k:Int)<b/\Int.gcd b (p+k)=1:=by
 refine ⟨((1-p)%b).toNat,?_,?_⟩
 ·have:=Int.emod_nonneg (1-p) (show b≠0 by omega)
  have:=Int.emod_lt_of_pos (1-p) (show 0<b by omega)
  omega
 ·have h1:=Int.emod_nonneg (1-p) (show b≠0 by omega)
  have h2:=Int.emod_add_mul_ediv (1-p) b
  have e:p+(((1-p)%b).toNat:Int)=1+b*(-((1-p)/b)):=by
   rw [Int.toNat_of_nonneg h1,Int.mul_neg];omega
  rw [e];simp
structure Plc (b p0 pl:Int) (i:Nat):Prop where
 lo:p0<=pl
 hi:pl<=p0+i
 at_:Int.gcd b pl=1\/(pl=p0+i/\∀ k:Nat,k<i->Int.gcd b (p0+k)≠1)
theorem Plc.done {b p0 pl:Int} {n:Nat} (h:Plc b p0 pl n) (hb:1<=b) (hn:b<=n):Int.gcd b pl=1:=by
 rcases h.at_ with h|⟨_,h⟩
 ·exact h
 ·obtain ⟨k,h1,h2⟩:=cop (p:=p0) hb
  exact absurd h2 (h k (by omega))
theorem Plc.next {b p0 pl:Int} {i:Nat} (h:Plc b p0 pl i) (hb:1<=b) (hp:1<=p0) (hg:(1:Int)<(Int.gcd b pl:Nat)):Plc b p0 (pl+1) (i+1):=by
 rcases h.at_ with z|⟨z1,z2⟩
 ·rw [z] at hg;simp at hg
 ·refine ⟨by have:=h.lo;omega,by omega,.inr ⟨by omega,fun k hk=>?_⟩⟩
  rcases Nat.lt_or_ge k i with q|q
  ·exact z2 k q
  ·have:k=i:=by omega
   subst this
   rw [← z1]
   omega
theorem Plc.stay {b p0 pl:Int} {i:Nat} (h:Plc b p0 pl i) (hb:1<=b) (hp:1<=p0) (hg:¬ (1:Int)<(Int.gcd b pl:Nat)):Plc b p0 pl (i+1):=by
 have g0:0<Int.gcd b pl:=Int.gcd_pos_of_ne_zero_left _ (by omega)
 exact ⟨h.lo,by have:=h.hi;omega,.inl (by omega)⟩
theorem qeL {r c b:Int} (hr:1<=r) (hc:1<=c) (hb:1<=b):1<=-(-r*c/b)/\r*c<=b*-(-r*c/b)/\-(-r*c/b)<=r*c:=by
 have h1:=V3 hr hc
 have e:-r*c=-(r*c):=Int.neg_mul ..
 rw [e]
 have h2:=Int.ediv_neg_of_neg_of_pos (a:=-(r*c)) (b:=b) (by omega) (by omega)
 have h3:=Int.mul_ediv_self_le (x:=-(r*c)) (k:=b) (by omega)
 have h4:-(r*c)<=-(r*c)/b:=by
  have:=Int.le_ediv_of_mul_le (a:=-(r*c)) (b:=-(r*c)) (c:=b) (by omega) (by
   have:=Int.mul_le_mul_of_nonneg_left hb (show (0:Int)<=r*c by omega)
   rw [Int.neg_mul];omega)
  exact this
 rw [Int.mul_neg]
 omega
theorem LM:∀ ts G q,XS ts G q->ts.length=1/\YN ZZ qE D6 (CB q) (qk ["_law_left_here","_law_rows","_law_columns","_law_banks","_law_places","_law_turn"] ts) G:=by
 rintro ts G q ⟨a,n,rfl,hL,hn,h⟩
 refine ⟨rfl,?_⟩
 unfold YN
 refine zu fun nx1 q1=>?_
 simp only [qH,cb3,qc,v3,qk,map_cons,List.map_nil,length_cons,length_nil,Nat.zero_add,Nat.reduceAdd,Nat.add_one_sub_one,List.reduceReplicate,cons_append,List.nil_append,Nat.zero_lt_succ,getElem?_pos,getElem_cons_zero,qh,qM,qj,gn3,qL,set_cons_succ,set_cons_zero]
 refine ⟨a,n,rfl,hL,by omega,fun r c G1 r1 r2 c1 c2 L1 E1=>?_⟩
 simp only [length_cons,length_nil,Nat.zero_add,Nat.reduceAdd,true_and]
 rw [q1]
 clear q1
 refine zu fun nx2 q2=>?_
 simp only [qH,o3,c3,cb3,qc,v3,length_cons,length_nil,Nat.zero_add,Nat.reduceAdd,Nat.zero_lt_succ,getElem?_pos,getElem_cons_zero,zV,qh,sizeLine_eq,Nat.reduceLeDiff,qW,ne_eq,gn3,set_cons_succ,set_cons_zero,true_and]
 intro p hp
 have hpa:=L1.ne hp
 refine qO (L1.new hpa) (by decide) (by decide) (by omega) fun d G2 d1 d2 L2' E2=>?_
 have g2:=E2 p _ hpa qw
 obtain ⟨w,hw,w',rfl,w1,w2⟩:=qoy d1 d2 (P:=fun t=>∃ w,t=T.int w/\1<=w/\w<=32) ⟨8,rfl,by decide⟩ ⟨17,rfl,by decide⟩ ⟨32,rfl,by decide⟩
 simp only [ixR,getL,g2,hw]
 refine qO L2' w1 (by omega) (by omega) fun b G3 b1 b2 L3' E3=>?_
 simp [qv,qH,gn3,qB,jS,qV,zE,UK,qt,v3,c3,o3,u3,Z5,L3.ixT,L3.ixR,qW,iI,iC,iB,qZ,qQ,YV,tb3,UH,or3,YT,zb,DP,jg,if3,ch3,cb3,qc,qh,QT,tyT,jn,qU,zV,Z8,np3,sp3,qM,qj,qL,zO,YY,j7,qk,bm3,YQ,YW,jT,UD,VP,DX,J3,qF,zY,YR,EU,UI,ZO,HT.sIx,getL,in3,zr,eqF,gu,sizeLine_eq,getElem?_cons_zero,getElem?_cons_succ]
 rw [q2]
 clear q2
 refine zu fun nx3 q3=>?_
 simp only [qH,o3,u3,v3,length_cons,length_nil,Nat.zero_add,Nat.reduceAdd,Nat.reduceLT,getElem?_pos,getElem_cons_succ,getElem_cons_zero,Z5,iC,cb3,qc,Nat.zero_lt_succ,c3,qh,qW,ne_eq,sizeLine_eq,gn3,set_cons_succ,set_cons_zero]
 refine ⟨cm (by omega) (by omega),⟨by omega,by omega⟩,qO L3' (by omega) (by omega) (by omega) fun e G4 e1 e2 L4 E4=>?_⟩
 obtain ⟨u1,u2,u3⟩:=qeL r1 c1 (show 1<=1+b by omega)
 have rc:r*c<=16*16:=Int.mul_le_mul r2 c2 (by omega) (by omega)
 simp [qv,qH,gn3,qB,jS,qV,zE,UK,qt,v3,c3,o3,u3,Z5,L3.ixT,L3.ixR,qW,iI,iC,iB,qZ,qQ,YV,tb3,UH,or3,YT,zb,DP,jg,if3,ch3,cb3,qc,qh,QT,tyT,jn,qU,zV,Z8,np3,sp3,qM,qj,qL,zO,YY,j7,qk,bm3,YQ,YW,jT,UD,VP,DX,J3,qF,zY,YR,EU,UI,ZO,HT.sIx,getL,in3,zr,eqF,gu,sizeLine_eq,getElem?_cons_zero,getElem?_cons_succ]
 rw [q3]
 clear q3
 simp only [qv,RU,zA,qc,c3,qh,Int.reducePow,Int.reduceNeg,Int.neg_ofNat_le_ofNat,Int.reduceLT,and_self,Int.reduceToNat,true_and]
 obtain ⟨p0,hp0⟩:∃ p0,p0=-(-r*c/(1+b))+e:=⟨_,rfl⟩
 refine VG _ (fun i τ G'=>G'=G4/\∃ (pl:Int) (x:Option T),τ=[some (.ref a),some (.int r),some (.int c),some (.int (1+b)),some (.int pl),x]/\Plc (1+b) p0 pl i) ⟨rfl,_,none,by rw [← hp0],⟨by omega,by omega,.inr ⟨by omega,by omega⟩⟩⟩ (fun _ _ _ _ _=>True.intro) ?_ ?_
 ·rintro i x τ G' nx hx ⟨rfl,pl,y,rfl,P⟩ hn
  simp only [gn3,qV,tb3,o3,cb3,qc,v3,set_cons_succ,set_cons_zero,length_cons,length_nil,Nat.zero_add,Nat.reduceAdd,Nat.reduceLT,getElem?_pos,getElem_cons_succ,getElem_cons_zero,qh,c3,iB,decide_eq_true_eq,qH,qW,qt]
  refine ⟨1+b,pl,rfl,by omega,by have:=P.lo;omega,?_⟩
  simp
  split
  ·rename_i hg
   exact hn _ _ ⟨rfl,_,_,rfl,P.next (by omega) (by omega) (by omega)⟩
  ·rename_i hg
   exact hn _ _ ⟨rfl,_,_,rfl,P.stay (by omega) (by omega) (by omega)⟩
 ·rintro τ G' ⟨rfl,pl,x,rfl,P⟩
  simp only [qB,qU,qc,c3,v3,length_cons,length_nil,Nat.zero_add,Nat.reduceAdd,Nat.reduceLT,getElem?_pos,getElem_cons_succ,getElem_cons_zero,qh,sizeLine_eq,Nat.reduceLeDiff,true_and]
  rw [ZB] at P
  have lo:=P.lo;have hi:=P.hi
  have m1:(1+b)*-(-r*c/(1+b))<=(1+b)*pl:=Int.mul_le_mul_of_nonneg_left (by omega) (by omega)
  exact h r c (1+b) pl G' ⟨⟨r1,by omega,c1,by omega,by omega,by omega,by omega,by omega,P.done (by omega) (by omega),by omega⟩,r2,c2,by show 1+b<=32;omega⟩ (L4.mono (by omega)) (E1.trans (((zB hp).trans E2).trans (E3.trans E4)))
def DJ:Nat->PyData->Prop
 |_,.none=>True
 |_,.bool _=>True
 |_,.int _=>True
 |_,.str _=>True
 |n+1,.list ds=>ds.length<=1000000/\∀ d∈ds,DJ n d
 |n+1,.tuple ds=>ds.length<=1000000/\∀ d∈ds,DJ n d
 |_,_=>False
def jV:Nat->Sp3
 |0=>W8
 |n+1=>fun ts G q=>∃ (x y:T) (d:PyData),ts=[x,y]/\Dp G x d/\Dp G y d/\DJ n d/\∀ G',Ex G G'->q (.bl true) G'
theorem N2 {G G':Gp} (e:Ex G G') {x:T} {us:List T} (h:jD G x=some us):jD G' x=some us:=by
 cases x<;>simp [jD] at h ⊢
 ·exact h
 ·exact e.getL h
theorem qdU (n:Nat):qeJ (List.replicate n (.bl true))=some true:=by
 induction n with
 |zero=>rfl
 |succ n ih=>rw [List.replicate_succ];simp [qeJ,ih]
theorem qaB {G:Gp} {n:Nat} {x y:T} {us vs:List T} {ds:List PyData} {q:Q3} (hx:jD G x=some us) (hy:jD G y=some vs) (du:Dps G us ds) (dv:Dps G vs ds) (hl:us.length<=1000000) (hd:∀ d∈ds,∃ m,n=m+1/\DJ m d) (h:∀ G',Ex G G'->q (.bl true) G') :
  RV (fun G=>jD G x=some us/\jD G y=some vs) (qM 2 (qj (gn3 0) (qj (gn3 1) qL))) tt3 (cb3 (jV n) (qc (v3 0) (qc (v3 1) qh))) (fun x G1=>YR [x] G1 q) (qcK us vs) [] [none,none] G:=by
 have e1:=du.length
 have e2:=dv.length
 refine EM _ (fun i ys τ G'=>Ex G G'/\ys=List.replicate i (.bl true)/\∃ x0 x1,τ=[x0,x1]) ⟨Ex.refl,rfl,none,none,rfl⟩ (fun i ys τ G' _ hp=>⟨N2 hp.1 hx,N2 hp.1 hy⟩) ?_ ?_
 ·rintro i z ys τ G' R hz ⟨E,rfl,x0,x1,rfl⟩ hR
  obtain ⟨a,b,ha,hb,rfl⟩:=T5 hz
  obtain ⟨d,hd1,da⟩:=du.get ha
  obtain ⟨d',hd2,db⟩:=dv.get hb
  rw [hd1] at hd2;cases hd2
  obtain ⟨m,rfl,dl⟩:=hd d (mem_of_getElem? hd1)
  have hi:=(List.getElem?_eq_some_iff.mp ha).1
  simp only [qM,length_cons,length_nil,Nat.zero_add,Nat.reduceAdd,qj,gn3,qL,tt3,↓reduceIte,cb3,qc,v3,set_cons_zero,set_cons_succ,Nat.zero_lt_succ,getElem?_pos,getElem_cons_zero,Nat.lt_add_one,getElem_cons_succ,qh,List.length_replicate,sizeLine_eq,true_and]
  refine ⟨a,b,d,rfl,da.up E,db.up E,dl,fun G2 E2=>⟨by omega,hR _ _ _ ⟨E.trans E2,?_,_,_,rfl⟩⟩⟩
  rw [List.replicate_succ']
 ·rintro ys τ G' ⟨E,rfl,x0,x1,rfl⟩ p hp
  simp [YR,getL,qw,qdU]
  exact h _ (E.trans (QN hp))
theorem qdX {n:Nat} {ds:List PyData} (h:DJ n (.list ds)):ds.length<=1000000/\∀ d∈ds,∃ m,n=m+1/\DJ m d:=by
 cases n with
 |zero=>exact h.elim
 |succ n=>exact ⟨h.1,fun d hd=>⟨n,rfl,h.2 d hd⟩⟩
theorem qc5 {n:Nat} {ds:List PyData} (h:DJ n (.tuple ds)):ds.length<=1000000/\∀ d∈ds,∃ m,n=m+1/\DJ m d:=by
 cases n with
 |zero=>exact h.elim
 |succ n=>exact ⟨h.1,fun d hd=>⟨n,rfl,h.2 d hd⟩⟩
theorem qjr {x:T} {G:Gp} {q:Q3} (h:qQ x x=some true) (k:q (.bl true) G):qZ false x x G q:=by
 unfold qZ;rw [h];exact k
theorem qcA {ta tb:TE3} {e:Ends3} {τ:St3} {G:Gp} {x:T} (h:∀ q',q' x G->ta τ G q') (k:x=.bl true) (h2:tb τ G e.rt):qB (zb ta tb) e τ G:=h _ (by subst k;exact h2)
theorem qqo {ta tb:TE3} {τ:St3} {G:Gp} {x:T} (ha:∀ q',q' x G->ta τ G q') (hb:∀ q',q' x G->tb τ G q') (h:qQ x x=some true):∀ q',q' (.bl true) G->o3 (qZ false) ta tb τ G q':=fun q' k=>ha _ (hb _ (qjr h k))
theorem qaT {c:TT3} {a b:TS3} {e:Ends3} {τ:St3} {G:Gp} (h:∀ A,A=a->qV c A b e τ G):qV c a b e τ G:=h _ rfl
theorem J7 (n:Nat):∀ ts G q,jV (n+1) ts G q->ts.length=2/\WH (jV n) (CB q) (qk ["_law_found","_law_due"] ts) G:=by
 rintro ts G q ⟨x,y,d,rfl,hx,hy,hd,h⟩
 refine ⟨rfl,?_⟩
 have h0:=h G Ex.refl
 cases hx with
 |non=>cases hy;exact h0
 |bl b=>cases hy;cases b<;>exact h0
 |int i=>cases hy;exact qjr (x:=.int i) (by simp [qQ]) h0
 |str s=>
  cases hy
  refine zu fun nx1 q1=>?_
  refine qaT fun A1 hA=>?_
  clear hA
  show nx1 _ _
  rw [q1];clear q1
  refine zu fun nx2 q2=>?_
  refine qaT fun A2 hA=>?_
  show A2 _ _ _
  rw [hA]
  exact qcA (qqo (x:=.str s) (fun _ k=>k) (fun _ k=>k) (by simp [qQ])) rfl h0
 |tup dx=>
  cases hy with
  |tup dy=>
   rename_i xs ds ys
   have e1:=dx.length
   have e2:=dy.length
   obtain ⟨l1,l2⟩:=qc5 hd
   have key:=qaB (n:=n) (x:=.tup xs) (y:=.tup ys) (us:=xs) (vs:=ys) (q:=q) rfl rfl dx dy (by omega) l2 h
   have e3:xs.length=ys.length:=by omega
   refine zu fun nx1 q1=>?_
   clear q1
   refine qaT fun A1 hA=>?_
   show A1 _ _ _
   rw [hA];clear hA
   refine zu fun nx2 q2=>?_
   refine qaT fun A2 hA=>?_
   show nx2 _ _
   rw [q2];clear q2
   exact qcA (qqo (x:=.int ys.length) (fun _ k=>by rw [← e3] at k;exact k) (fun _ k=>k) (by simp [qQ])) rfl key
 |lst gx dx=>
  cases hy with
  |lst gy dy=>
   rename_i p1 xs ds p2 ys
   have e1:=dx.length
   have e2:=dy.length
   obtain ⟨l1,l2⟩:=qdX hd
   have key:=qaB (n:=n) (x:=.ref p1) (y:=.ref p2) (us:=xs) (vs:=ys) (q:=q) gx gy dx dy (by omega) l2 h
   have e3:xs.length=ys.length:=by omega
   refine zu fun nx1 q1=>?_
   clear q1
   refine qaT fun A1 hA=>?_
   simp only [qV,tb3,QT,v3,qk,map_cons,List.map_nil,length_cons,length_nil,Nat.zero_add,Nat.reduceAdd,Nat.sub_self,List.replicate_zero,List.append_nil,Nat.lt_add_one,getElem?_pos,getElem_cons_succ,getElem_cons_zero,tyT,gx,gy,Option.isSome_some,↓reduceIte,jn,BEq.rfl,String.reduceBEq,Bool.and_self,Bool.or_false,Bool.or_self,or3,o3,Nat.zero_lt_succ,qZ,qQ,decide_true,Bool.not_true,Bool.false_eq_true,qt]
   rw [hA];clear hA
   refine zu fun nx2 q2=>?_
   refine qaT fun A2 hA=>?_
   clear hA
   simp only [qV,tb3,QT,v3,qk,map_cons,List.map_nil,length_cons,length_nil,Nat.zero_add,Nat.reduceAdd,Nat.sub_self,List.replicate_zero,List.append_nil,Nat.lt_add_one,getElem?_pos,getElem_cons_succ,getElem_cons_zero,tyT,gx,gy,Option.isSome_some,↓reduceIte,jn,BEq.rfl,String.reduceBEq,Bool.and_self,Bool.or_false,Bool.or_self,or3,o3,Nat.zero_lt_succ,qZ,qQ,decide_true,Bool.not_true,Bool.false_eq_true,qt]
   rw [q2];clear q2
   simp only [jD,YR,qk,map_cons,List.map_nil,length_cons,length_nil,Nat.zero_add,Nat.reduceAdd,Nat.sub_self,List.replicate_zero,List.append_nil,Nat.lt_add_one,getElem?_pos,getElem_cons_succ,getElem_cons_zero,gy,↓reduceIte,o3,v3,Nat.zero_lt_succ,gx,qZ,qQ,decide_true,Bool.false_eq_true,qB,zb,cb3,qc,qh,jT,e3,lc3,qaV,cap] at key ⊢
   exact key
def zt:Nat->Sp3
 |0=>W8
 |n+1=>fun ts G q=>∃ d:Dl,ts=[d.t]/\d.dep<=n/\d.Ok/\∀ G',Ex G G'->q (XX d) G'
theorem qil:∀ {d:Nat},d<=9->L2.atI [T.int 1,.int 2,.int 4,.int 8,.int 16,.int 32,.int 64,.int 128,.int 256,.int 512] (d:Int)=some (.int (2 ^ d))
 |0,_=>rfl
 |1,_=>rfl
 |2,_=>rfl
 |3,_=>rfl
 |4,_=>rfl
 |5,_=>rfl
 |6,_=>rfl
 |7,_=>rfl
 |8,_=>rfl
 |9,_=>rfl
 |k+10,h=>absurd h (Nat.not_le.mpr (Nat.lt_of_lt_of_le (Nat.lt_succ_self _) (Nat.le_add_left _ _)))
theorem qae:∀ {d:Nat},d<=8->L2.atI [T.int 1,.int 2,.int 4,.int 8,.int 16,.int 32,.int 64,.int 128,.int 256] (d:Int)=some (.int (2 ^ d))
 |0,_=>rfl
 |1,_=>rfl
 |2,_=>rfl
 |3,_=>rfl
 |4,_=>rfl
 |5,_=>rfl
 |6,_=>rfl
 |7,_=>rfl
 |8,_=>rfl
 |k+9,h=>absurd h (Nat.not_le.mpr (Nat.lt_of_lt_of_le (Nat.lt_succ_self _) (Nat.le_add_left _ _)))
theorem qaH:∀ {d:Nat},d<=4->L2.atI [T.int 1,.int 2,.int 4,.int 8,.int 16] (d:Int)=some (.int (2 ^ d))
 |0,_=>rfl
 |1,_=>rfl
 |2,_=>rfl
 |3,_=>rfl
 |4,_=>rfl
 |k+5,h=>absurd h (Nat.not_le.mpr (Nat.lt_of_lt_of_le (Nat.lt_succ_self _) (Nat.le_add_left _ _)))
theorem qdm {α:Type} {x:α} {xs:List α}:L2.atI (x::xs) 0=some x:=by simp [L2.atI,ixN]
theorem qbA {α:Type} {x y:α} {xs:List α}:L2.atI (x::y::xs) 1=some y:=by
 rw [ju (by omega) (by simp;omega)];rfl
theorem qdn {α:Type} {x y z:α} {xs:List α}:L2.atI (x::y::z::xs) 2=some z:=by
 rw [ju (by omega) (by simp;omega)];rfl
theorem qjV {α:Type} {x y z w:α} {xs:List α}:L2.atI (x::y::z::w::xs) 3=some w:=by
 rw [ju (by omega) (by simp;omega)];rfl
theorem zM {s l:Str} {xs:List T} {R S:TS3} {d:Ends3} {τ:St3} {G:Gp} (hτ:τ[0]?=some (some (T.tup (.str s::xs)))):qv (qV (tb3 (o3 (qZ false) (o3 ix3 (v3 0) (c3 (.int 0))) (c3 (.str l)))) R qt) S d τ G=(if s=l then R { d with nx:=S d } τ G else S d τ G):=by
 simp only [qv,qV,tb3,o3,v3,hτ,c3,L3.ixT,qdm,qZ,qQ,qt]
 by_cases e:s=l<;>simp [e]
theorem MB {s l1 l2:Str} {xs:List T} {R S:TS3} {d:Ends3} {τ:St3} {G:Gp} (hτ:τ[0]?=some (some (T.tup (.str s::xs)))):qv (qV (tb3 (o3 (in3 false) (o3 ix3 (v3 0) (c3 (.int 0))) (qU (qc (c3 (.str l1)) (qc (c3 (.str l2)) qh))))) R qt) S d τ G=(if s=l1\/s=l2 then R { d with nx:=S d } τ G else S d τ G):=by
 have s2:[T.str l1,T.str l2].length<=sizeLine:=by simp [sizeLine_eq]
 simp only [qv,qV,tb3,o3,v3,hτ,c3,L3.ixT,qdm,qU,qc,qh,in3,qt]
 by_cases e1:s=l1
 ·subst e1;simp [zr,eqF,sizeLine_eq]
 ·have e1':¬ l1=s:=fun z=>e1 z.symm
  by_cases e2:s=l2
  ·subst e2;simp [zr,eqF,sizeLine_eq]
  ·have e2':¬ l2=s:=fun z=>e2 z.symm
   simp [zr,eqF,sizeLine_eq,e1,e2,e1',e2']
theorem UY (n:Nat):∀ ts G q,zt (n+1) ts G q->ts.length=1/\VQ (zt n) (CB q) (qk ["_law_dealing","_law_two","_law_one","_law_other"] ts) G:=by
 rintro ts G q ⟨d,rfl,hd,ok,h⟩
 refine ⟨rfl,?_⟩
 have h0:=h G Ex.refl
 unfold VQ
 cases d with
 |skew r c b x y=>
  show qv _ _ _ [some (.tup [.str "skew",.int r,.int c,.int b,.int x,.int y]),none,none,none] G
  rw [MB rfl,if_pos (.inl rfl)]
  simp [sl3,qB,Z8,sp3,v3,c3,L3.ZO,HT.sIx]
  exact h0
 |rests r c b x=>
  show qv _ _ _ [some (.tup [.str "rests",.int r,.int c,.int b,.int x]),none,none,none] G
  rw [MB rfl,if_pos (.inr rfl)]
  simp [sl3,qB,Z8,sp3,v3,c3,L3.ZO,HT.sIx]
  exact h0
 |bits hh l ms=>
  obtain ⟨k1,k2,k3,_⟩:=ok
  show qv _ _ _ [some (.tup [.str "bits",.int hh,.int l,.tup (ms.map T.int)]),none,none,none] G
  rw [MB rfl,if_neg (by decide),zM rfl,if_pos rfl]
  simp only [qv,qH,zV,qc,c3,qh,length_cons,length_nil,Nat.zero_add,Nat.reduceAdd,sizeLine_eq,Nat.reduceLeDiff,gn3,qB,qU,o3,v3,set_cons_succ,set_cons_zero,Nat.reduceLT,getElem?_pos,getElem_cons_succ,getElem_cons_zero,Nat.zero_lt_succ,cb3,jT,true_and,ixR,getL,ixT]
  intro p hp
  have ix:∀ k:Nat,k<=5->L2.atI [T.int 1,.int 2,.int 4,.int 8,.int 16,.int 32,.int 64,.int 128,.int 256,.int 512] (k:Int)=some (.int (2 ^ k)):=fun k hk=>qil (by omega)
  simp only [qbA,qdn,qjV,length_map,ixR,getL,gu,↓reduceIte,ix hh (by omega),ix l (by omega),ix ms.length (by omega)]
  exact h _ (QN hp)
 |table b cells=>
  have L:=Dl.lims ok
  obtain ⟨k1,k2,k3,k4,c,k5,k6,k7⟩:=ok
  cases cells with
  |nil=>simp at k3
  |cons row cells=>
   show qv _ _ _ [some (.tup [.str "table",.int b,.tup (qaA row::cells.map qaA)]),none,none,none] G
   rw [MB rfl,if_neg (by decide),zM rfl,if_neg (by decide),zM rfl,if_pos rfl]
   simp only [qB,qU,qc,cb3,o3,v3,qaA,length_cons,length_nil,Nat.zero_add,Nat.reduceAdd,Nat.zero_lt_succ,getElem?_pos,getElem_cons_zero,c3,qh,jT,sizeLine_eq,Nat.reduceLeDiff,true_and,ixT,qbA,getL,qdn,qdm,length_map,Int.natCast_add,Int.cast_ofNat_Int];simpa [XX,Dl.R,Dl.C,Dl.B] using h0
 |joined d e=>
  have Ld:=Dl.lims ok.1
  have Le:=Dl.lims ok.2.1
  have:1<=n:=by simp [Dl.dep] at hd;omega
  obtain ⟨m,rfl⟩:∃ m,n=m+1:=⟨n-1,by omega⟩
  show qv _ _ _ [some (.tup [.str "joined",d.t,e.t]),none,none,none] G
  rw [MB rfl,if_neg (by decide),zM rfl,if_neg (by decide),zM rfl,if_neg (by decide)]
  refine zu fun nx1 q1=>?_
  simp only [j7,qc,qh,cb3,o3,v3,c3,L3.ixT,qbA,qdn,getElem?_cons_zero]
  refine ⟨d,rfl,by simp [Dl.dep] at hd;omega,ok.1,fun G1 E1=>?_⟩
  refine ⟨e,rfl,by simp [Dl.dep] at hd;omega,ok.2.1,fun G2 E2=>?_⟩
  simp
  rw [q1]
  have e1:=Le.r1;have e2:=Le.r2;have e3:=Le.c1;have e4:=Le.c2;have e5:=Le.b1;have e6:=Le.b2
  simp only [qB,cb3,qc,lc3,qaV,v3,XX,length_cons,length_nil,Nat.zero_add,Nat.reduceAdd,Nat.reduceLT,getElem?_pos,getElem_cons_succ,getElem_cons_zero,Nat.lt_add_one,qh,jD,and_self,qF,getL,qcK,List.zip_cons_cons,List.zip_nil_right,map_cons,List.map_nil,cap,RV,qM,qj,gn3,qL,tt3,↓reduceIte,o3,set_cons_zero,set_cons_succ,Nat.zero_lt_succ,iC,sizeLine_eq,List.nil_append,cons_append,gu,true_and]
  refine ⟨cm (by omega) (by omega),cm (by omega) (by omega),cm (by omega) (by omega),fun p hp=>?_⟩
  exact h _ ((E1.trans E2).trans (QN hp))
theorem TC {te:TE3} {q:Q3} {a:Addr} {n many:Int} {ZP:St3} {items:List T} {x0:Option T} {G:Gp} (hte:∀ x0 G3 (Q:T->Gp->Prop),qE [.ref a,.int many] G3 Q->te (x0::ZP) G3 Q) (hL:Lf G a n) (m1:1<=many) (m2:many<1073741824) (hl:items.length<=1000) (hn:n<1000000000)
  (h:∀ (ds:List Int) G' p,ds.length=items.length->(∀ d∈ds,0<=d/\d<many)->Lf G' a (n+items.length)->Ext a G G'->G' p=none->q (.ref p) (gu G' p (.lst (ds.map T.int)))) :
  RV (fun _=>True) (gn3 0) tt3 te q items [] (x0::ZP) G:=by
 refine EM _ (fun i ys τ G'=>∃ (ds:List Int) (x0:Option T),τ=x0::ZP/\ys=ds.map T.int/\ds.length=i/\(∀ d∈ds,0<=d/\d<many)/\Lf G' a (n+i)/\Ext a G G') ⟨[],x0,rfl,rfl,rfl,by simp,by simpa using hL,Ext.refl⟩ (fun _ _ _ _ _ _=>True.intro) ?_ ?_
 ·rintro i z ys τ G' R hz ⟨ds,x0,rfl,rfl,e,hd,hL',E⟩ hR
  have hi:=(List.getElem?_eq_some_iff.mp hz).1
  simp only [gn3,tt3,set_cons_zero,if_true]
  refine hte _ _ _ (qO hL' m1 m2 (by omega) fun d G2 d1 d2 L2 E2=>⟨by simp [sizeLine_eq];omega,hR _ _ _ ⟨ds++[d],_,rfl,by simp,by simp [e],fun x hx=>?_,L2.mono (by omega),E.trans E2⟩⟩)
  rcases List.mem_append.mp hx with hx|hx
  ·exact hd x hx
  ·simp at hx;subst hx;exact ⟨d1,d2⟩
 ·rintro ys τ G' ⟨ds,x0,rfl,rfl,e,hd,hL',E⟩ p hp
  exact h ds G' p e hd hL' E hp
def RM:Sp3:=fun ts G q=>∃ a n most,ts=[.ref a,.int most]/\Lf G a n/\n<10000000/\0<=most/\most<=4/\∀ (h l:Nat) (ms:List Int) G',(h:Int)<=most->(l:Int)<=most->(Dl.bits h l ms).Ok->Lf G' a (n+10)->Ext a G G'->q (Dl.bits h l ms).t G'
theorem qaF {wide:Int} {p:Addr} {ds:List Int} {x0:Option T} {G:Gp} {q:Q3} (hw:0<wide) (hl:ds.length<=1000) (hG:getL G p=some (ds.map T.int)) (h:∀ p2,G p2=none->q (.ref p2) (gu G p2 (.lst ((ds.map (·%wide)).map T.int)))) :
  RV (fun G=>getL G p=some (ds.map T.int)) (gn3 0) tt3 (o3 (iC (fun _ j=>0<j) (·%·)) (v3 0) (v3 1)) q (ds.map T.int) [] [x0,some (.int wide)] G:=by
 refine N6 (fun t=>match t with|.int m=>T.int (m%wide)|t=>t) (fun τ=>∃ x0,τ=[x0,some (.int wide)]) hG _ _ _ ⟨_,rfl⟩ ?_ (by simp [sizeLine_eq];omega) fun p2 hp2=>?_
 ·rintro z hz τ ⟨x0,rfl⟩ R hR
  rw [mem_map] at hz
  obtain ⟨m,_,rfl⟩:=hz
  simp [gn3,o3,v3,iC]
  exact ⟨hw,hR _ ⟨_,rfl⟩⟩
 ·have:=h p2 hp2
  simpa [map_map,Function.comp_def] using this
theorem M1:∀ ts G q,RM ts G q->ts.length=2/\VO qE (CB q) (qk ["_law_left_here","_law_most","_law_high","_law_low","_law_masks","_law_wide"] ts) G:=by
 rintro ts G q ⟨a,n,most,rfl,hL,hn,m1,m2,h⟩
 refine ⟨rfl,?_⟩
 simp only [VO,qv,j7,qc,cb3,v3,qk,map_cons,List.map_nil,length_cons,length_nil,Nat.zero_add,Nat.reduceAdd,Nat.reduceSub,List.reduceReplicate,cons_append,List.nil_append,Nat.zero_lt_succ,getElem?_pos,getElem_cons_zero,o3,Nat.reduceLT,getElem_cons_succ,c3,qW,qh,qH,set_cons_succ,set_cons_zero,gn3,zV,sizeLine_eq,Nat.reduceLeDiff,ne_eq,qB,qU,qF,true_and,getL,gu,ixR,↓reduceIte]
 refine qO hL (by omega) (by omega) (by omega) fun hi G1 h1 h2 L1 E1=>?_
 try simp
 refine qO L1 (by omega) (by omega) (by omega) fun lo G2 l1 l2 L2' E2=>?_
 simp only [lc3,zA,qc,cb3,v3,length_cons,length_nil,Nat.zero_add,Nat.reduceAdd,Nat.zero_lt_succ,getElem?_pos,getElem_cons_zero,c3,qh,Int.reducePow,Int.reduceNeg,cap,map_cons,Nat.lt_add_one,getElem_cons_succ,Option.join_some,List.map_nil]
 refine qO L2' (by omega) (by omega) (by omega) fun k G3 k1 k2 L3' E3=>?_
 refine ⟨⟨by omega,by omega⟩,TC (many:=256) (fun x0 G3 Q hq=>by simpa [cb3,qc,v3,c3,qh] using hq) L3' (by omega) (by omega) (by rw [ZB];omega) (by omega) fun ds G4 p e1 e2 L4 E4 hp=>?_⟩
 rw [ZB] at e1 L4
 obtain ⟨H,rfl⟩:=Int.eq_ofNat_of_zero_le h1
 obtain ⟨W,rfl⟩:=Int.eq_ofNat_of_zero_le l1
 have hpa:=L4.ne hp
 try simp
 intro p2 hp2
 have pp:p≠p2:=by rintro rfl;rw [qw] at hp2;cases hp2
 have e3:((H:Int)+(W:Int))=((H+W:Nat):Int):=by omega
 have w1:=DM (H+W)
 have hG:∀ B,getL (gu (gu G4 p (.lst (ds.map T.int))) p2 B) p=some (ds.map T.int):=fun B=>by simp only [getL,jF pp,qw]
 rw [e3,qae (d:=H+W) (by omega)]
 simp only [UG,v3,getElem?_cons_zero,getElem?_cons_succ,hG]
 refine qaF (by omega) (by omega) (hG _) fun p3 hp3=>?_
 simp only [qw]
 refine h H W _ _ (by omega) (by omega) ⟨by omega,by omega,by simp;omega,fun m hm=>?_⟩ ((((L4.new hpa).new ((L4.new hpa).ne hp2)).new (((L4.new hpa).new ((L4.new hpa).ne hp2)).ne hp3)).mono (by omega)) (((E1.trans E2).trans (E3.trans E4)).trans (((zB hp).trans (zB hp2)).trans (zB hp3)))
 rw [mem_map] at hm
 obtain ⟨x,_,rfl⟩:=hm
 exact ⟨Int.emod_nonneg _ (by omega),Int.emod_lt_of_pos _ (by omega)⟩
structure Cells (cells:List (List Int)) (r c b:Int):Prop where
 r:(cells.length:Int)=r
 c:∀ row∈cells,(row.length:Int)=c/\∀ x∈row,0<=x/\x<b
theorem qao {q:Q3} {a:Addr} {n r c b:Int} {x0:Option T} {G:Gp} (hL:Lf G a n) (hn:n<100000000) (r1:1<=r) (r2:r<=16) (c1:1<=c) (c2:c<=16) (b1:1<=b) (b2:b<=1000)
  (h:∀ cells G' p,Cells cells r c b->Lf G' a (n+256)->Ext a G G'->G' p=none->q (.ref p) (gu G' p (.lst (cells.map qaA)))) :
  RV (fun _=>True) (gn3 0) tt3 (cb3 qF (qc (lc3 (zA (qc (v3 3) qh)) (gn3 0) tt3 (cb3 qE (qc (v3 1) (qc (v3 2) qh))) [none,some 1,some 2]) qh)) q (qan 0 r.toNat) [] [x0,some (.ref a),some (.int b),some (.int c)] G:=by
 refine EM _ (fun i ys τ G'=>∃ (cells:List (List Int)) (x0:Option T),τ=[x0,some (.ref a),some (.int b),some (.int c)]/\ys=cells.map qaA/\Cells cells i c b/\Lf G' a (n+16*i)/\Ext a G G') ⟨[],x0,rfl,rfl,⟨rfl,by simp⟩,by simpa using hL,Ext.refl⟩ (fun _ _ _ _ _ _=>True.intro) ?_ ?_
 ·rintro i z ys τ G' R hz ⟨cells,x0,rfl,rfl,C,hL',E⟩ hR
  obtain ⟨hi,rfl⟩:=TX hz
  have hc:=C.r
  simp only [gn3,tt3,↓reduceIte,cb3,qc,lc3,zA,v3,Int.zero_add,set_cons_zero,length_cons,length_nil,Nat.zero_add,Nat.reduceAdd,Nat.lt_add_one,getElem?_pos,getElem_cons_succ,getElem_cons_zero,qh,Int.reducePow,Int.reduceNeg,qF,length_map,sizeLine_eq,getL,cap,map_cons,Nat.reduceLT,Option.join_some,List.map_nil]
  refine ⟨⟨by omega,by omega⟩,TC (many:=b) (fun x0 G3 Q hq=>by simpa [cb3,qc,v3,c3,qh] using hq) hL' (by omega) (by omega) (by rw [ZB];omega) (by omega) fun ds G4 p e1 e2 L4 E4 hp=>?_⟩
  rw [ZB] at e1 L4
  simp only [qw]
  refine ⟨by omega,hR _ _ _ ⟨cells++[ds],_,rfl,by simp [qaA],⟨by simp;omega,fun row hrow=>?_⟩,((L4.new (L4.ne hp)).mono (by omega)),(E.trans E4).trans (zB hp)⟩⟩
  rcases List.mem_append.mp hrow with hr|hr
  ·exact C.c row hr
  ·simp at hr;subst hr;exact ⟨by omega,e2⟩
 ·rintro ys τ G' ⟨cells,x0,rfl,rfl,C,hL',E⟩ p hp
  rw [ZB] at C hL'
  exact h cells G' p ⟨by have:=C.r;omega,C.c⟩ (hL'.mono (by omega)) E hp
theorem Cells.ok {cells:List (List Int)} {r c b:Int} (C:Cells cells r c b) (r1:1<=r) (r2:r<=60) (c1:1<=c) (c2:c<=60) (b1:1<=b) (b2:b<=1000):(Dl.table b cells).Ok/\(Dl.table b cells).R=r/\(Dl.table b cells).C=c:=by
 have hl:=C.r
 have ok:(Dl.table b cells).Ok:=⟨b1,b2,by omega,by omega,c.toNat,by omega,by omega,fun row hr=>⟨by have:=(C.c row hr).1;omega,(C.c row hr).2⟩⟩
 have e0:cells[0]?=some cells[0]:=getElem?_eq_getElem (by omega)
 exact ⟨ok,hl,by simp [Dl.C,e0];exact (C.c cells[0] (List.getElem_mem _)).1⟩
def XE:Sp3:=fun ts G q=>∃ a n,ts=[.ref a]/\Lf G a n/\n<10000000/\∀ (d:Dl) G',Dr d 4 4 5->d.dep=0->Lf G' a (n+300)->Ext a G G'->q d.t G'
theorem LS:∀ ts G q,XE ts G q->ts.length=1/\YD qE D6 (CB q) (qk ["_law_left_here","_law_rows","_law_columns","_law_banks","_law_way","_law_high","_law_low","_law_masks","_law_wide","_law_places","_law_turn","_law_cells"] ts) G:=by
 rintro ts G q ⟨a,n,rfl,hL,hn,h⟩
 refine ⟨rfl,?_⟩
 unfold YD
 refine zu fun nx1 q1=>?_
 simp only [qH,qU,qc,o3,c3,cb3,v3,qk,map_cons,List.map_nil,length_cons,length_nil,Nat.zero_add,Nat.reduceAdd,Nat.add_one_sub_one,List.reduceReplicate,cons_append,List.nil_append,Nat.zero_lt_succ,getElem?_pos,getElem_cons_zero,qh,qW,ne_eq,sizeLine_eq,Nat.reduceLeDiff,qM,qj,gn3,qL,set_cons_succ,set_cons_zero,true_and]
 refine qO hL (by omega) (by omega) (by omega) fun r G1 r1 r2 L1 E1=>?_
 try simp
 refine qO L1 (by omega) (by omega) (by omega) fun c G2 c1 c2 L2' E2=>?_
 try simp
 refine qO L2' (by omega) (by omega) (by omega) fun b G3 b1 b2 L3' E3=>?_
 try simp
 rw [q1]
 refine zu fun nx2 q2=>?_
 simp only [qH,cb3,qc,v3,length_cons,length_nil,Nat.zero_add,Nat.reduceAdd,Nat.zero_lt_succ,getElem?_pos,getElem_cons_zero,c3,qh,gn3,set_cons_succ,set_cons_zero]
 refine qO L3' (by omega) (by omega) (by omega) fun way G4 w1 w2 L4 E4=>?_
 have EE:=(E1.trans E2).trans (E3.trans E4)
 rw [q2]
 refine zu fun nx3 q3=>?_
 by_cases k0:way=0
 ·subst k0
  simp only [qV,tb3,o3,v3,length_cons,length_nil,Nat.zero_add,Nat.reduceAdd,Nat.reduceLT,getElem?_pos,getElem_cons_succ,getElem_cons_zero,c3,qZ,qQ,decide_true,Bool.false_eq_true,↓reduceIte,qB,qU,qc,cb3,Nat.zero_lt_succ,qh,sizeLine_eq,Nat.reduceLeDiff,true_and]
  refine qO L4 (by omega) (by omega) (by omega) fun x G5 x1 x2 L5 E5=>?_
  try simp
  refine qO L5 (by omega) (by omega) (by omega) fun y G6 y1 y2 L6 E6=>?_
  try simp
  exact h (.skew (1+r) (1+c) (1+b) x y) G6 ⟨⟨by omega,by omega,by omega,by omega,by omega,by omega,by omega,by omega,by omega,by omega⟩,by show 1+r<=4;omega,by show 1+c<=4;omega,by show 1+b<=5;omega⟩ rfl (L6.mono (by omega)) (EE.trans (E5.trans E6))
 simp only [qV,tb3,o3,v3,c3,qZ,qQ,getElem?_cons_zero,getElem?_cons_succ,k0,decide_false,Bool.false_eq_true,if_false,qt]
 rw [q3]
 refine zu fun nx4 q4=>?_
 by_cases k1:way=1
 ·subst k1
  simp only [qV,tb3,o3,v3,length_cons,length_nil,Nat.zero_add,Nat.reduceAdd,Nat.reduceLT,getElem?_pos,getElem_cons_succ,getElem_cons_zero,c3,qZ,qQ,decide_true,Bool.false_eq_true,↓reduceIte,qv,j7,qc,cb3,Nat.zero_lt_succ,qh,qH,set_cons_succ,set_cons_zero,gn3,zV,sizeLine_eq,Nat.reduceLeDiff,qW,ne_eq,qB,qU,qF,true_and,getL,gu,ixR]
  refine qO L4 (by omega) (by omega) (by omega) fun hi G5 h1 h2 L5 E5=>?_
  try simp
  refine qO L5 (by omega) (by omega) (by omega) fun lo G6 l1 l2 L6 E6=>?_
  simp only [lc3,zA,qc,cb3,v3,length_cons,length_nil,Nat.zero_add,Nat.reduceAdd,Nat.zero_lt_succ,getElem?_pos,getElem_cons_zero,c3,qh,Int.reducePow,Int.reduceNeg,cap,map_cons,Nat.reduceLT,getElem_cons_succ,Option.join_some,List.map_nil]
  refine qO L6 (by omega) (by omega) (by omega) fun k G7 k1 k2 L7 E7=>?_
  refine ⟨⟨by omega,by omega⟩,TC (many:=16) (fun x0 G3 Q hq=>by simpa [cb3,qc,v3,c3,qh] using hq) L7 (by omega) (by omega) (by rw [ZB];omega) (by omega) fun ds G8 p e1 e2 L8 E8 hp=>?_⟩
  rw [ZB] at e1 L8
  obtain ⟨H,rfl⟩:=Int.eq_ofNat_of_zero_le h1
  obtain ⟨W,rfl⟩:=Int.eq_ofNat_of_zero_le l1
  have hpa:=L8.ne hp
  try simp
  intro p2 hp2
  have pp:p≠p2:=by rintro rfl;rw [qw] at hp2;cases hp2
  have e3:((H:Int)+(W:Int))=((H+W:Nat):Int):=by omega
  have w1:=DM (H+W)
  have hG:∀ B,getL (gu (gu G8 p (.lst (ds.map T.int))) p2 B) p=some (ds.map T.int):=fun B=>by simp only [getL,jF pp,qw]
  rw [e3,qaH (d:=H+W) (by omega)]
  simp only [UG,v3,getElem?_cons_zero,getElem?_cons_succ,hG]
  refine qaF (by omega) (by omega) (hG _) fun p3 hp3=>?_
  simp only [qw]
  have bl:(Dl.bits H W (ds.map (·%2 ^ (H+W)))).Ok:=⟨by omega,by omega,by simp;omega,fun m hm=>by
   rw [mem_map] at hm
   obtain ⟨x,_,rfl⟩:=hm
   exact ⟨Int.emod_nonneg _ (by omega),Int.emod_lt_of_pos _ (by omega)⟩⟩
  have q1:=DR (n:=H) (k:=2) (by omega)
  have q2:=DR (n:=W) (k:=2) (by omega)
  have q3:=DR (n:=ds.length) (k:=2) (by omega)
  exact h (.bits H W _) _ ⟨bl,by show (2:Int) ^ H<=4;omega,by show (2:Int) ^ W<=4;omega,by simp [Dl.B];omega⟩ rfl ((((L8.new hpa).new ((L8.new hpa).ne hp2)).new (((L8.new hpa).new ((L8.new hpa).ne hp2)).ne hp3)).mono (by omega)) (EE.trans (((E5.trans E6).trans (E7.trans E8)).trans (((zB hp).trans (zB hp2)).trans (zB hp3))))
 simp only [qV,tb3,o3,v3,c3,qZ,qQ,getElem?_cons_zero,getElem?_cons_succ,k1,decide_false,Bool.false_eq_true,if_false,qt]
 rw [q4]
 refine zu fun nx5 q5=>?_
 by_cases k2:way=2
 ·subst k2
  simp only [qV,tb3,o3,v3,length_cons,length_nil,Nat.zero_add,Nat.reduceAdd,Nat.reduceLT,getElem?_pos,getElem_cons_succ,getElem_cons_zero,c3,qZ,qQ,decide_true,Bool.false_eq_true,↓reduceIte,qv,qH,u3,Z5,iC,cb3,qc,Nat.zero_lt_succ,qh,qW,ne_eq,sizeLine_eq,gn3,set_cons_succ,set_cons_zero]
  refine ⟨cm (by omega) (by omega),⟨by omega,by omega⟩,qO L4 (by omega) (by omega) (by omega) fun e G5 e1 e2 L5 E5=>?_⟩
  obtain ⟨u1,u2,u3⟩:=qeL (show 1<=1+r by omega) (show 1<=1+c by omega) (show 1<=1+b by omega)
  have rc:(1+r)*(1+c)<=4*4:=Int.mul_le_mul (by omega) (by omega) (by omega) (by omega)
  simp only [RU,zA,qc,c3,qh,Int.reducePow,Int.reduceNeg,Int.neg_ofNat_le_ofNat,Int.reduceLT,and_self,Int.reduceToNat,true_and]
  obtain ⟨p0,hp0⟩:∃ p0,p0=-(-(1+r)*(1+c)/(1+b))+e:=⟨_,rfl⟩
  refine VG _ (fun i τ G'=>G'=G5/\∃ (pl:Int) (x:Option T),τ=[some (.ref a),some (.int (1+r)),some (.int (1+c)),some (.int (1+b)),some (.int 2),none,none,none,none,some (.int pl),x,none]/\Plc (1+b) p0 pl i) ⟨rfl,_,none,by rw [← hp0],⟨by omega,by omega,.inr ⟨by omega,by omega⟩⟩⟩ (fun _ _ _ _ _=>True.intro) ?_ ?_
  ·rintro i x τ G' nx hx ⟨rfl,pl,y,rfl,P⟩ hn
   simp only [gn3,qV,tb3,o3,cb3,qc,v3,set_cons_succ,set_cons_zero,length_cons,length_nil,Nat.zero_add,Nat.reduceAdd,Nat.reduceLT,getElem?_pos,getElem_cons_succ,getElem_cons_zero,qh,c3,iB,decide_eq_true_eq,qH,qW,qt]
   refine ⟨1+b,pl,rfl,by omega,by have:=P.lo;omega,?_⟩
   simp
   split
   ·exact hn _ _ ⟨rfl,_,_,rfl,P.next (by omega) (by omega) (by omega)⟩
   ·exact hn _ _ ⟨rfl,_,_,rfl,P.stay (by omega) (by omega) (by omega)⟩
  ·rintro τ G' ⟨rfl,pl,x,rfl,P⟩
   simp only [qB,qU,qc,c3,v3,length_cons,length_nil,Nat.zero_add,Nat.reduceAdd,Nat.reduceLT,getElem?_pos,getElem_cons_succ,getElem_cons_zero,qh,sizeLine_eq,Nat.reduceLeDiff,true_and]
   rw [ZB] at P
   have lo:=P.lo;have hi:=P.hi
   have m1:(1+b)*-(-(1+r)*(1+c)/(1+b))<=(1+b)*pl:=Int.mul_le_mul_of_nonneg_left (by omega) (by omega)
   exact h (.rests (1+r) (1+c) (1+b) pl) G' ⟨⟨by omega,by omega,by omega,by omega,by omega,by omega,by omega,by omega,P.done (by omega) (by omega),by omega⟩,by show 1+r<=4;omega,by show 1+c<=4;omega,by show 1+b<=5;omega⟩ rfl (L5.mono (by omega)) (EE.trans E5)
 ·simp only [qV,tb3,o3,v3,c3,qZ,qQ,getElem?_cons_zero,getElem?_cons_succ,k2,decide_false,Bool.false_eq_true,if_false,qt]
  rw [q5]
  simp only [qv,qH,lc3,zA,qc,v3,length_cons,length_nil,Nat.zero_add,Nat.reduceAdd,Nat.reduceLT,getElem?_pos,getElem_cons_succ,getElem_cons_zero,qh,Int.reducePow,Int.reduceNeg,gn3,qB,qU,c3,set_cons_succ,set_cons_zero,cb3,Nat.lt_add_one,qF,sizeLine_eq,Nat.reduceLeDiff,true_and,getL,cap,map_cons,Nat.zero_lt_succ,Option.join_some,List.map_nil]
  refine ⟨⟨by omega,by omega⟩,qao L4 (by omega) (by omega) (by omega) (by omega) (by omega) (by omega) (by omega) fun cells G5 p C L5 E5 hp=>?_⟩
  obtain ⟨ok,eR,eC⟩:=C.ok (by omega) (by omega) (by omega) (by omega) (by omega) (by omega)
  simp only [qw]
  exact h (.table (1+b) cells) _ ⟨ok,by omega,by omega,by show 1+b<=5;omega⟩ rfl ((L5.new (L5.ne hp)).mono (by omega)) (EE.trans (E5.trans (zB hp)))
def XF:Sp3:=fun ts G q=>∃ a n,ts=[.ref a]/\Lf G a n/\n<10000000/\∀ (b:Int) cells r c G',Cells cells r c b->Dr (.table b cells) 16 16 32->(Dl.table b cells).R=r->(Dl.table b cells).C=c->Lf G' a (n+300)->Ext a G G'->q (Dl.table b cells).t G'
theorem K3:∀ ts G q,XF ts G q->ts.length=1/\J6 ZZ qE (CB q) (qk ["_law_left_here","_law_rows","_law_columns","_law_banks","_law_cells"] ts) G:=by
 rintro ts G q ⟨a,n,rfl,hL,hn,h⟩
 refine ⟨rfl,?_⟩
 simp only [J6,qv,qH,cb3,qc,v3,qk,map_cons,List.map_nil,length_cons,length_nil,Nat.zero_add,Nat.reduceAdd,Nat.add_one_sub_one,List.reduceReplicate,cons_append,List.nil_append,Nat.zero_lt_succ,getElem?_pos,getElem_cons_zero,qh,qM,qj,gn3,qL,o3,c3,set_cons_succ,set_cons_zero,zV,sizeLine_eq,Nat.reduceLeDiff,qW,ne_eq,qB,qU,Nat.reduceLT,getElem_cons_succ,Nat.lt_add_one,qF,true_and,getL]
 refine ⟨a,n,rfl,hL,by omega,fun r c G1 r1 r2 c1 c2 L1 E1=>?_⟩
 simp
 intro p hp
 have hpa:=L1.ne hp
 refine qO (L1.new hpa) (by omega) (by omega) (by omega) fun d G2 d1 d2 L2' E2=>?_
 have g2:=E2 p _ hpa qw
 obtain ⟨w,hw,w',rfl,w1,w2⟩:=qoy d1 d2 (P:=fun t=>∃ w,t=T.int w/\1<=w/\w<=32) ⟨4,rfl,by omega,by omega⟩ ⟨9,rfl,by omega,by omega⟩ ⟨32,rfl,by omega,by omega⟩
 simp only [ixR,getL,g2,hw]
 refine qO L2' w1 (by omega) (by omega) fun b G3 b1 b2 L3' E3=>?_
 simp only [lc3,zA,qc,v3,length_cons,length_nil,Nat.zero_add,Nat.reduceAdd,Nat.reduceLT,getElem?_pos,getElem_cons_succ,getElem_cons_zero,qh,Int.reducePow,Int.reduceNeg,cap,map_cons,Nat.zero_lt_succ,Option.join_some,List.map_nil]
 refine ⟨⟨by omega,by omega⟩,qao L3' (by omega) (by omega) (by omega) (by omega) (by omega) (by omega) (by omega) fun cells G5 p C L5 E5 hp5=>?_⟩
 obtain ⟨ok,eR,eC⟩:=C.ok (by omega) (by omega) (by omega) (by omega) (by omega) (by omega)
 simp only [qw]
 exact h (1+b) cells r c _ C ⟨ok,by omega,by omega,by show 1+b<=32;omega⟩ eR eC ((L5.new (L5.ne hp5)).mono (by omega)) (E1.trans (((zB hp).trans E2).trans (E3.trans (E5.trans (zB hp5)))))
theorem M0 {a b x y:Int} (h0:1<=a) (h1:a<=x) (h2:1<=b) (h3:b<=y):a*b<=x*y:=Int.mul_le_mul h1 h3 (by omega) (by omega)
theorem Dr.join {d e:Dl} {r c b r' c' b':Int} (D:Dr d r c b) (E:Dr e r' c' b') (h1:r*r'<=4096) (h2:c*c'<=4096) (h3:b*b'<=4096):Dr (.joined d e) (r*r') (c*c') (b*b'):=by
 have Ld:=Dl.lims D.ok
 have Le:=Dl.lims E.ok
 have a1:=M0 Ld.r1 D.r2 Le.r1 E.r2
 have a2:=M0 Ld.c1 D.c2 Le.c1 E.c2
 have a3:=M0 Ld.b1 D.b2 Le.b1 E.b2
 exact ⟨⟨D.ok,E.ok,by omega,by omega,by omega⟩,a1,a2,a3⟩
theorem Dr.mono {d:Dl} {r c b r' c' b':Int} (D:Dr d r c b) (h1:r<=r') (h2:c<=c') (h3:b<=b'):Dr d r' c' b':=⟨D.ok,by have:=D.r2;omega,by have:=D.c2;omega,by have:=D.b2;omega⟩
def jZ:Sp3:=fun ts G q=>∃ a n,ts=[.ref a]/\Lf G a n/\n<1000000/\∀ (d:Dl) G',Dr d 16 16 32->d.dep<=2->Lf G' a (n+1000)->Ext a G G'->q d.t G'
theorem qdT {x:Int} (h0:0<=x) (h1:x<2):Dr (.joined (.skew (1+x) 1 2 1 1) (.table 2 [[1,0]])) 2 2 4:=by
 have a:Dr (.skew (1+x) 1 2 1 1) 2 1 2:=⟨⟨by omega,by omega,by omega,by omega,by omega,by omega,by omega,by omega,by omega,by omega⟩,by show 1+x<=2;omega,Int.le_refl 1,Int.le_refl 2⟩
 have b:Dr (.table 2 [[1,0]]) 1 2 2:=⟨⟨by decide,by decide,by decide,by decide,2,by decide,by decide,by simp⟩,by decide,by decide,by decide⟩
 exact (a.join b (by decide) (by decide) (by decide)).mono (by decide) (by decide) (by decide)
theorem qqE:Dr (.joined (.skew 8 1 3 1 1) (.rests 2 16 5 7)) 16 16 15:=by
 have a:Dr (.skew 8 1 3 1 1) 8 1 3:=⟨⟨by decide,by decide,by decide,by decide,by decide,by decide,by decide,by decide,by decide,by decide⟩,by decide,by decide,by decide⟩
 have b:Dr (.rests 2 16 5 7) 2 16 5:=⟨⟨by decide,by decide,by decide,by decide,by decide,by decide,by decide,by decide,by decide,by decide⟩,by decide,by decide,by decide⟩
 exact (a.join b (by decide) (by decide) (by decide)).mono (by decide) (by decide) (by decide)
theorem qq7:Dr (.joined (.rests 1 8 3 4) (.skew 16 2 5 2 1)) 16 16 15:=by
 have a:Dr (.rests 1 8 3 4) 1 8 3:=⟨⟨by decide,by decide,by decide,by decide,by decide,by decide,by decide,by decide,by decide,by decide⟩,by decide,by decide,by decide⟩
 have b:Dr (.skew 16 2 5 2 1) 16 2 5:=⟨⟨by decide,by decide,by decide,by decide,by decide,by decide,by decide,by decide,by decide,by decide⟩,by decide,by decide,by decide⟩
 exact (a.join b (by decide) (by decide) (by decide)).mono (by decide) (by decide) (by decide)
theorem R9:∀ ts G q,jZ ts G q->ts.length=1/\QW qE RG XS RM XF XE (CB q) (qk ["_law_left_here","_law_way","_law_inner","_law_some"] ts) G:=by
 rintro ts G q ⟨a,n,rfl,hL,hn,h⟩
 refine ⟨rfl,?_⟩
 unfold QW
 refine zu fun nx1 q1=>?_
 simp only [qH,cb3,qc,v3,qk,map_cons,List.map_nil,length_cons,length_nil,Nat.zero_add,Nat.reduceAdd,Nat.add_one_sub_one,List.reduceReplicate,cons_append,List.nil_append,Nat.zero_lt_succ,getElem?_pos,getElem_cons_zero,c3,qh,gn3,set_cons_succ,set_cons_zero]
 refine qO hL (by omega) (by omega) (by omega) fun w G1 w1 w2 L1 E1=>?_
 try simp
 rw [q1]
 clear q1
 refine zu fun nx2 q2=>?_
 by_cases k0:w<2
 ·simp only [qV,tb3,o3,v3,length_cons,length_nil,Nat.zero_add,Nat.reduceAdd,Nat.reduceLT,getElem?_pos,getElem_cons_succ,getElem_cons_zero,c3,iB,k0,decide_true,↓reduceIte,qB,cb3,qc,Nat.zero_lt_succ,qh]
  exact ⟨a,n+1,rfl,L1,by omega,fun r c b x y G2 D L2' E2=>h _ G2 D (Nat.zero_le _) (L2'.mono (by omega)) (E1.trans E2)⟩
 simp only [qV,tb3,o3,v3,c3,iB,getElem?_cons_zero,getElem?_cons_succ,k0,decide_false,Bool.false_eq_true,if_false,qt]
 rw [q2]
 clear q2
 refine zu fun nx3 q3=>?_
 by_cases k1:w=2
 ·subst k1
  simp only [qV,tb3,o3,v3,length_cons,length_nil,Nat.zero_add,Nat.reduceAdd,Nat.reduceLT,getElem?_pos,getElem_cons_succ,getElem_cons_zero,c3,qZ,qQ,decide_true,Bool.false_eq_true,↓reduceIte,qB,cb3,qc,Nat.zero_lt_succ,qh]
  exact ⟨a,n+1,rfl,L1,by omega,fun r c b p G2 D L2' E2=>h _ G2 D (Nat.zero_le _) (L2'.mono (by omega)) (E1.trans E2)⟩
 simp only [qV,tb3,o3,v3,c3,qZ,qQ,getElem?_cons_zero,getElem?_cons_succ,k1,decide_false,Bool.false_eq_true,if_false,qt]
 rw [q3]
 clear q3
 refine zu fun nx4 q4=>?_
 by_cases k2:w=3
 ·subst k2
  simp only [qV,tb3,o3,v3,length_cons,length_nil,Nat.zero_add,Nat.reduceAdd,Nat.reduceLT,getElem?_pos,getElem_cons_succ,getElem_cons_zero,c3,qZ,qQ,decide_true,Bool.false_eq_true,↓reduceIte,qB,cb3,qc,Nat.zero_lt_succ,qh]
  refine ⟨a,n+1,4,rfl,L1,by omega,by omega,by omega,fun hh l ms G2 h1 h2 ok L2' E2=>h _ G2 ⟨ok,?_,?_,?_⟩ (Nat.zero_le _) (L2'.mono (by omega)) (E1.trans E2)⟩
  ·have:=DR (n:=hh) (k:=4) (by omega);show (2:Int) ^ hh<=16;omega
  ·have:=DR (n:=l) (k:=4) (by omega);show (2:Int) ^ l<=16;omega
  ·have:=DR ok.2.2.1;show (2:Int) ^ ms.length<=32;omega
 simp only [qV,tb3,o3,v3,c3,qZ,qQ,getElem?_cons_zero,getElem?_cons_succ,k2,decide_false,Bool.false_eq_true,if_false,qt]
 rw [q4]
 clear q4
 refine zu fun nx5 q5=>?_
 by_cases k3:w=4
 ·subst k3
  simp only [qV,tb3,o3,v3,length_cons,length_nil,Nat.zero_add,Nat.reduceAdd,Nat.reduceLT,getElem?_pos,getElem_cons_succ,getElem_cons_zero,c3,qZ,qQ,decide_true,Bool.false_eq_true,↓reduceIte,qB,cb3,qc,Nat.zero_lt_succ,qh]
  exact ⟨a,n+1,rfl,L1,by omega,fun b cells r c G2 C D eR eC L2' E2=>h _ G2 D (Nat.zero_le _) (L2'.mono (by omega)) (E1.trans E2)⟩
 simp only [qV,tb3,o3,v3,c3,qZ,qQ,getElem?_cons_zero,getElem?_cons_succ,k3,decide_false,Bool.false_eq_true,if_false,qt]
 rw [q5]
 clear q5
 refine zu fun nx6 q6=>?_
 by_cases k4:w=5
 ·subst k4
  simp only [qV,tb3,o3,v3,length_cons,length_nil,Nat.zero_add,Nat.reduceAdd,Nat.reduceLT,getElem?_pos,getElem_cons_succ,getElem_cons_zero,c3,qZ,qQ,decide_true,Bool.false_eq_true,↓reduceIte,qv,qH,qU,qc,cb3,Nat.zero_lt_succ,qh,qW,ne_eq,sizeLine_eq,Nat.reduceLeDiff,gn3,zV,set_cons_succ,set_cons_zero,zE,bm3,Nat.lt_add_one,getL,gu,Option.isSome_some,YQ,cons_append,List.nil_append,qB,true_and]
  refine qO L1 (by omega) (by omega) (by omega) fun x G2 x1 x2 L2' E2=>?_
  have I:=qdT x1 x2
  try simp
  refine ⟨a,n+1+1,rfl,L2',by omega,fun d G3 Dd dd L3' E3=>?_⟩
  try simp
  refine ⟨a,n+1+1+300,rfl,L3',by omega,fun e G4 De de L4 E4=>?_⟩
  try simp
  intro p hp
  have hpa:=L4.ne hp
  refine qO (((L4.new hpa).new hpa).new hpa) (by omega) (by omega) (by omega) fun k G5 k1 k2 L5 E5=>?_
  have g5:=E5 p _ hpa qw
  have EE:Ext a G G5:=(E1.trans E2).trans ((E3.trans E4).trans (Ext.trans (fun b o hb e=>by
   have hbp:b≠p:=by rintro rfl;rw [hp] at e;cases e
   rw [jF hbp,jF hbp,jF hbp];exact e) E5))
  have P1:∃ d':Dl,(Dl.joined (.joined (.skew (1+x) 1 2 1 1) (.table 2 [[1,0]])) d).t=d'.t/\Dr d' 16 16 32/\d'.dep<=2:=⟨_,rfl,(I.join Dd (by decide) (by decide) (by decide)).mono (by decide) (by decide) (by decide),by simp [Dl.dep,dd]⟩
  have P2:∃ d':Dl,(Dl.joined e (.joined (.skew (1+x) 1 2 1 1) (.table 2 [[1,0]]))).t=d'.t/\Dr d' 16 16 32/\d'.dep<=2:=⟨_,rfl,(De.join I (by decide) (by decide) (by decide)).mono (by decide) (by decide) (by decide),by simp [Dl.dep,de]⟩
  have P3:∃ d':Dl,(Dl.joined (.skew 8 1 3 1 1) (.rests 2 16 5 7)).t=d'.t/\Dr d' 16 16 32/\d'.dep<=2:=⟨_,rfl,qqE.mono (by decide) (by decide) (by decide),by simp [Dl.dep]⟩
  have P4:∃ d':Dl,(Dl.joined (.rests 1 8 3 4) (.skew 16 2 5 2 1)).t=d'.t/\Dr d' 16 16 32/\d'.dep<=2:=⟨_,rfl,qq7.mono (by decide) (by decide) (by decide),by simp [Dl.dep]⟩
  obtain ⟨t,ht,d',rfl,D',dl⟩:=qn6 k1 k2 (P:=fun t=>∃ d':Dl,t=d'.t/\Dr d' 16 16 32/\d'.dep<=2) P1 P2 P3 P4
  have hg:getL G5 p=some [(Dl.joined (.joined (.skew (1+x) 1 2 1 1) (.table 2 [[1,0]])) d).t,(Dl.joined e (.joined (.skew (1+x) 1 2 1 1) (.table 2 [[1,0]]))).t,(Dl.joined (.skew 8 1 3 1 1) (.rests 2 16 5 7)).t,(Dl.joined (.rests 1 8 3 4) (.skew 16 2 5 2 1)).t]:=by
   unfold getL;rw [g5];rfl
  rw [L3.ixR,hg]
  simp only [ht]
  exact h d' G5 D' dl (L5.mono (by omega)) EE
 ·simp only [qV,tb3,o3,v3,c3,qZ,qQ,getElem?_cons_zero,getElem?_cons_succ,k4,decide_false,Bool.false_eq_true,if_false,qt]
  rw [q6]
  simp only [qB,qU,qc,c3,cb3,v3,length_cons,length_nil,Nat.zero_add,Nat.reduceAdd,Nat.zero_lt_succ,getElem?_pos,getElem_cons_zero,qh,sizeLine_eq,Nat.reduceLeDiff,true_and]
  refine ⟨a,n+1,rfl,L1,by omega,fun d G3 Dd dd L3' E3=>?_⟩
  refine ⟨a,n+1+300,rfl,L3',by omega,fun e G4 De de L4 E4=>?_⟩
  try simp
  exact h (.joined d e) G4 ((Dd.join De (by decide) (by decide) (by decide)).mono (by decide) (by decide) (by decide)) (by simp [Dl.dep];omega) (L4.mono (by omega)) (E1.trans (E3.trans E4))
theorem qcI:∀ (k n:Nat),pop (k+1) n=pop k n+n/2 ^ k%2
 |0,n=>by simp [pop]
 |k+1,n=>by
  have e1:pop (k+2) n=n%2+pop (k+1) (n/2):=rfl
  have e2:pop (k+1) n=n%2+pop k (n/2):=rfl
  rw [e1,e2,qcI k (n/2),Nat.div_div_eq_div_mul,show 2*2 ^ k=2 ^ (k+1) by rw [Nat.pow_succ,Nat.mul_comm]]
  omega
theorem qk4 {k k' n:Nat} (h:n<2 ^ k) (hk:k<=k'):pop k' n=pop k n:=by
 induction hk with
 |refl=>rfl
 |step hk ih=>rw [CC _ n (Nat.lt_of_lt_of_le h (Nat.pow_le_pow_right (by omega) hk)),ih]
def W1:Sp3:=fun ts G q=>∃ n:Int,ts=[.int n]/\0<=n/\n<512/\∀ G',Ex G G'->q (.bl (pop 64 n.toNat%2==1)) G'
theorem qa6:∀ ts G q,W1 ts G q->ts.length=1/\EW (CB q) (qk ["_law_number","_law_found","_law_t"] ts) G:=by
 rintro ts G q ⟨n,rfl,n0,n1,h⟩
 refine ⟨rfl,?_⟩
 obtain ⟨m,rfl⟩:=Int.eq_ofNat_of_zero_le n0
 simp only [EW,qv,qH,c3,gn3,RU,zA,qc,qh,Int.reducePow,Int.reduceNeg,Int.neg_ofNat_le_ofNat,Int.reduceLT,and_self,Int.reduceToNat,qk,map_cons,List.map_nil,length_cons,length_nil,Nat.zero_add,Nat.reduceAdd,Nat.add_one_sub_one,List.reduceReplicate,cons_append,List.nil_append,set_cons_succ,set_cons_zero,true_and]
 refine VG _ (fun i τ G'=>Ex G G'/\∃ x2,τ=[some (.int m),some (.bl (pop i m%2==1)),x2]) ⟨Ex.refl,none,rfl⟩ (fun _ _ _ _ _=>True.intro) ?_ ?_
 ·rintro i z τ G' nx hz ⟨E,x2,rfl⟩ hn
  obtain ⟨hi,rfl⟩:=TX hz
  have hi9:i<=8:=Nat.le_of_lt_succ hi
  simp only [gn3,qH,o3,v3,Int.zero_add,set_cons_succ,set_cons_zero,length_cons,length_nil,Nat.zero_add,Nat.reduceAdd,Nat.reduceLT,getElem?_pos,getElem_cons_succ,getElem_cons_zero,Nat.zero_lt_succ,zV,qc,c3,qh,sizeLine_eq,Nat.reduceLeDiff,Nat.lt_add_one,iC,Int.reduceLT,qZ,qQ,Bool.false_eq_true,↓reduceIte,true_and,ixR,getL,gu]
  intro p hp
  rw [qae hi9]
  have hp2:=DM i
  have hp3:=DR (n:=i) (k:=8) hi9
  simp only
  refine ⟨⟨by omega,by omega⟩,hn _ _ ⟨E.trans (QN hp),some (.int i),?_⟩⟩
  have e1:((m:Int)/2 ^ i)=((m/2 ^ i:Nat):Int):=by rw [p2];exact (Int.natCast_ediv _ _).symm
  have e2:decide ((m:Int)/2 ^ i%2=1)=(m/2 ^ i%2==1):=by
   rw [e1]
   by_cases hb:m/2 ^ i%2=1
   ·have z:((m/2 ^ i:Nat):Int)%2=1:=by omega
    rw [decide_eq_true z,hb];rfl
   ·have z:¬ ((m/2 ^ i:Nat):Int)%2=1:=by omega
    rw [decide_eq_false z];exact (beq_eq_false_iff_ne.mpr hb).symm
  have e3:(pop (i+1) m%2==1)=!(decide ((pop i m%2==1)=decide ((m:Int)/2 ^ i%2=1))):=by
   rw [e2,qcI]
   have h1:pop i m%2=0\/pop i m%2=1:=by omega
   have h2:m/2 ^ i%2=0\/m/2 ^ i%2=1:=by omega
   rcases h1 with h1|h1<;>rcases h2 with h2|h2<;>simp [Nat.add_mod,h1,h2]
  rw [e3]
  all_goals try simp
 ·rintro τ G' ⟨E,x2,rfl⟩
  rw [ZB]
  simp only [qB,v3,length_cons,length_nil,Nat.zero_add,Nat.reduceAdd,Nat.reduceLT,getElem?_pos,getElem_cons_succ,getElem_cons_zero]
  have:=h G' E
  rw [show (m:Int).toNat=m from rfl,qk4 (k:=9) (k':=64) (by omega) (by omega)] at this
  simpa using this
def Q4:Nat->Sp3
 |0=>W8
 |n+1=>fun ts G q=>∃ (d:Dl) (i j:Int),ts=[d.t,.int i,.int j]/\d.dep<=n/\d.Ok/\Inn d i j/\∀ G',Ex G G'->q (.int (d.bank i j)) G'
theorem qhb {ms:List Int} {i j c:Int} {n:Int} {G:Gp} {q:Q3} (hn:n=i*c+j) (hc:ZF i c) (h0:0<=n) (hl:ms.length<=5) (hm:∀ m∈ms,0<=m/\m<512) (h:∀ p G',Ex G G'->G' p=none->q (.ref p) (gu G' p (.lst ((zI n 0 ms).map T.int)))) :
  RV (fun G=>jD G (.tup (ms.map T.int))=some (ms.map T.int)) (qM 2 (qj (gn3 0) (qj (gn3 1) qL))) (tb3 (cb3 W1 (qc (o3 (iI Builtin.bitAnd) (o3 qW (o3 (iC ZF (·*·)) (v3 3) (v3 4)) (v3 2)) (v3 1)) qh))) (o3 ix3 (zV (qc (c3 (.int 1)) (qc (c3 (.int 2)) (qc (c3 (.int 4)) (qc (c3 (.int 8)) (qc (c3 (.int 16)) qh)))))) (v3 0)) q (qcX (ms.map T.int)) [] [none,none,some (.int j),some (.int i),some (.int c)] G:=by
 refine EM _ (fun k ys τ G'=>Ex G G'/\ys=(zI n 0 (ms.take k)).map T.int/\∃ x0 x1,τ=[x0,x1,some (.int j),some (.int i),some (.int c)]) ⟨Ex.refl,by simp [zI],none,none,rfl⟩ (fun _ ys τ G' _ hp=>rfl) ?_ ?_
 ·rintro k z ys τ G' R hz ⟨E,rfl,x0,x1,rfl⟩ hR
  obtain ⟨a,ha,rfl⟩:=DF hz
  rw [getElem?_map] at ha
  cases e:ms[k]? with
  |none=>rw [e] at ha;cases ha
  |some m=>
   rw [e] at ha
   have:a=T.int m:=by simpa using ha.symm
   subst this
   obtain ⟨hi,hm'⟩:=List.getElem?_eq_some_iff.mp e
   have mm:=hm m (by rw [← hm'];exact List.getElem_mem hi)
   have hr:=PyProof.Rows.bitAnd_range n mm.1
   simp [qv,qH,gn3,qB,jS,qV,zE,UK,qt,v3,c3,o3,u3,Z5,L3.ixT,L3.ixR,qW,iI,iC,iB,qZ,qQ,YV,tb3,UH,or3,YT,zb,DP,jg,if3,ch3,cb3,qc,qh,QT,tyT,jn,qU,zV,Z8,np3,sp3,qM,qj,qL,zO,YY,j7,qk,bm3,YQ,YW,jT,UD,VP,DX,J3,qF,zY,YR,EU,UI,ZO,HT.sIx,getL,in3,zr,eqF,gu,sizeLine_eq,getElem?_cons_zero,getElem?_cons_succ,hc,← hn]
   refine ⟨_,rfl,hr.1,by omega,fun G2 E2=>?_⟩
   have tk:ms.take (k+1)=ms.take k++[m]:=by rw [List.take_succ_eq_append_getElem hi,hm']
   have lt:(ms.take k).length=k:=by rw [List.length_take];omega
   have st:zI n 0 (ms.take (k+1))=zI n 0 (ms.take k)++(if qbb n m then [2 ^ k] else []):=by
    rw [tk,J2,lt];simp [zI]
   have cl:=QX n 0 (ms.take k)
   have eo:(pop 64 (Builtin.bitAnd n m).toNat%2==1)=qbb n m:=rfl
   rw [eo]
   cases ho:qbb n m with
   |true=>
    simp
    intro p hp
    have e5:=qaH (d:=k) (by omega)
    simp [L3.ixR,getL,qw,e5]
    refine ⟨by omega,hR _ _ _ ⟨E.trans (E2.trans (QN hp)),?_,_,_,rfl⟩⟩
    rw [st,ho];simp
   |false=>
    simp
    refine hR _ _ _ ⟨E.trans E2,?_,_,_,rfl⟩
    rw [st,ho];simp
 ·rintro ys τ G' ⟨E,rfl,x0,x1,rfl⟩ p hp
  rw [RT,length_map,List.take_length]
  exact h p G' E hp
theorem EB (n:Nat):∀ ts G q,Q4 (n+1) ts G q->ts.length=3/\UE (zt (n+1)) W1 (Q4 n) (CB q) (qk ["_law_dealing_here","_law_i","_law_j","_law_rows","_law_columns","_law_banks","_law_some","_law_high","_law_wide","_law_more"] ts) G:=by
 rintro ts G q ⟨d,i,j,rfl,hd,ok,I,h⟩
 refine ⟨rfl,?_⟩
 have i1:=I.i1;have i2:=I.i2;have j1:=I.j1;have j2:=I.j2
 have L:=Dl.lims ok
 have r2:=L.r2;have c1:=L.c1;have c2:=L.c2;have b1:=L.b1;have b2:=L.b2
 unfold UE
 refine zu fun nx1 q1=>?_
 simp only [qH,cb3,qc,qh,v3,qk,List.map,List.length,cons_append,getElem?_cons_zero]
 refine ⟨d,rfl,hd,ok,fun G1 E1=>?_⟩
 simp [XX,qM,qj,qL,gn3]
 cases d with
 |skew r c b x y=>
  obtain ⟨k1,k2,k3,k4,k5,k6,k7,k8,k9,k10⟩:=ok
  simp only [Dl.t]
  rw [q1,zM rfl,if_pos rfl]
  simp [L2.atI,ixN,qv,qH,gn3,qB,jS,qV,zE,UK,qt,v3,c3,o3,u3,Z5,L3.ixT,L3.ixR,qW,iI,iC,iB,qZ,qQ,YV,tb3,UH,or3,YT,zb,DP,jg,if3,ch3,cb3,qc,qh,QT,tyT,jn,qU,zV,Z8,np3,sp3,qM,qj,qL,zO,YY,j7,qk,bm3,YQ,YW,jT,UD,VP,DX,J3,qF,zY,YR,EU,UI,ZO,HT.sIx,getL,in3,zr,eqF,gu,sizeLine_eq,getElem?_cons_zero,getElem?_cons_succ]
  exact ⟨cm' (by omega) (by omega),cm' (by omega) (by omega),by simp only [Dl.B];omega,h _ E1⟩
 |rests r c b x=>
  simp only [Dl.t]
  rw [q1,zM rfl,if_neg (by decide),zM rfl,if_pos rfl]
  simp [qv,qH,gn3,qB,jS,qV,zE,UK,qt,v3,c3,o3,u3,Z5,L3.ixT,L3.ixR,qW,iI,iC,iB,qZ,qQ,YV,tb3,UH,or3,YT,zb,DP,jg,if3,ch3,cb3,qc,qh,QT,tyT,jn,qU,zV,Z8,np3,sp3,qM,qj,qL,zO,YY,j7,qk,bm3,YQ,YW,jT,UD,VP,DX,J3,qF,zY,YR,EU,UI,ZO,HT.sIx,getL,in3,zr,eqF,gu,sizeLine_eq,getElem?_cons_zero,getElem?_cons_succ]
  exact ⟨cm (by omega) (by omega),by omega,h _ E1⟩
 |bits hh l ms=>
  obtain ⟨k1,k2,k3,k4⟩:=ok
  simp only [Dl.t]
  rw [q1,zM rfl,if_neg (by decide),zM rfl,if_neg (by decide),zM rfl,if_pos rfl]
  refine zu fun nx2 q2=>?_
  simp [qdm,qjV,lc3,SZ,cap,qv,qH,gn3,qB,jS,qV,zE,UK,qt,v3,c3,o3,u3,Z5,L3.ixT,L3.ixR,qW,iI,iC,iB,qZ,qQ,YV,tb3,UH,or3,YT,zb,DP,jg,if3,ch3,cb3,qc,qh,QT,tyT,jn,qU,zV,Z8,np3,sp3,qM,qj,qL,zO,YY,j7,qk,bm3,YQ,YW,jT,UD,VP,DX,J3,qF,zY,YR,EU,UI,ZO,HT.sIx,getL,in3,zr,eqF,gu,sizeLine_eq,getElem?_cons_zero,getElem?_cons_succ]
  refine qhb (n:=i*2 ^ l+j) rfl (cm (by omega) (by omega)) (N9 (h:=hh) i1 j1) k3 (fun m hm=>⟨(k4 m hm).1,?_⟩) fun p G2 E2 hp=>?_
  ·have:=(k4 m hm).2
   have:=DR (n:=hh+l) (k:=8) (by omega)
   omega
  ·try rw [q2]
   simp [qiT,getL,qw,VB,qv,qH,gn3,qB,jS,qV,zE,UK,qt,v3,c3,o3,u3,Z5,L3.ixT,L3.ixR,qW,iI,iC,iB,qZ,qQ,YV,tb3,UH,or3,YT,zb,DP,jg,if3,ch3,cb3,qc,qh,QT,tyT,jn,qU,zV,Z8,np3,sp3,qM,qj,qL,zO,YY,j7,qk,bm3,YQ,YW,jT,UD,VP,DX,J3,qF,zY,YR,EU,UI,ZO,HT.sIx,getL,in3,zr,eqF,gu,sizeLine_eq,getElem?_cons_zero,getElem?_cons_succ]
   refine ⟨⟨by have:=QX (i*2 ^ l+j) 0 ms;omega,fun x hx=>?_⟩,?_⟩
   ·obtain ⟨k,h1,rfl⟩:=UA _ 0 ms x hx
    have:=DM k
    have:=DR (n:=k) (k:=30) (by omega)
    omega
   ·rw [VW]
    exact h _ (E1.trans (E2.trans (QN hp)))
 |table b cells=>
  obtain ⟨k1,k2,k3,k4,c,k5,k6,k7⟩:=ok
  have e0:cells[0]?=some cells[0]:=getElem?_eq_getElem (by omega)
  have eC:(Dl.table b cells).C=c:=by simp [Dl.C,e0,(k7 cells[0] (List.getElem_mem _)).1]
  have eR:(Dl.table b cells).R=cells.length:=rfl
  rw [eR] at i2
  rw [eC] at j2
  have hi:i.toNat<cells.length:=by omega
  have hrow:=k7 cells[i.toNat] (List.getElem_mem hi)
  have hj:j.toNat<cells[i.toNat].length:=by rw [hrow.1];omega
  simp only [Dl.t]
  rw [q1,zM rfl,if_neg (by decide),zM rfl,if_neg (by decide),zM rfl,if_neg (by decide),zM rfl,if_pos rfl]
  simp [qdn,qv,qH,gn3,qB,jS,qV,zE,UK,qt,v3,c3,o3,u3,Z5,L3.ixT,L3.ixR,qW,iI,iC,iB,qZ,qQ,YV,tb3,UH,or3,YT,zb,DP,jg,if3,ch3,cb3,qc,qh,QT,tyT,jn,qU,zV,Z8,np3,sp3,qM,qj,qL,zO,YY,j7,qk,bm3,YQ,YW,jT,UD,VP,DX,J3,qF,zY,YR,EU,UI,ZO,HT.sIx,getL,in3,zr,eqF,gu,sizeLine_eq,getElem?_cons_zero,getElem?_cons_succ]
  rw [ju i1 (by simpa using i2)]
  simp [hi,qaA,L3.ixT]
  rw [ju j1 (by simp;omega)]
  simp [hj]
  have:=h G1 E1
  simpa [Dl.bank,hi,hj] using this
 |joined d e=>
  obtain ⟨kd,ke,kr,kc,kb⟩:=ok
  have Le:=Dl.lims ke
  obtain ⟨I1,I2⟩:=I.up Le
  have:1<=n:=by simp [Dl.dep] at hd;omega
  obtain ⟨m,rfl⟩:∃ m,n=m+1:=⟨n-1,by omega⟩
  have r1:=Le.r1;have r2:=Le.r2;have c1:=Le.c1;have c2:=Le.c2;have b1:=Le.b1;have b2:=Le.b2
  simp only [Dl.t]
  rw [q1,zM rfl,if_neg (by decide),zM rfl,if_neg (by decide),zM rfl,if_neg (by decide),zM rfl,if_neg (by decide)]
  simp [qbA,qdn,qv,qH,gn3,qB,jS,qV,zE,UK,qt,v3,c3,o3,u3,Z5,L3.ixT,L3.ixR,qW,iI,iC,iB,qZ,qQ,YV,tb3,UH,or3,YT,zb,DP,jg,if3,ch3,cb3,qc,qh,QT,tyT,jn,qU,zV,Z8,np3,sp3,qM,qj,qL,zO,YY,j7,qk,bm3,YQ,YW,jT,UD,VP,DX,J3,qF,zY,YR,EU,UI,ZO,HT.sIx,getL,in3,zr,eqF,gu,sizeLine_eq,getElem?_cons_zero,getElem?_cons_succ]
  refine ⟨e,rfl,by simp [Dl.dep] at hd;omega,ke,fun G2 E2=>?_⟩
  simp [XX]
  refine ⟨⟨by omega,by omega⟩,⟨by omega,by omega⟩,d,_,_,rfl,by simp [Dl.dep] at hd;omega,kd,I1,fun G3 E3=>?_⟩
  simp
  refine ⟨cm (by omega) (by omega),by omega,by omega,e,_,_,rfl,by simp [Dl.dep] at hd;omega,ke,I2,fun G4 E4=>?_⟩
  simp
  exact h _ (E1.trans (E2.trans (E3.trans E4)))
theorem _root_.L3.Dps.append {G:Gp}:∀ {xs ys:List T} {ds es:List PyData},Dps G xs ds->Dps G ys es->Dps G (xs++ys) (ds++es)
 |_,_,_,_,.nil,b=>b
 |_,_,_,_,.cons a t,b=>.cons a (L3.Dps.append t b)
theorem _root_.L3.Dps.take {G:Gp}:∀ {xs:List T} {ds:List PyData} (i:Nat),Dps G xs ds->Dps G (xs.take i) (ds.take i)
 |_,_,0,_=>.nil
 |_,_,_+1,.nil=>.nil
 |_,_,i+1,.cons a t=>.cons a (L3.Dps.take i t)
theorem _root_.L3.Dps.drop {G:Gp}:∀ {xs:List T} {ds:List PyData} (i:Nat),Dps G xs ds->Dps G (xs.drop i) (ds.drop i)
 |_,_,0,h=>h
 |_,_,_+1,.nil=>.nil
 |_,_,i+1,.cons a t=>L3.Dps.drop i t
def X9:TS3:=(qB (lc3 (zA (qc (v3 2) qh)) (gn3 0) tt3 (qU (qc (o3 (iC ZF (·*·)) (v3 0) (v3 1)) (qc (o3 (iC ZF (·*·)) (v3 0) (v3 2)) qh))) [none,some 0,some 1]))
def UF (S_strung:Sp3):TS3:=(qv (qH (o3 ix3 (v3 0) (c3 (.int 0))) (gn3 1)) (qv (qV (tb3 (o3 (qZ false) (v3 1) (c3 (.str "cells")))) (qB (cb3 zY (qc (o3 ix3 (v3 0) (c3 (.int 1))) qh))) qt) (qv (qV (tb3 (o3 (qZ false) (v3 1) (c3 (.str "block")))) (qB (qnX (zA (qc (o3 ix3 (v3 0) (c3 (.int 1))) qh)) (gn3 0) tt3 (zA (qc (o3 ix3 (v3 2) (c3 (.int 2))) qh)) (gn3 1) tt3 (qU (qc (v3 0) (qc (v3 1) qh))) [none,none,some 0])) qt) (qv (qV (tb3 (o3 (qZ false) (v3 1) (c3 (.str "step")))) (qB (cb3 S_strung (qc (o3 ix3 (v3 0) (c3 (.int 1))) (qc (o3 ix3 (v3 0) (c3 (.int 2))) (qc (o3 ix3 (v3 0) (c3 (.int 3))) qh))))) qt) (qv (qH (qd9 DG (v3 1)) (qM 2 (qj (gn3 2) (qj (gn3 3) qL)))) (qB (cb3 S_strung (qc (v3 2) (qc (v3 3) (qc (o3 ix3 (v3 0) (c3 (.int 1))) qh))))))))))
def VR (S_law_pick:Sp3):TS3:=(qB (o3 qW (c3 (.int 1)) (cb3 S_law_pick (qc (v3 0) (qc (o3 ix3 (zV (qc (c3 (.int 5)) (qc (c3 (.int 5)) (qc (c3 (.int 5)) (qc (c3 (.int 5)) (qc (c3 (.int 5)) (qc (c3 (.int 5)) (qc (c3 (.int 8)) (qc (c3 (.int 16)) qh))))))))) (cb3 S_law_pick (qc (v3 0) (qc (c3 (.int 8)) qh)))) qh)))))
def V2 (S_law_pick:Sp3) (S_law_many:Sp3):TS3:=(qv (qH (cb3 S_law_pick (qc (v3 0) (qc (c3 (.int 9)) qh))) (gn3 1)) (qv (qV (tb3 (o3 (iB fun i j=>decide (i<j)) (v3 1) (c3 (.int 4)))) (qB (qU (qc (o3 ix3 (zV (qc (c3 (.str "row")) (qc (c3 (.str "column")) (qc (c3 (.str "slant")) (qc (c3 (.str "back")) qh))))) (v3 1)) (qc (cb3 S_law_many (qc (v3 0) qh)) qh)))) qt) (qv (qV (tb3 (o3 (iB fun i j=>decide (i<j)) (v3 1) (c3 (.int 6)))) (qv (j7 2 3 (qc (cb3 S_law_pick (qc (v3 0) (qc (c3 (.int 2)) qh))) (qc (o3 qW (c3 (.int 1)) (cb3 S_law_pick (qc (v3 0) (qc (c3 (.int 4)) qh)))) qh))) (qv (qH (o3 qW (c3 (.int 1)) (cb3 S_law_pick (qc (v3 0) (qc (o3 (iC qbs (·/·)) (c3 (.int 16)) (v3 3)) qh)))) (gn3 4)) (qB (o3 ix3 (zV (qc (qU (qc (c3 (.str "block")) (qc (v3 3) (qc (v3 4) qh)))) (qc (qU (qc (c3 (.str "block")) (qc (v3 4) (qc (v3 3) qh)))) qh))) (v3 2))))) qt) (qv (qV (tb3 (o3 (iB fun i j=>decide (i<j)) (v3 1) (c3 (.int 8)))) (qv (j7 5 6 (qc (o3 (iI (·-·)) (cb3 S_law_pick (qc (v3 0) (qc (c3 (.int 7)) qh))) (c3 (.int 3))) (qc (o3 (iI (·-·)) (cb3 S_law_pick (qc (v3 0) (qc (c3 (.int 9)) qh))) (c3 (.int 4))) qh))) (qv (qV (tb3 (o3 (qZ false) (cb3 S_law_pick (qc (v3 0) (qc (c3 (.int 6)) qh))) (c3 (.int 0)))) (qB (qU (qc (c3 (.str "step")) (qc (o3 (iC ZF (·*·)) (c3 (.int 5)) (v3 5)) (qc (o3 qW (o3 (iC ZF (·*·)) (c3 (.int 3)) (v3 6)) (cb3 J3 (qc (zb (o3 (qZ false) (v3 5) (c3 (.int 0))) (o3 (qZ false) (v3 6) (c3 (.int 0)))) qh))) (qc (o3 qW (c3 (.int 1)) (cb3 S_law_pick (qc (v3 0) (qc (c3 (.int 4)) qh)))) qh)))))) qt) (qB (qU (qc (c3 (.str "step")) (qc (v3 5) (qc (o3 qW (v3 6) (cb3 J3 (qc (zb (o3 (qZ false) (v3 5) (c3 (.int 0))) (o3 (qZ false) (v3 6) (c3 (.int 0)))) qh))) (qc (cb3 S_law_many (qc (v3 0) qh)) qh)))))))) qt) (qv (j7 7 8 (qc (zV qh) (qc (o3 qW (c3 (.int 1)) (o3 (iC ZF (·*·)) (c3 (.int 4)) (cb3 J3 (qc (o3 (qZ false) (cb3 S_law_pick (qc (v3 0) (qc (c3 (.int 5)) qh))) (c3 (.int 0))) qh)))) qh))) (qv (RU (zA (qc (cb3 S_law_many (qc (v3 0) qh)) qh)) (gn3 9) (qv (qH (qU (qc (o3 (iC ZF (·*·)) (v3 8) (o3 (iI (·-·)) (cb3 S_law_pick (qc (v3 0) (qc (c3 (.int 6)) qh))) (c3 (.int 2)))) (qc (o3 (iC ZF (·*·)) (v3 8) (o3 (iI (·-·)) (cb3 S_law_pick (qc (v3 0) (qc (c3 (.int 6)) qh))) (c3 (.int 2)))) qh))) (gn3 10)) (qV (tb3 (o3 (qp8 true) (v3 10) (v3 7))) (zE (bm3 YQ (v3 7) (qc (v3 10) qh))) qt))) (qB (qU (qc (c3 (.str "cells")) (qc (cb3 qF (qc (v3 7) qh)) qh))))))))))
def YF:TS3:=(qv (qV (tb3 (o3 (qZ false) (o3 ix3 (v3 0) (c3 (.int 0))) (c3 (.str "cells")))) (qB (cb3 zY (qc (o3 ix3 (v3 0) (c3 (.int 1))) qh))) qt) (qv (qV (tb3 (o3 (qZ false) (o3 ix3 (v3 0) (c3 (.int 0))) (c3 (.str "block")))) (qv (qH (zV qh) (gn3 1)) (qv (RU (zA (qc (o3 ix3 (v3 0) (c3 (.int 1))) qh)) (gn3 2) (zE (bm3 YW (v3 1) (qc (lc3 (zA (qc (o3 ix3 (v3 0) (c3 (.int 2))) qh)) (gn3 0) tt3 (qU (qc (v3 1) (qc (v3 0) qh))) [none,some 2]) qh)))) (qB (v3 1)))) qt) (qv (qH (qhj ["row","column","slant","back","step"] (qc (qU (qc (c3 (.int 0)) (qc (c3 (.int 1)) qh))) (qc (qU (qc (c3 (.int 1)) (qc (c3 (.int 0)) qh))) (qc (qU (qc (c3 (.int 1)) (qc (c3 (.int 1)) qh))) (qc (qU (qc (c3 (.int 1)) (qc (u3 Z5 (c3 (.int 1))) qh))) (qc (Z8 (v3 0) (sp3 (c3 (.int 1))) (sp3 (c3 (.int 3)))) qh))))) (o3 ix3 (v3 0) (c3 (.int 0)))) (qM 2 (qj (gn3 3) (qj (gn3 4) qL)))) (qB (lc3 (zA (qc (o3 ix3 (v3 0) (u3 Z5 (c3 (.int 1)))) qh)) (gn3 0) tt3 (qU (qc (o3 (iC ZF (·*·)) (v3 0) (v3 1)) (qc (o3 (iC ZF (·*·)) (v3 0) (v3 2)) qh))) [none,some 3,some 4])))))
def QV:TS3:=(qv (RU (zA (qc (cb3 jT (qc (v3 0) qh)) qh)) (gn3 1) (RU (zA (qc (o3 qW (v3 1) (c3 (.int 1))) (qc (cb3 jT (qc (v3 0) qh)) qh))) (gn3 2) (qV (tb3 (o3 (qZ false) (o3 ix3 (v3 0) (v3 1)) (o3 ix3 (v3 0) (v3 2)))) (qB (qU (qc (v3 1) (qc (v3 2) qh)))) qt))) (qB (c3 .non)))
def EN (S_cells_of:Sp3):TS3:=(qB (lc3 (UG (cb3 S_cells_of (qc (v3 0) qh))) (qM 2 (qj (gn3 0) (qj (gn3 1) qL))) tt3 (qU (qc (o3 qW (o3 ix3 (v3 2) (c3 (.int 0))) (v3 0)) (qc (o3 qW (o3 ix3 (v3 2) (c3 (.int 1))) (v3 1)) qh))) [none,none,some 1]))
def VV (S_shifted:Sp3) (S_is_word:Sp3) (S_is_pair:Sp3):TS3:=(qB (zb (cb3 S_is_pair (qc (v3 2) qh)) (cb3 YR (qc (lc3 (UG (cb3 S_shifted (qc (v3 1) (qc (v3 2) qh)))) (gn3 0) tt3 (cb3 S_is_word (qc (v3 1) (qc (v3 0) qh))) [none,some 0]) qh))))
def UC (S_is_start:Sp3) (S_shifted:Sp3):TS3:=(qv (qV (YT (tb3 (cb3 S_is_start (qc (v3 0) (qc (v3 1) (qc (v3 2) qh)))))) UK qt) (qB (cb3 S_shifted (qc (v3 1) (qc (v3 2) qh)))))
def ZR (S_words_of:Sp3) (S_bank_in:Sp3):TS3:=(qB (lc3 (UG (cb3 S_words_of (qc (v3 0) (qc (v3 1) (qc (v3 2) qh))))) (gn3 0) tt3 (cb3 S_bank_in (qc (v3 1) (qc (v3 0) qh))) [none,some 0]))
def ZS (S_law_size:Sp3) (S_law_cells:Sp3):TS3:=(qv (qH (cb3 S_law_size (qc (v3 0) qh)) (qM 3 (qj (gn3 2) (qj (gn3 3) (qj (gn3 4) qL))))) (qv (qH (cb3 S_law_cells (qc (v3 1) qh)) (gn3 5)) (qv (j7 6 7 (qc (lc3 (UG (v3 5)) (qM 2 (qj (gn3 0) (qj (gn3 1) qL))) tt3 (v3 0) [none,none]) (qc (lc3 (UG (v3 5)) (qM 2 (qj (gn3 0) (qj (gn3 1) qL))) tt3 (v3 1) [none,none]) qh))) (qv (qH (zV qh) (gn3 8)) (qv (RU (zA (qc (u3 Z5 (cb3 qbt (qc (v3 6) qh))) (qc (o3 (iI (·-·)) (v3 2) (cb3 qaR (qc (v3 6) qh))) qh))) (gn3 9) (zE (bm3 YW (v3 8) (qc (lc3 (zA (qc (u3 Z5 (cb3 qbt (qc (v3 7) qh))) (qc (o3 (iI (·-·)) (v3 3) (cb3 qaR (qc (v3 7) qh))) qh))) (gn3 0) tt3 (qU (qc (v3 1) (qc (v3 0) qh))) [none,some 9]) qh)))) (qB (v3 8)))))))
def VT (S_law_cells:Sp3) (S_law_bank:Sp3):TS3:=(qB (lc3 (UG (cb3 S_law_cells (qc (v3 1) qh))) (qM 2 (qj (gn3 0) (qj (gn3 1) qL))) tt3 (cb3 S_law_bank (qc (v3 2) (qc (o3 qW (o3 ix3 (v3 3) (c3 (.int 0))) (v3 0)) (qc (o3 qW (o3 ix3 (v3 3) (c3 (.int 1))) (v3 1)) qh)))) [none,none,some 0,some 2]))
theorem YJ {G:Gp} {p:Addr} {xs:List T} (h:G p=some (.lst xs)):getL G p=some xs:=by unfold getL;rw [h]
theorem qie {xs:List T} {d:Int} (h0:0<=d) (h1:d<(xs.length:Int)):∃ z,L2.atI xs d=some z/\z∈xs:=by
 rw [ju h0 h1]
 have:d.toNat<xs.length:=by omega
 exact ⟨xs[d.toNat],getElem?_eq_getElem this,List.getElem_mem this⟩
inductive Wk where
 |line (k m:Nat)
 |block (h w:Nat)
 |step (d a:Int) (m:Nat)
 |cells (ps:List (Int×Int))
def JG:Nat->Str
 |0=>"row" |1=>"column" |2=>"slant" |_=>"back"
def lnD:Nat->Int
 |0=>0|_=>1
def lnA:Nat->Int
 |0=>1|1=>0|2=>1|_=>-1
def pT (p:Int×Int):T:=.tup [.int p.1,.int p.2]
def Wk.t:Wk->T
 |.line k m=>.tup [.str (JG k),.int m]
 |.block h w=>.tup [.str "block",.int h,.int w]
 |.step d a m=>.tup [.str "step",.int d,.int a,.int m]
 |.cells ps=>.tup [.str "cells",.tup (ps.map pT)]
def jE (d a:Int) (m:Nat):List (Int×Int):=(List.range m).map fun (t:Nat)=>((t:Int)*d,(t:Int)*a)
def ji (h w:Nat):List (Int×Int):=(List.range h).flatMap fun (p:Nat)=>(List.range w).map fun (q:Nat)=>((p:Int),(q:Int))
def Wk.pc:Wk->List (Int×Int)
 |.line k m=>jE (lnD k) (lnA k) m
 |.block h w=>ji h w
 |.step d a m=>jE d a m
 |.cells ps=>ps
def Wk.Ok:Wk->Prop
 |.line k m=>k<4/\1<=m/\m<=16
 |.block h w=>1<=h/\1<=w/\h<=16/\w<=16/\h*w<=16
 |.step d a m=>(-16<=d/\d<=16)/\(-16<=a/\a<=16)/\1<=m/\m<=16
 |.cells ps=>1<=ps.length/\ps.length<=16/\ps.Nodup/\∀ p∈ps,(-16<=p.1/\p.1<=16)/\(-16<=p.2/\p.2<=16)
theorem SS (h w:Nat):ji (h+1) w=ji h w++(List.range w).map fun (q:Nat)=>((h:Int),(q:Int)):=by
 simp [ji,List.range_succ]
theorem EV (h w:Nat):(ji h w).length=h*w:=by
 induction h with
 |zero=>simp [ji]
 |succ h ih=>rw [SS,length_append,ih,length_map,length_range,Nat.succ_mul]
theorem N5 {w:Wk} (ok:w.Ok):1<=w.pc.length/\w.pc.length<=16:=by
 cases w with
 |line k m=>simp only [Wk.pc,jE,length_map,length_range];exact ok.2
 |block h v=>
  obtain ⟨h1,h2,h3,h4,h5⟩:=ok
  simp only [Wk.pc,EV]
  exact ⟨Nat.mul_le_mul h1 h2,h5⟩
 |step d a m=>simp only [Wk.pc,jE,length_map,length_range];exact ok.2.2
 |cells ps=>exact ⟨ok.1,ok.2.1⟩
def EF:Sp3:=fun ts G q=>∃ a n,ts=[.ref a]/\Lf G a n/\n<10000000/\∀ (m:Nat) G',1<=m->m<=16->Lf G' a (n+2)->Ext a G G'->q (.int m) G'
theorem NX:∀ ts G q,EF ts G q->ts.length=1/\VR qE (CB q) (qk ["_law_left_here"] ts) G:=by
 rintro ts G q ⟨a,n,rfl,hL,hn,h⟩
 refine ⟨rfl,?_⟩
 simp only [VR,qB,o3,c3,cb3,qc,v3,qk,map_cons,List.map_nil,length_cons,length_nil,Nat.zero_add,Nat.sub_self,List.replicate_zero,List.append_nil,Nat.lt_add_one,getElem?_pos,getElem_cons_zero,zV,qh,Nat.reduceAdd,sizeLine_eq,Nat.reduceLeDiff,qW,ne_eq,true_and]
 intro p hp
 have np:=hL.ne hp
 refine qO (hL.new np) (by omega) (by omega) (by omega) fun d G1 d0 d1 L1 E1=>?_
 have g:=YJ (E1 _ _ np qw)
 obtain ⟨z,hz,hm⟩:=qie (xs:=[T.int 5,.int 5,.int 5,.int 5,.int 5,.int 5,.int 8,.int 16]) d0 (by simpa using d1)
 simp only [L3.ixR,g,hz]
 have:∃ k:Int,z=.int k/\1<=k/\k<=16:=by
  simp only [mem_cons,not_mem_nil,or_false] at hm
  rcases hm with rfl|rfl|rfl|rfl|rfl|rfl|rfl|rfl<;>exact ⟨_,rfl,by omega,by omega⟩
 obtain ⟨k,rfl,k1,k2⟩:=this
 refine qO L1 (by omega) (by omega) (by omega) fun e G2 e0 e1 L2' E2=>?_
 simp
 obtain ⟨e',rfl⟩:=Int.eq_ofNat_of_zero_le e0
 have:=h (e'+1) G2 (by omega) (by omega) (L2'.mono (by omega)) ((zB hp).trans (E1.trans E2))
 rw [show (1:Int)+(e':Int)=((e'+1:Nat):Int) by omega]
 exact this
def pD (p:Int×Int):PyData:=.tuple [.int p.1,.int p.2]
theorem qkE (G:Gp) (p:Int×Int):Dp G (pT p) (pD p):=.tup (.cons (.int _) (.cons (.int _) .nil))
theorem qfK (G:Gp):∀ ps:List (Int×Int),Dps G (ps.map pT) (ps.map pD)
 |[]=>.nil
 |p::ps=>.cons (qkE G p) (qfK G ps)
theorem qoS (p r:Int×Int):JD (pD p) (pD r)=some (decide (p=r)):=by
 obtain ⟨a,b⟩:=p
 obtain ⟨c,d⟩:=r
 simp only [pD,JD,ED]
 by_cases h:a=c<;>by_cases h':b=d<;>simp [h,h']
theorem pIn (r:Int×Int):∀ ps:List (Int×Int),qdE (pD r) (ps.map pD)=some (decide (r∈ps))
 |[]=>by simp [qdE]
 |p::ps=>by
  simp only [map_cons,qdE,qoS,pIn r ps]
  by_cases h:p=r
  ·subst h;simp
  ·have h':¬ r=p:=fun z=>h z.symm
   simp [h,h']
theorem qkP (p:Int×Int):dpt (pD p)<=40:=by simp [pD,dpt,qec]
def J0:Sp3:=fun ts G q=>∃ a n,ts=[.ref a]/\Lf G a n/\n<1000000/\∀ (w:Wk) G',w.Ok->Lf G' a (n+60)->Ext a G G'->q w.t G'
theorem NW:∀ ts G q,J0 ts G q->ts.length=1/\V2 qE EF (CB q) (qk ["_law_left_here","_law_way","_law_lying","_law_high","_law_wide","_law_down","_law_along","_law_pairs","_law_far","_law_turn","_law_pair"] ts) G:=by
 rintro ts G q ⟨a,n,rfl,hL,hn,h⟩
 refine ⟨rfl,?_⟩
 unfold V2
 refine zu fun nx1 q1=>?_
 simp only [qH,cb3,qc,v3,qk,map_cons,List.map_nil,length_cons,length_nil,Nat.zero_add,Nat.reduceAdd,Nat.add_one_sub_one,List.reduceReplicate,cons_append,List.nil_append,Nat.zero_lt_succ,getElem?_pos,getElem_cons_zero,c3,qh,gn3,set_cons_succ,set_cons_zero]
 refine qO hL (by omega) (by omega) (by omega) fun way G1 w0 w1 L1 E1=>?_
 try simp
 rw [q1]
 clear q1
 refine zu fun nx2 q2=>?_
 by_cases lt:way<4
 ·simp only [qV,tb3,o3,v3,length_cons,length_nil,Nat.zero_add,Nat.reduceAdd,Nat.reduceLT,getElem?_pos,getElem_cons_succ,getElem_cons_zero,c3,iB,lt,decide_true,↓reduceIte,qB,qU,qc,zV,qh,sizeLine_eq,Nat.reduceLeDiff,cb3,Nat.zero_lt_succ,true_and,ixR]
  intro p hp
  have np:=L1.ne hp
  have L3':=L1.new np (ob:=.lst [.str "row",.str "column",.str "slant",.str "back"])
  obtain ⟨k,rfl⟩:=Int.eq_ofNat_of_zero_le w0
  have hk:k<4:=by omega
  have e1:L2.atI [T.str (Str.ofString "row"),.str (Str.ofString "column"),.str (Str.ofString "slant"),.str (Str.ofString "back")] (k:Int)=some (.str (JG k)):=by
   rcases k with _|_|_|_|k
   ·rfl
   ·rfl
   ·rfl
   ·rfl
   ·omega
  simp only [L3.ixR,YJ qw,e1]
  refine ⟨a,_,rfl,L3',by omega,fun m G2 m1 m2 L4 E4=>?_⟩
  exact h (.line k m) _ ⟨hk,m1,m2⟩ (L4.mono (by omega)) (E1.trans ((zB hp).trans E4))
 simp only [qV,tb3,o3,v3,c3,iB,getElem?_cons_zero,getElem?_cons_succ,lt,decide_false,Bool.false_eq_true,if_false,qt]
 rw [q2]
 clear q2
 refine zu fun nx3 q3=>?_
 by_cases lt6:way<6
 ·simp only [qV,tb3,o3,v3,c3,iB,getElem?_cons_zero,getElem?_cons_succ,lt6,decide_true,if_true]
  refine zu fun nx4 q4=>?_
  simp only [j7,qc,cb3,v3,length_cons,length_nil,Nat.zero_add,Nat.reduceAdd,Nat.zero_lt_succ,getElem?_pos,getElem_cons_zero,c3,qh,o3,qW,ne_eq,sizeLine_eq,set_cons_succ,set_cons_zero]
  refine qO L1 (by omega) (by omega) (by omega) fun ly G2 y0 y1 L2' E2=>?_
  try simp
  refine qO L2' (by omega) (by omega) (by omega) fun hi G3 h0 h1 L3' E3=>?_
  try simp
  rw [q4]
  clear q4
  obtain ⟨hh,rfl⟩:=Int.eq_ofNat_of_zero_le h0
  refine zu fun nx5 q5=>?_
  simp only [qH,o3,c3,cb3,qc,v3,length_cons,length_nil,Nat.zero_add,Nat.reduceAdd,Nat.zero_lt_succ,getElem?_pos,getElem_cons_zero,Nat.reduceLT,getElem_cons_succ,iC,qh,qW,ne_eq,sizeLine_eq,gn3,set_cons_succ,set_cons_zero]
  have dv:1<=(16:Int)/(1+(hh:Int))/\(16:Int)/(1+(hh:Int))<=16:=by
   have:hh=0\/hh=1\/hh=2\/hh=3:=by omega
   rcases this with rfl|rfl|rfl|rfl<;>decide
  refine ⟨⟨by omega,by omega⟩,qO L3' (by omega) (by omega) (by omega) fun wi G4 u0 u1 L4 E4=>?_⟩
  try simp
  rw [q5]
  clear q5
  obtain ⟨ww,rfl⟩:=Int.eq_ofNat_of_zero_le u0
  have pr:(hh+1)*(ww+1)<=16:=by
   have:hh=0\/hh=1\/hh=2\/hh=3:=by omega
   rcases this with rfl|rfl|rfl|rfl<;>simp at u1<;>omega
  simp only [qB,o3,zV,qc,qU,c3,v3,length_cons,length_nil,Nat.zero_add,Nat.reduceAdd,Nat.reduceLT,getElem?_pos,getElem_cons_succ,getElem_cons_zero,qh,sizeLine_eq,Nat.reduceLeDiff,ixR,true_and]
  intro p hp
  have np:=L4.ne hp
  have X4:=E1.trans (E2.trans (E3.trans E4))
  have z1:(1:Int)+(hh:Int)=((hh+1:Nat):Int):=by omega
  have z2:(1:Int)+(ww:Int)=((ww+1:Nat):Int):=by omega
  rw [z1,z2]
  have hl:ly=0\/ly=1:=by omega
  rcases hl with rfl|rfl
  ·simp only [L3.ixR,YJ qw,qdm]
   exact h (.block (hh+1) (ww+1)) _ ⟨by omega,by omega,by omega,by omega,pr⟩ ((L4.new np).mono (by omega)) (X4.trans (zB hp))
  ·simp only [L3.ixR,YJ qw,qbA]
   exact h (.block (ww+1) (hh+1)) _ ⟨by omega,by omega,by omega,by omega,by rw [Nat.mul_comm];exact pr⟩ ((L4.new np).mono (by omega)) (X4.trans (zB hp))
 simp only [qV,tb3,o3,v3,c3,iB,getElem?_cons_zero,getElem?_cons_succ,lt6,decide_false,Bool.false_eq_true,if_false,qt]
 rw [q3]
 clear q3
 refine zu fun nx4 q4=>?_
 by_cases lt8:way<8
 ·simp only [qV,tb3,o3,v3,c3,iB,getElem?_cons_zero,getElem?_cons_succ,lt8,decide_true,if_true]
  refine zu fun nx5 q5=>?_
  simp only [j7,qc,o3,cb3,v3,length_cons,length_nil,Nat.zero_add,Nat.reduceAdd,Nat.zero_lt_succ,getElem?_pos,getElem_cons_zero,c3,qh,iI,set_cons_succ,set_cons_zero]
  refine qO L1 (by omega) (by omega) (by omega) fun d G2 d0 d1 L2' E2=>?_
  try simp
  refine qO L2' (by omega) (by omega) (by omega) fun al G3 a0 a1 L3' E3=>?_
  try simp
  rw [q5]
  clear q5
  obtain ⟨D,hD⟩:∃ D,D=d-3:=⟨_,rfl⟩
  obtain ⟨A,hA⟩:∃ A,A=al-4:=⟨_,rfl⟩
  rw [← hD,← hA]
  refine zu fun nx6 q6=>?_
  simp only [qV,tb3,o3,cb3,qc,v3,length_cons,length_nil,Nat.zero_add,Nat.reduceAdd,Nat.zero_lt_succ,getElem?_pos,getElem_cons_zero,c3,qh,qZ,qQ,Bool.false_eq_true,↓reduceIte,qB,qU,Nat.reduceLT,getElem_cons_succ,iC,zb,decide_eq_true_eq,J3,qW,ne_eq,sizeLine_eq,Nat.reduceLeDiff,true_and,Int.add_zero,qt,exists_and_left,Bool.exists_bool]
  refine qO L3' (by omega) (by omega) (by omega) fun six G4 s0 s1 L4 E4=>?_
  have X4:=E1.trans (E2.trans (E3.trans E4))
  by_cases k0:six=0
  ·subst k0
   simp only [decide_true,↓reduceIte]
   refine ⟨cm (by omega) (by omega),cm (by omega) (by omega),?_⟩
   have fin:∀ e:Int,0<=e->e<=1->qE [.ref a,.int 4] G4 fun x G'=>(match T.int 1,x with|.int i,.int j=>q (.tup [.str (Str.ofString "step"),.int (5*D),.int (3*A+e),.int (i+j)]) G'|_,_=>False):=by
    intro e e0 e1
    refine qO L4 (by omega) (by omega) (by omega) fun m G5 m0 m1 L5 E5=>?_
    obtain ⟨m',rfl⟩:=Int.eq_ofNat_of_zero_le m0
    have:=h (.step (5*D) (3*A+e) (m'+1)) G5 ⟨⟨by omega,by omega⟩,⟨by omega,by omega⟩,by omega,by omega⟩ (L5.mono (by omega)) (X4.trans E5)
    simp only [Wk.t] at this
    rw [show ((m'+1:Nat):Int)=1+(m':Int) by omega] at this
    exact this
   by_cases hD0:D=0
   ·by_cases hA0:A=0
    ·have:=fin 1 (by omega) (by omega)
     simp only [hD0,Int.mul_zero,hA0,Int.zero_add,↓reduceIte] at this ⊢
     exact this
    ·have:=fin 0 (by omega) (by omega)
     simp only [hD0,Int.mul_zero,Int.add_zero,↓reduceIte,hA0] at this ⊢
     exact this
   ·have:=fin 0 (by omega) (by omega)
    simp only [Int.add_zero,hD0,↓reduceIte] at this ⊢
    exact this
  ·simp [k0]
   rw [q6]
   clear q6
   have fin:∀ e:Int,0<=e->e<=1->EF [.ref a] G4 fun x G'=>q (.tup [.str (Str.ofString "step"),.int D,.int (A+e),x]) G':=by
    intro e e0 e1
    refine ⟨a,_,rfl,L4,by omega,fun m G5 m0 m1 L5 E5=>?_⟩
    exact h (.step D (A+e) m) G5 ⟨⟨by omega,by omega⟩,⟨by omega,by omega⟩,by omega,by omega⟩ (L5.mono (by omega)) (X4.trans E5)
   by_cases hD0:D=0
   ·by_cases hA0:A=0
    ·have:=fin 1 (by omega) (by omega)
     simp only [hD0,hA0,Int.zero_add,qB,qU,qc,c3,v3,length_cons,length_nil,Nat.zero_add,Nat.reduceAdd,Nat.reduceLT,getElem?_pos,getElem_cons_succ,getElem_cons_zero,o3,cb3,zb,qZ,qQ,decide_true,Bool.false_eq_true,↓reduceIte,qh,J3,qW,Nat.zero_lt_succ,sizeLine_eq,Nat.reduceLeDiff,true_and] at this ⊢
     exact this
    ·have:=fin 0 (by omega) (by omega)
     simp only [hD0,Int.add_zero,qB,qU,qc,c3,v3,length_cons,length_nil,Nat.zero_add,Nat.reduceAdd,Nat.reduceLT,getElem?_pos,getElem_cons_succ,getElem_cons_zero,o3,cb3,zb,qZ,qQ,decide_true,Bool.false_eq_true,↓reduceIte,hA0,decide_false,qh,J3,qW,Nat.zero_lt_succ,sizeLine_eq,Nat.reduceLeDiff,true_and] at this ⊢
     exact this
   ·have:=fin 0 (by omega) (by omega)
    simp only [Int.add_zero,qB,qU,qc,c3,v3,length_cons,length_nil,Nat.zero_add,Nat.reduceAdd,Nat.reduceLT,getElem?_pos,getElem_cons_succ,getElem_cons_zero,o3,cb3,zb,qZ,qQ,hD0,decide_false,Bool.false_eq_true,↓reduceIte,qh,J3,qW,Nat.zero_lt_succ,sizeLine_eq,Nat.reduceLeDiff,true_and] at this ⊢
    exact this
 simp only [qV,tb3,o3,v3,c3,iB,getElem?_cons_zero,getElem?_cons_succ,lt8,decide_false,Bool.false_eq_true,if_false,qt]
 rw [q4]
 clear q4
 refine zu fun nx5 q5=>?_
 simp only [j7,qc,zV,qh,length_nil,sizeLine_eq,Nat.zero_le,o3,c3,cb3,v3,length_cons,Nat.zero_add,Nat.reduceAdd,Nat.zero_lt_succ,getElem?_pos,getElem_cons_zero,qZ,qQ,J3,iC,Bool.false_eq_true,↓reduceIte,qW,set_cons_succ,set_cons_zero,ne_eq,exists_and_left,Bool.exists_bool,Int.mul_zero,Int.add_zero,Int.mul_one,Int.reduceAdd,true_and]
 intro pp hpp
 have npp:=L1.ne hpp
 have Lp:=L1.new npp (ob:=.lst [])
 refine qO Lp (by omega) (by omega) (by omega) fun fv G2 f0 f1 L2' E2=>?_
 have gp2:=E2 _ _ npp qw
 have X2:Ext a G G2:=E1.trans ((zB hpp).trans E2)
 have hf:∃ far:Int,(far=1\/far=5)/\nx5=nx5:=⟨1,.inl rfl,rfl⟩
 clear hf
 have fin:∀ far:Int,far=1\/far=5->nx5 [some (.ref a),some (.int way),none,none,none,none,none,some (.ref pp),some (.int far),none,none] G2:=by
  intro far hfar
  rw [q5]
  clear q5
  refine zu fun nx6 q6=>?_
  simp only [RU,zA,cb3,qc,qh,v3,getElem?_cons_zero,getElem?_cons_succ]
  refine ⟨a,_,rfl,L2',by omega,fun m G3 m1 m2 L3' E3=>?_⟩
  have gp3:=E3 _ _ npp gp2
  refine ⟨⟨by omega,by omega⟩,?_⟩
  rw [Int.toNat_natCast]
  refine VG _ (fun i τ G'=>∃ ps:List (Int×Int),G' pp=some (.lst (ps.map pT))/\(1<=i->1<=ps.length)/\ps.length<=i/\ps.Nodup/\(∀ p∈ps,(-16<=p.1/\p.1<=16)/\(-16<=p.2/\p.2<=16))/\Lf G' a (n+5+2*i)/\Ext a G G'/\∃ x9 x10,τ=[some (.ref a),some (.int way),none,none,none,none,none,some (.ref pp),some (.int far),x9,x10])
   ⟨[],gp3,by omega,by simp,by simp,(by intro p hp;cases hp),by simpa using L3'.mono (by omega),X2.trans E3,none,none,rfl⟩ (fun _ _ _ _ _=>True.intro) ?_ ?_
  ·rintro i z τ G' nx hz ⟨ps,gp,i1,pl,nd,bd,L,E,x9,x10,rfl⟩ hnx
   obtain ⟨hi,rfl⟩:=TX hz
   simp only [gn3,set_cons_succ,set_cons_zero]
   refine zu fun nx7 q7=>?_
   simp only [qH,qU,qc,o3,v3,Int.zero_add,length_cons,length_nil,Nat.zero_add,Nat.reduceAdd,Nat.reduceLT,getElem?_pos,getElem_cons_succ,getElem_cons_zero,cb3,Nat.zero_lt_succ,c3,qh,iI,iC,sizeLine_eq,Nat.reduceLeDiff,gn3,set_cons_succ,set_cons_zero,true_and]
   refine qO L (by omega) (by omega) (by omega) fun u G4 u0 u1 L4 E4=>?_
   try simp
   refine ⟨cm (by omega) (by omega),qO L4 (by omega) (by omega) (by omega) fun v G5 v0 v1 L5 E5=>?_⟩
   try simp
   refine ⟨cm (by omega) (by omega),?_⟩
   rw [q7]
   clear q7
   have gp5:=E5 _ _ npp (E4 _ _ npp gp)
   have X5:=E.trans (E4.trans E5)
   have pe:T.tup [.int (far*(u-2)),.int (far*(v-2))]=pT (far*(u-2),far*(v-2)):=rfl
   rw [pe]
   have pb:(-16<=far*(u-2)/\far*(u-2)<=16)/\(-16<=far*(v-2)/\far*(v-2)<=16):=by rcases hfar with rfl|rfl<;>omega
   generalize hP:(far*(u-2),far*(v-2))=P at *
   have pb':(-16<=P.1/\P.1<=16)/\(-16<=P.2/\P.2<=16):=by rw [← hP];exact pb
   simp only [qV,tb3,o3,v3,getElem?_cons_zero,getElem?_cons_succ]
   refine ⟨_,_,_,_,YJ gp5,qkE _ _,qfK _ _,pIn _ _,fun d hd=>?_,?_⟩
   ·obtain ⟨p,_,rfl⟩:=mem_map.mp hd
    exact qkP p
   ·by_cases hm:P∈ps
    ·simp only [↓reduceIte,hm,decide_true,Bool.not_true,Bool.false_eq_true,qt]
     exact hnx _ _ ⟨ps,gp5,fun _=>List.length_pos_of_mem hm,by omega,nd,bd,L5.mono (by omega),X5,_,_,rfl⟩
    ·simp only [↓reduceIte,hm,decide_false,Bool.not_false,zE,bm3,v3,length_cons,length_nil,Nat.zero_add,Nat.reduceAdd,Nat.reduceLT,getElem?_pos,getElem_cons_succ,getElem_cons_zero,qc,Nat.lt_add_one,qh,YQ,gp5,length_map,sizeLine_eq]
     refine ⟨by rw [YJ gp5];rfl,by omega,?_⟩
     refine hnx _ _ ⟨ps++[P],by rw [qw];simp,fun _=>by simp,by simp;omega,?_,fun p hp=>?_,L5.new npp |>.mono (by omega),fun b o hb eb=>?_,_,_,rfl⟩
     ·rw [List.nodup_append]
      exact ⟨nd,by simp,fun x hx y hy=>by simp at hy;subst hy;rintro rfl;exact hm hx⟩
     ·rcases List.mem_append.mp hp with hp|hp
      ·exact bd p hp
      ·simp at hp;subst hp;exact pb'
     ·have:b≠pp:=by
       rintro rfl
       have:=E1 _ _ hb eb
       rw [hpp] at this;cases this
      rw [jF this]
      exact X5 _ _ hb eb
  ·rintro τ G' ⟨ps,gp,i1,pl,nd,bd,L,E,x9,x10,rfl⟩
   rw [ZB] at i1 pl L
   show nx6 _ _
   rw [q6]
   simp only [qB,qU,qc,c3,cb3,v3,length_cons,length_nil,Nat.zero_add,Nat.reduceAdd,Nat.reduceLT,getElem?_pos,getElem_cons_succ,getElem_cons_zero,qh,qF,YJ gp,sizeLine_eq,Nat.reduceLeDiff,true_and]
   exact h (.cells ps) G' ⟨i1 m1,by omega,nd,bd⟩ (L.mono (by omega)) E
 by_cases k0:fv=0
 ·have:=fin 5 (.inr rfl)
  simp only [k0,decide_true,↓reduceIte,Int.mul_one,Int.reduceAdd]
  exact ⟨cm (by omega) (by omega),this⟩
 ·have:=fin 1 (.inl rfl)
  simp only [k0,decide_false,Bool.false_eq_true,↓reduceIte,Int.mul_zero,Int.add_zero]
  exact ⟨cm (by omega) (by omega),this⟩
def Un2 (ns:List Int) (i:Nat):Prop:=∀ a b,a<i->a<b->b<ns.length->ns[a]?≠ns[b]?
structure Fst (ns:List Int) (i j:Nat):Prop where
 ij:i<j
 jl:j<ns.length
 un:Un2 ns i
 nb:∀ b,i<b->b<j->ns[i]?≠ns[b]?
 eq:ns[i]?=ns[j]?
theorem Fst.uniq {ns:List Int} {i j i' j':Nat} (F:Fst ns i j) (F':Fst ns i' j'):i=i'/\j=j':=by
 have e:i=i':=by
  rcases Nat.lt_trichotomy i i' with z|z|z
  ·exact absurd F.eq (F'.un i j z F.ij F.jl)
  ·exact z
  ·exact absurd F'.eq (F.un i' j' z F'.ij F'.jl)
 subst e
 refine ⟨rfl,?_⟩
 rcases Nat.lt_trichotomy j j' with z|z|z
 ·exact absurd F.eq (F'.nb j F.ij z)
 ·exact z
 ·exact absurd F'.eq (F.nb j' F'.ij z)
open Classical in
def faO (ns:List Int):Option (Nat×Nat):=if h:∃ ij:Nat×Nat,Fst ns ij.1 ij.2 then some h.choose else none
theorem jN {ns:List Int} {i j:Nat} (F:Fst ns i j):faO ns=some (i,j):=by
 have h:∃ ij:Nat×Nat,Fst ns ij.1 ij.2:=⟨(i,j),F⟩
 unfold faO
 rw [dif_pos h]
 have:=h.choose_spec
 obtain ⟨e1,e2⟩:=this.uniq F
 exact congrArg some (Prod.ext e1 e2)
theorem jR {ns:List Int} (h:Un2 ns ns.length):faO ns=none:=by
 unfold faO
 rw [dif_neg]
 rintro ⟨ij,F⟩
 exact h ij.1 ij.2 (Nat.lt_trans F.ij F.jl) F.ij F.jl F.eq
theorem VD {ns:List Int} (h:¬ Un2 ns ns.length):∃ i j,Fst ns i j:=by
 have key:∀ k,k<=ns.length->Un2 ns k\/∃ i j,Fst ns i j:=by
  intro k
  induction k with
  |zero=>exact fun _=>.inl fun a b ha=>by omega
  |succ k ih=>
   intro hk
   rcases ih (by omega) with hu|he
   ·have inner:∀ n,(∀ b,k<b->b<k+1+n->b<ns.length->ns[k]?≠ns[b]?)\/∃ j,Fst ns k j:=by
     intro n
     induction n with
     |zero=>exact .inl fun b h1 h2=>by omega
     |succ n ihn=>
      rcases ihn with hn|he
      ·by_cases hb:k+1+n<ns.length/\ns[k]?=ns[k+1+n]?
       ·exact .inr ⟨k+1+n,by omega,hb.1,hu,fun b h1 h2=>hn b h1 h2 (by omega),hb.2⟩
       ·refine .inl fun b h1 h2 h3=>?_
        by_cases e:b=k+1+n
        ·subst e;exact fun z=>hb ⟨h3,z⟩
        ·exact hn b h1 (by omega) h3
      ·exact .inr he
    rcases inner ns.length with hn|⟨j,F⟩
    ·refine .inl fun a b ha hab hb=>?_
     by_cases e:a=k
     ·subst e;exact hn b hab (by omega) hb
     ·exact hu a b (by omega) hab hb
    ·exact .inr ⟨k,j,F⟩
   ·exact .inr he
 rcases key ns.length (Nat.le_refl _) with hu|he
 ·exact absurd hu h
 ·exact he
theorem qbD (val:Nat->Int):∀ i,(PyProof.Rows.firstMet val i).length=i↔∀ a b,a<b->b<i->val a≠val b
 |0=>by simp [PyProof.Rows.firstMet_zero]
 |i+1=>by
  have ih:=qbD val i
  have le:=PyProof.Rows.firstMet_length_le val i
  have an:=PyProof.Rows.firstMet_any val i (val i)
  rw [PyProof.Rows.firstMet_succ]
  unfold PyProof.Rows.step_dedup
  by_cases hq:((PyProof.Rows.firstMet val i).any (·==val i))=true
  ·rw [if_pos hq]
   constructor
   ·intro e;omega
   ·intro hh
    rw [an] at hq
    simp at hq
    obtain ⟨a,ha,e⟩:=hq
    exact absurd e (hh a i ha (by omega))
  ·rw [if_neg hq,length_append,List.length_singleton]
   have hq':∀ a,a<i->val a≠val i:=by
    intro a ha e
    apply hq
    rw [an]
    simp
    exact ⟨a,ha,e⟩
   constructor
   ·intro e a b hab hb
    by_cases eb:b=i
    ·subst eb;exact hq' a hab
    ·exact (ih.mp (by omega)) a b hab (by omega)
   ·intro hh
    rw [ih.mpr fun a b hab hb=>hh a b hab (by omega)]
theorem qa2 {ns:List Int}:Z0 ns=ns.length↔Un2 ns ns.length:=by
 unfold Z0
 rw [qbD]
 constructor
 ·intro h a b ha hab hb e
  refine h a b hab hb ?_
  rw [getD_eq_getElem?_getD,getD_eq_getElem?_getD,e]
 ·intro h a b hab hb e
  have ha:a<ns.length:=by omega
  apply h a b ha hab hb
  rw [getD_eq_getElem?_getD,getD_eq_getElem?_getD] at e
  simp [ha,hb] at e
  simp [ha,hb,e]
end Bk
namespace Pu
open PySem L2 L3
def cif {α:Type} (P:Prop) (a b:α):α:=@ite α P (Classical.propDecidable P) a b
theorem jd {α:Type} {P:Prop} {a b:α} (h:P):cif P a b=a:=@if_pos P (Classical.propDecidable P) h α a b
theorem MK {α:Type} {P:Prop} {a b:α} (h:¬ P):cif P a b=b:=@if_neg P (Classical.propDecidable P) h α a b
structure Tru (b:Bool):Prop where
 h:b=true
mutual
inductive Dq (G:Gp):T->PyData->Prop
 |non:Dq G .non .none
 |bl (b:Bool):Dq G (.bl b) (.bool b)
 |int (i:Int):Dq G (.int i) (.int i)
 |str (x:Str):Dq G (.str x) (.str x)
 |tup {xs:List T} {ds:List PyData}:Dqs G xs ds->Dq G (.tup xs) (.tuple ds)
 |lst {p:Addr} {xs:List T} {ds:List PyData}:G p=some (.lst xs)->Dqs G xs ds->Dq G (.ref p) (.list ds)
inductive Dqs (G:Gp):List T->List PyData->Prop
 |nil:Dqs G [] []
 |cons {x:T} {d:PyData} {xs:List T} {ds:List PyData}:Dq G x d->Dqs G xs ds->Dqs G (x::xs) (d::ds)
end
mutual
theorem Dq.up {G G':Gp} (e:Ex G G'):∀ {x:T} {d:PyData},Dq G x d->Dq G' x d
 |_,_,.non=>.non
 |_,_,.bl b=>.bl b
 |_,_,.int i=>.int i
 |_,_,.str x=>.str x
 |_,_,.tup h=>.tup (Dqs.up e h)
 |_,_,.lst h1 h2=>.lst (e _ _ h1) (Dqs.up e h2)
theorem Dqs.up {G G':Gp} (e:Ex G G'):∀ {x:List T} {d:List PyData},Dqs G x d->Dqs G' x d
 |_,_,.nil=>.nil
 |_,_,.cons a b=>.cons (Dq.up e a) (Dqs.up e b)
end
theorem jx {G:Gp} {p:Addr} {xs:List T} (h:G p=some (.lst xs)):getL G p=some xs:=by unfold getL;rw [h]
mutual
theorem Dq.dp {G:Gp}:∀ {x:T} {d:PyData},Dq G x d->Dp G x d
 |_,_,.non=>.non
 |_,_,.bl b=>.bl b
 |_,_,.int i=>.int i
 |_,_,.str x=>.str x
 |_,_,.tup h=>.tup (Dqs.dp h)
 |_,_,.lst h1 h2=>.lst (jx h1) (Dqs.dp h2)
theorem Dqs.dp {G:Gp}:∀ {x:List T} {d:List PyData},Dqs G x d->Dps G x d
 |_,_,.nil=>.nil
 |_,_,.cons a b=>.cons (Dq.dp a) (Dqs.dp b)
end
theorem Dqs.length {G:Gp}:∀ {xs:List T} {ds:List PyData},Dqs G xs ds->xs.length=ds.length
 |_,_,.nil=>rfl
 |_,_,.cons _ b=>by simp [Dqs.length b]
theorem Dqs.get {G:Gp}:∀ {xs:List T} {ds:List PyData} {i:Nat} {d:PyData},Dqs G xs ds->ds[i]?=some d->∃ x,xs[i]?=some x/\Dq G x d
 |_,_,_,_,.nil,e=>by simp at e
 |_,_,0,_,.cons r _,e=>by simp at e;subst e;exact ⟨_,rfl,r⟩
 |_,_,i+1,d,.cons _ t,e=>by
  obtain ⟨u,h1,h2⟩:=Dqs.get (i:=i) (d:=d) t (by simpa using e)
  exact ⟨u,by simpa using h1,h2⟩
theorem Dqs.append {G:Gp}:∀ {xs:List T} {ds:List PyData} {ys:List T} {es:List PyData},Dqs G xs ds->Dqs G ys es->Dqs G (xs++ys) (ds++es)
 |_,_,_,_,.nil,h=>h
 |_,_,_,_,.cons a b,h=>.cons a (Dqs.append b h)
theorem Dqs.drop {G:Gp}:∀ {xs:List T} {ds:List PyData} (n:Nat),Dqs G xs ds->Dqs G (xs.drop n) (ds.drop n)
 |_,_,0,h=>h
 |_,_,_+1,.nil=>.nil
 |_,_,n+1,.cons _ b=>Dqs.drop n b
theorem Dqs.take {G:Gp}:∀ {xs:List T} {ds:List PyData} (n:Nat),Dqs G xs ds->Dqs G (xs.take n) (ds.take n)
 |_,_,0,h=>by simp;exact .nil
 |_,_,_+1,.nil=>.nil
 |_,_,n+1,.cons a b=>.cons a (Dqs.take n b)
theorem Dqs.ints {G:Gp}:∀ {ns:List Int} {xs:List T},Dqs G xs (ns.map PyData.int)->xs=ns.map T.int
 |[],_,.nil=>rfl
 |n::ns,_,.cons a b=>by cases a;rw [Dqs.ints b];rfl
theorem Dqs.ofInts {G:Gp}:∀ (ns:List Int),Dqs G (ns.map T.int) (ns.map PyData.int)
 |[]=>.nil
 |n::r=>.cons (.int n) (Dqs.ofInts r)
def rs (D:Addr->Prop) (G:Gp):Gp:=fun b=>cif (D b) none (G b)
theorem qT {D:Addr->Prop} {G:Gp} {b:Addr} {o:O} (h:rs D G b=some o):¬ D b/\G b=some o:=by
 unfold rs cif at h
 split at h
 ·cases h
 ·rename_i n;exact ⟨n,h⟩
theorem QS {D:Addr->Prop} {G:Gp} {b:Addr} (n:¬ D b):rs D G b=G b:=by unfold rs;exact MK n
theorem ET {D:Addr->Prop} {G:Gp}:Ex (rs D G) G:=fun b o h=>(qT h).2
theorem QQ {D:Addr->Prop} {G G':Gp} (e:Ex G G'):Ex (rs D G) (rs D G'):=fun b o h=>by
 obtain ⟨n,h⟩:=qT h
 rw [QS n];exact e _ _ h
theorem jM {D D':Addr->Prop} {G:Gp} (h:∀ b,D' b->D b):Ex (rs D G) (rs D' G):=fun b o e=>by
 obtain ⟨n,e⟩:=qT e
 rw [QS fun z=>n (h b z)];exact e
def Dom (D:Addr->Prop) (G:Gp):Prop:=∀ b,D b->G b≠none
theorem Dom.up {D:Addr->Prop} {G G':Gp} (h:Dom D G) (e:Ex G G'):Dom D G':=fun b d z=>by
 cases g:G b with
 |none=>exact h b d g
 |some o=>rw [e _ _ g] at z;cases z
theorem qkM {D:Addr->Prop} {G:Gp} {p:Addr} {o:O} (hd:Dom D G) (hp:G p=none):rs D (gu G p o) p=some o:=by
 rw [QS fun z=>hd p z hp,qw]
inductive Sl where
 |un|sh (d:PyData)|ow (ds:List PyData)
abbrev Rho:=List Sl
def Sl.d:Sl->Option PyData
 |.un=>none|.sh d=>some d|.ow ds=>some (.list ds)
def vw (ρ:Rho) (i:Nat):Option PyData:=(ρ[i]?).bind Sl.d
def SH (fv:List Nat) (D:Addr->Prop) (G:Gp) (τ:St3) (ρ:Rho):Prop:=∀ i∈fv,∀ d,vw ρ i=some d->∃ t,τ[i]?=some (some t)/\Dq (rs D G) t d
theorem SH.up {fv:List Nat} {D:Addr->Prop} {G G':Gp} {τ:St3} {ρ:Rho} (h:SH fv D G τ ρ) (e:Ex G G'):SH fv D G' τ ρ:=fun i hi d hd=>
 let ⟨t,a,b⟩:=h i hi d hd;⟨t,a,b.up (QQ e)⟩
theorem SH.l {fv gv:List Nat} {D:Addr->Prop} {G:Gp} {τ:St3} {ρ:Rho} (h:SH (fv++gv) D G τ ρ):SH fv D G τ ρ:=fun i hi=>h i (by simp [hi])
theorem SH.r {fv gv:List Nat} {D:Addr->Prop} {G:Gp} {τ:St3} {ρ:Rho} (h:SH (fv++gv) D G τ ρ):SH gv D G τ ρ:=fun i hi=>h i (by simp [hi])
def Nw (D:Addr->Prop) (G G':Gp) (x:T) (d:PyData):Prop:=d=.none\/∃ p xs ds,x=.ref p/\d=.list ds/\G p=none/\G' p=some (.lst xs)/\Dqs (rs (fun b=>D b\/b=p) G') xs ds
theorem Nw.back {D:Addr->Prop} {G0 G G':Gp} {x:T} {d:PyData} (h:Nw D G G' x d) (e:Ex G0 G):Nw D G0 G' x d:=by
 rcases h with h|⟨p,xs,ds,a,b,c,r⟩
 ·exact .inl h
 refine .inr ⟨p,xs,ds,a,b,?_,r⟩
 cases z:G0 p with
 |none=>rfl
 |some o=>rw [e _ _ z] at c;cases c
structure PuE (t:TE3) where
 f:Rho->Option PyData
 fv:List Nat
 nw:Bool
 ok:∀ {D τ ρ G} {q:Q3} {d},SH fv D G τ ρ->Dom D G->f ρ=some d->(∀ x G',Ex G G'->Dq (rs D G') x d->(nw=true->Nw D G G' x d)->q x G')->t τ G q
structure PuC (t:TT3) where
 f:Rho->Option Bool
 fv:List Nat
 ok:∀ {D τ ρ G} {q:Bool->Gp->Prop} {k},SH fv D G τ ρ->Dom D G->f ρ=some k->(∀ G',Ex G G'->q k G')->t τ G q
structure PuA (t:TA3) where
 f:Rho->Option (List PyData)
 fv:List Nat
 n:Nat
 ln:∀ {ρ d},f ρ=some d->d.length=n
 ok:∀ {D τ ρ G} {q:List T->Gp->Prop} {d},SH fv D G τ ρ->Dom D G->f ρ=some d->(∀ x G',Ex G G'->Dqs (rs D G') x d->q x G')->t τ G q
structure PuO (t:TO3) where
 f:Rho->Option (Option Int)
 fv:List Nat
 ok:∀ {D τ ρ G} {q:Option Int->Gp->Prop} {k},SH fv D G τ ρ->Dom D G->f ρ=some k->(∀ G',Ex G G'->q k G')->t τ G q
structure PuI (t:TI3) where
 f:Rho->Option (List PyData)
 fv:List Nat
 /-- numbers alone -/
 nm:Bool
 ok:∀ {D τ ρ G} {r:List T->(Gp->Prop)->Gp->Prop} {ds},SH fv D G τ ρ->Dom D G->f ρ=some ds ->
  (∀ items stay G',Ex G G'->Dqs (rs D G') items ds->(∀ G'',(nm=true\/Ex (rs D G') G'')->stay G'')->(nm=true->∃ ns:List Int,ds=ns.map PyData.int)->r items stay G')->t τ G r
structure OpD (r:R3) where
 f:PyData->PyData->Option PyData
 nw:Bool
 ok:∀ {D G x y d e v} {q:Q3},Dq (rs D G) x d->Dq (rs D G) y e->Dom D G->f d e=some v->(∀ z G',Ex G G'->Dq (rs D G') z v->(nw=true->Nw D G G' z v)->q z G')->r x y G q
structure FnD (r:List T->Gp->Q3->Prop) where
 f:List PyData->Option PyData
 nw:Bool
 ok:∀ {D G xs ds v} {q:Q3},Dqs (rs D G) xs ds->Dom D G->f ds=some v->(∀ z G',Ex G G'->Dq (rs D G') z v->(nw=true->Nw D G G' z v)->q z G')->r xs G q
def bV (i:Nat):PuE (v3 i):=⟨fun ρ=>vw ρ i,[i],false,fun hv hd hf k=>by
 obtain ⟨t,e,h⟩:=hv i (by simp) _ hf
 unfold v3
 rw [e]
 exact k t _ Ex.refl h (fun z=>by cases z)⟩
def jH (i:Int):PuE (c3 (.int i)):=⟨fun _=>some (.int i),[],false,fun hv hd hf k=>by cases hf;exact k _ _ Ex.refl (.int i) (fun z=>by cases z)⟩
def bBl (i:Bool):PuE (c3 (.bl i)):=⟨fun _=>some (.bool i),[],false,fun hv hd hf k=>by cases hf;exact k _ _ Ex.refl (.bl i) (fun z=>by cases z)⟩
def qfl (i:Str):PuE (c3 (.str i)):=⟨fun _=>some (.str i),[],false,fun hv hd hf k=>by cases hf;exact k _ _ Ex.refl (.str i) (fun z=>by cases z)⟩
def qiZ:PuE (c3 .non):=⟨fun _=>some .none,[],false,fun hv hd hf k=>by cases hf;exact k _ _ Ex.refl .non (fun z=>by cases z)⟩
def bO {r:R3} {ta tb:TE3} (R:OpD r) (a:PuE ta) (b:PuE tb):PuE (o3 r ta tb):=
 ⟨fun ρ=>(a.f ρ).bind fun x=>(b.f ρ).bind fun y=>R.f x y,a.fv++b.fv,R.nw,fun hv hd hf k=>by
  obtain ⟨x,e1,hf⟩:=obb hf
  obtain ⟨y,e2,hf⟩:=obb hf
  exact a.ok hv.l hd e1 fun x' G1 E1 D1 _=>b.ok (hv.r.up E1) (hd.up E1) e2 fun y' G2 E2 D2 _=>R.ok (D1.up (QQ E2)) D2 ((hd.up E1).up E2) hf fun z G3 E3 D3 N3=>k z G3 ((E1.trans E2).trans E3) D3 fun h=>(N3 h).back (E1.trans E2)⟩
def zk:PuA qh:=⟨fun _=>some [],[],0,(fun h=>by cases h;rfl),fun hv hd hf k=>by cases hf;exact k _ _ Ex.refl .nil⟩
def qm {ta:TE3} {tr:TA3} (a:PuE ta) (r:PuA tr):PuA (qc ta tr):=
 ⟨fun ρ=>(a.f ρ).bind fun x=>(r.f ρ).bind fun xs=>some (x::xs),a.fv++r.fv,r.n+1,(fun hf=>by
  obtain ⟨x,e1,hf⟩:=obb hf
  obtain ⟨xs,e2,hf⟩:=obb hf
  cases hf
  simp [r.ln e2]),fun hv hd hf k=>by
  obtain ⟨x,e1,hf⟩:=obb hf
  obtain ⟨xs,e2,hf⟩:=obb hf
  cases hf
  exact a.ok hv.l hd e1 fun x' G1 E1 D1 _=>r.ok (hv.r.up E1) (hd.up E1) e2 fun y' G2 E2 D2=>k _ G2 (E1.trans E2) (.cons (D1.up (QQ E2)) D2)⟩
theorem few {n:Nat} (h:Tru (Nat.ble n 1000)):n<=sizeLine:=Nat.le_trans (Nat.le_of_ble_eq_true h.h) (by rw [sizeLine_eq];omega)
def MA {t:TA3} (a:PuA t) (hn:Tru (Nat.ble a.n 1000)):PuE (qU t):=⟨fun ρ=>(a.f ρ).map .tuple,a.fv,false,fun hv hd hf k=>by
 obtain ⟨xs,e1,rfl⟩:=Option.map_eq_some_iff.mp hf
 exact a.ok hv hd e1 fun x G1 E1 D1=>⟨by rw [D1.length,a.ln e1];exact few hn,k _ _ E1 (.tup D1) (fun z=>by cases z)⟩⟩
theorem KL {D:Addr->Prop} {G:Gp} {p:Addr} {xs:List T} {ds:List PyData} (hp:G p=none) (h:Dqs (rs D G) xs ds):Nw D G (gu G p (.lst xs)) (.ref p) (.list ds):=
 .inr ⟨p,xs,ds,rfl,rfl,hp,qw,h.up fun b o e=>by
  obtain ⟨n,e⟩:=qT e
  have:b≠p:=by rintro rfl;rw [hp] at e;cases e
  rw [QS (by rintro (z|z);exact n z;exact this z),jF this];exact e⟩
theorem CW {D:Addr->Prop} {G:Gp} {p:Addr} {xs:List T} {ds:List PyData} (hd:Dom D G) (hp:G p=none) (h:Dqs (rs D G) xs ds):Dq (rs D (gu G p (.lst xs))) (.ref p) (.list ds):=
 .lst (qkM hd hp) (h.up (QQ (QN hp)))
def qiV {t:TA3} (a:PuA t) (hn:Tru (Nat.ble a.n 1000)):PuE (zV t):=⟨fun ρ=>(a.f ρ).map .list,a.fv,true,fun hv hd hf k=>by
 obtain ⟨xs,e1,rfl⟩:=Option.map_eq_some_iff.mp hf
 exact a.ok hv hd e1 fun x G1 E1 D1=>⟨by rw [D1.length,a.ln e1];exact few hn,fun p hp=>k _ _ (E1.trans (QN hp)) (CW (hd.up E1) hp D1) fun _=>(KL hp D1).back E1⟩⟩
def za {r:List T->Gp->Q3->Prop} {t:TA3} (R:FnD r) (a:PuA t):PuE (cb3 r t):=
 ⟨fun ρ=>(a.f ρ).bind R.f,a.fv,R.nw,fun hv hd hf k=>by
  obtain ⟨x,e1,hf⟩:=obb hf
  exact a.ok hv hd e1 fun x' G1 E1 D1=>R.ok D1 (hd.up E1) hf fun z G3 E3 D3 N3=>k z G3 (E1.trans E3) D3 fun h=>(N3 h).back E1⟩
def asB:PyData->Option Bool
 |.bool b=>some b
 |_=>none
def asI:PyData->Option Int
 |.int b=>some b
 |_=>none
theorem qah {d:PyData} {b:Bool} (h:asB d=some b):d=.bool b:=by cases d<;>simp [asB] at h;subst h;rfl
theorem qgw {d:PyData} {b:Int} (h:asI d=some b):d=.int b:=by cases d<;>simp [asI] at h;subst h;rfl
def bTb {t:TE3} (a:PuE t):PuC (tb3 t):=⟨fun ρ=>(a.f ρ).bind asB,a.fv,fun hv hd hf k=>by
 obtain ⟨x,e1,hf⟩:=obb hf
 have:=qah hf;subst this
 exact a.ok hv hd e1 fun x' G1 E1 D1 _=>by cases D1;exact k G1 E1⟩
def qqa {t u:TT3} (a:PuC t) (b:PuC u):PuC (UH t u):=⟨fun ρ=>(a.f ρ).bind fun k=>if k then b.f ρ else some false,a.fv++b.fv,fun hv hd hf k=>by
 obtain ⟨x,e1,hf⟩:=obb hf
 refine a.ok hv.l hd e1 fun G1 E1=>?_
 cases x with
 |true=>exact b.ok (hv.r.up E1) (hd.up E1) hf fun G2 E2=>k G2 (E1.trans E2)
 |false=>cases hf;exact k G1 E1⟩
def bOr {t u:TT3} (a:PuC t) (b:PuC u):PuC (or3 t u):=⟨fun ρ=>(a.f ρ).bind fun k=>if k then some true else b.f ρ,a.fv++b.fv,fun hv hd hf k=>by
 obtain ⟨x,e1,hf⟩:=obb hf
 refine a.ok hv.l hd e1 fun G1 E1=>?_
 cases x with
 |false=>exact b.ok (hv.r.up E1) (hd.up E1) hf fun G2 E2=>k G2 (E1.trans E2)
 |true=>cases hf;exact k G1 E1⟩
def qk6 {t:TT3} (a:PuC t):PuC (YT t):=⟨fun ρ=>(a.f ρ).map (! ·),a.fv,fun hv hd hf k=>by
 obtain ⟨x,e1,hf⟩:=Option.map_eq_some_iff.mp hf
 subst hf
 exact a.ok hv hd e1 fun G1 E1=>k G1 E1⟩
def bTt:PuC tt3:=⟨fun _=>some true,[],fun hv hd hf k=>by cases hf;exact k _ Ex.refl⟩
def KR {ta tb:TE3} (a:PuE ta) (b:PuE tb):PuE (zb ta tb):=⟨fun ρ=>((a.f ρ).bind asB).bind fun k=>if k then b.f ρ else some (.bool false),a.fv++b.fv,false,fun hv hd hf k=>by
 obtain ⟨x,e1,hf⟩:=obb hf
 obtain ⟨y,e1,e2⟩:=obb e1
 have:=qah e2;subst this
 refine a.ok hv.l hd e1 fun x' G1 E1 D1 _=>?_
 cases D1
 cases x with
 |true=>exact b.ok (hv.r.up E1) (hd.up E1) hf fun z G2 E2 D2 _=>k z G2 (E1.trans E2) D2 (fun z=>by cases z)
 |false=>cases hf;exact k _ G1 E1 (.bl false) (fun z=>by cases z)⟩
def qi2 {ta:TE3} (a:PuE ta):PuE (jg ta):=⟨fun ρ=>((a.f ρ).bind asB).map fun k=>.bool (!k),a.fv,false,fun hv hd hf k=>by
 obtain ⟨x,e1,hf⟩:=Option.map_eq_some_iff.mp hf
 obtain ⟨y,e1,e2⟩:=obb e1
 have:=qah e2;subst this
 subst hf
 refine a.ok hv hd e1 fun x' G1 E1 D1 _=>?_
 cases D1
 exact k _ G1 E1 (.bl _) (fun z=>by cases z)⟩
def qlT {ta:TE3} (a:PuE ta):PuE (u3 Z5 ta):=⟨fun ρ=>((a.f ρ).bind asI).map fun i=>.int (-i),a.fv,false,fun hv hd hf k=>by
 obtain ⟨x,e1,hf⟩:=Option.map_eq_some_iff.mp hf
 obtain ⟨y,e1,e2⟩:=obb e1
 have:=qgw e2;subst this
 subst hf
 refine a.ok hv hd e1 fun x' G1 E1 D1 _=>?_
 cases D1
 exact k _ G1 E1 (.int _) (fun z=>by cases z)⟩
def bCh {r r':R3} {ta tb tc:TE3} (R:OpD r) (R':OpD r') (a:PuE ta) (b:PuE tb) (c:PuE tc):PuE (ch3 r r' ta tb tc):=
 ⟨fun ρ=>(a.f ρ).bind fun x=>(b.f ρ).bind fun y=>((R.f x y).bind asB).bind fun k=>if k then (c.f ρ).bind fun z=>R'.f y z else some (.bool false),a.fv++(b.fv++c.fv),false,fun {D τ ρ G q d} hv hd hf k=>by
  obtain ⟨x,e1,hf⟩:=obb hf
  obtain ⟨y,e2,hf⟩:=obb hf
  obtain ⟨j,e3,hf⟩:=obb hf
  obtain ⟨v,e3,e4⟩:=obb e3
  have:=qah e4;subst this
  refine a.ok hv.l hd e1 fun x' G1 E1 D1 _=>b.ok (hv.r.l.up E1) (hd.up E1) e2 fun y' G2 E2 D2 _=>R.ok (D1.up (QQ E2)) D2 ((hd.up E1).up E2) e3 fun z G3 E3 D3 _=>?_
  cases D3
  have E:=(E1.trans E2).trans E3
  cases j with
  |true=>
   obtain ⟨w,e5,hf⟩:=obb hf
   exact c.ok (hv.r.r.up E) (hd.up E) e5 fun w' G4 E4 D4 _=>R'.ok ((D2.up (QQ E3)).up (QQ E4)) D4 ((hd.up E).up E4) hf fun u G5 E5 D5 _=>k u G5 ((E.trans E4).trans E5) D5 (fun z=>by cases z)
  |false=>cases hf;exact k _ G3 E (.bl false) (fun z=>by cases z)⟩
def tyD:PyData->Option String
 |.none=>some "NoneType" |.bool _=>some "bool" |.int _=>some "int" |.str _=>some "str" |.tuple _=>some "tuple" |.list _=>some "list" |.dict _=>none
def qnQ {ta:TE3} (g:String->Bool) (a:PuE ta):PuE (QT g ta):=⟨fun ρ=>(a.f ρ).bind fun d=>(tyD d).map fun t=>.bool (g t),a.fv,false,fun hv hd hf k=>by
 obtain ⟨x,e1,hf⟩:=obb hf
 obtain ⟨y,e2,hf⟩:=Option.map_eq_some_iff.mp hf
 subst hf
 refine a.ok hv hd e1 fun x' G1 E1 D1 _=>?_
 have:tyT G1 x'=some y:=by
  cases D1 with
  |lst h _=>have g:=jx (qT h).2;simp [tyT,g];simpa [tyD] using e2
  |_=>simpa [tyT,tyD] using e2
 simp only [this]
 exact k _ G1 E1 (.bl _) (fun z=>by cases z)⟩
def bNp:PuO np3:=⟨fun _=>some none,[],fun hv hd hf k=>by cases hf;exact k _ Ex.refl⟩
def bSp {t:TE3} (a:PuE t):PuO (sp3 t):=⟨fun ρ=>((a.f ρ).bind asI).map some,a.fv,fun hv hd hf k=>by
 obtain ⟨x,e1,hf⟩:=Option.map_eq_some_iff.mp hf
 obtain ⟨y,e1,e2⟩:=obb e1
 have:=qgw e2;subst this
 subst hf
 refine a.ok hv hd e1 fun x' G1 E1 D1 _=>?_
 cases D1
 exact k G1 E1⟩
theorem Dqs.cut {G:Gp} {xs:List T} {ds:List PyData} (h:Dqs G xs ds) (lo hi:Option Int):Dqs G (ZO xs lo hi) (ZO ds lo hi):=by
 unfold ZO
 rw [h.length]
 exact (h.drop _).take _
def slD (d:PyData) (lo hi:Option Int):Option PyData:=match d with
 |.tuple xs=>cif (HT.sIx xs.length 0 lo=0/\HT.sIx xs.length xs.length hi=xs.length) none (some (.tuple (ZO xs lo hi)))
 |.list xs=>some (.list (ZO xs lo hi))
 |_=>none
def bSl {te:TE3} {tl th:TO3} (a:PuE te) (l:PuO tl) (h:PuO th):PuE (Z8 te tl th):=⟨fun ρ=>(a.f ρ).bind fun d=>(l.f ρ).bind fun lo=>(h.f ρ).bind fun hi=>slD d lo hi,a.fv++(l.fv++h.fv),false,fun hv hd hf k=>by
 obtain ⟨d,e1,hf⟩:=obb hf
 obtain ⟨lo,e2,hf⟩:=obb hf
 obtain ⟨hi,e3,hf⟩:=obb hf
 refine a.ok hv.l hd e1 fun x' G1 E1 D1 _=>l.ok (hv.r.l.up E1) (hd.up E1) e2 fun G2 E2=>h.ok (hv.r.r.up (E1.trans E2)) (hd.up (E1.trans E2)) e3 fun G3 E3=>?_
 have E:=(E1.trans E2).trans E3
 have D3:=(D1.up (QQ E2)).up (QQ E3)
 unfold slD at hf
 cases D3 with
 |tup hs=>
  simp only [cif] at hf
  split at hf
  ·cases hf
  ·rename_i n
   cases hf
   exact ⟨by rw [hs.length];exact n,k _ _ E (.tup (hs.cut _ _)) (fun z=>by cases z)⟩
 |lst g hs=>
  simp only at hf
  cases hf
  simp only [sl3,jx (qT g).2]
  intro p hp
  exact k _ _ (E.trans (QN hp)) (CW (hd.up E) hp (hs.cut _ _)) (fun z=>by cases z)
 |_=>simp at hf⟩
def U2:List PyData->Option (List Int)
 |[]=>some []
 |.int i::r=>(U2 r).map (i::·)
 |_=>none
theorem CN (ns:List Int):U2 (ns.map PyData.int)=some ns:=by
 induction ns with
 |nil=>rfl
 |cons n r ih=>simp [U2,ih]
theorem X6:∀ {xs:List PyData} {ns:List Int},U2 xs=some ns->xs=ns.map PyData.int
 |[],_,h=>by simp [U2] at h;subst h;rfl
 |.int i::r,ns,h=>by
  simp only [U2] at h
  obtain ⟨ms,e,rfl⟩:=Option.map_eq_some_iff.mp h
  rw [X6 e];rfl
 |.none::r,ns,h=>by simp [U2] at h
 |.bool _::r,ns,h=>by simp [U2] at h
 |.str _::r,ns,h=>by simp [U2] at h
 |.list _::r,ns,h=>by simp [U2] at h
 |.tuple _::r,ns,h=>by simp [U2] at h
 |.dict _::r,ns,h=>by simp [U2] at h
def NY (d:PyData):Option PyData:=match d with
 |.list ds=>(U2 ds).bind fun ns=>cif (ns.length<4000) (some (.int (Z0 ns))) none
 |_=>none
def qht {te:TE3} (a:PuE te):PuE (qeb te):=⟨fun ρ=>(a.f ρ).bind NY,a.fv,false,fun hv hd hf k=>by
 obtain ⟨d,e1,hf⟩:=obb hf
 refine a.ok hv hd e1 fun x' G1 E1 D1 _=>?_
 unfold NY at hf
 cases D1 with
 |lst g hs=>
  simp only at hf
  obtain ⟨ns,en,hf⟩:=obb hf
  unfold cif at hf
  split at hf
  ·rename_i hl
   cases hf
   have:=X6 en
   subst this
   have:=hs.ints
   subst this
   simp only [jx (qT g).2,VB]
   exact ⟨hl,k _ _ E1 (.int _) (fun z=>by cases z)⟩
  ·cases hf
 |_=>simp at hf⟩
def opI (g:Int->Int->Int):OpD (iI g):=⟨fun d e=>match d,e with|.int i,.int j=>some (.int (g i j))|_,_=>none,false,fun {D G x y d e v q} hx hy hd hf k=>by
 cases hx<;>try (simp at hf;done)
 cases hy<;>try (simp at hf;done)
 cases hf
 exact k _ _ Ex.refl (.int _) (fun z=>by cases z)⟩
def cI (C:Int->Int->Prop) (g:Int->Int->Int) (d e:PyData):Option PyData:=match d,e with|.int i,.int j=>cif (C i j) (some (.int (g i j))) none|_,_=>none
def opC (C:Int->Int->Prop) (g:Int->Int->Int):OpD (iC C g):=⟨cI C g,false,fun {D G x y d e v q} hx hy hd hf k=>by
 unfold cI at hf
 cases hx<;>try (simp at hf;done)
 cases hy<;>try (simp at hf;done)
 simp only [cif] at hf
 split at hf
 ·rename_i c
  cases hf
  exact ⟨c,k _ _ Ex.refl (.int _) (fun z=>by cases z)⟩
 ·cases hf⟩
def opB (g:Int->Int->Bool):OpD (iB g):=⟨fun d e=>match d,e with|.int i,.int j=>some (.bool (g i j))|_,_=>none,false,fun {D G x y d e v q} hx hy hd hf k=>by
 cases hx<;>try (simp at hf;done)
 cases hy<;>try (simp at hf;done)
 cases hf
 exact k _ _ Ex.refl (.bl _) (fun z=>by cases z)⟩
def qdN:PyData->PyData->Option Bool
 |.none,.none=>some true|.none,.int _=>some false|.int _,.none=>some false|.none,.bool _=>some false|.bool _,.none=>some false|.none,.str _=>some false|.str _,.none=>some false
 |.int i,.int j=>some (decide (i=j))|.bool i,.bool j=>some (decide (i=j))|.str i,.str j=>some (decide (i=j))
 |.int _,.str _=>some false|.str _,.int _=>some false|.bool _,.str _=>some false|.str _,.bool _=>some false
 |_,_=>none
theorem qcg {G:Gp} {x y:T} {d e:PyData} (hx:Dq G x d) (hy:Dq G y e):qQ x y=qdN d e:=by
 cases hx<;>cases hy<;>rfl
def eqD (neg:Bool) (d e:PyData):Option PyData:=match qdN d e with
 |some k=>some (.bool (if neg then !k else k))
 |none=>cif (dpt d<=40/\dpt d≠0) ((JD d e).map fun b=>.bool (if neg then !b else b)) none
def qdz (neg:Bool):OpD (qZ neg):=⟨eqD neg,false,fun {D G x y d e v q} hx hy hd hf k=>by
 unfold qZ
 rw [qcg hx hy]
 unfold eqD at hf
 cases h:qdN d e with
 |some b=>rw [h] at hf;cases hf;exact k _ _ Ex.refl (.bl _) (fun z=>by cases z)
 |none=>
  rw [h] at hf
  simp only [cif] at hf ⊢
  split at hf
  ·rename_i c
   obtain ⟨b,e1,rfl⟩:=Option.map_eq_some_iff.mp hf
   exact ⟨d,e,b,(hx.up ET).dp,(hy.up ET).dp,e1,c.1,c.2,k _ _ Ex.refl (.bl _) (fun z=>by cases z)⟩
  ·cases hf⟩
def qlu (neg:Bool) (d e:PyData):Option PyData:=match e with|.none=>some (.bool (match d with|.none=>!neg|_=>neg))|_=>none
def qnt (neg:Bool):OpD (YV neg):=⟨qlu neg,false,fun {D G x y d e v q} hx hy hd hf k=>by
 unfold qlu at hf
 cases hy<;>try (simp at hf;done)
 cases hf
 unfold YV
 cases hx<;>exact k _ _ Ex.refl (.bl _) (fun z=>by cases z)⟩
def ixD (d e:PyData):Option PyData:=match d,e with
 |.tuple xs,.int i=>atI xs i
 |.list xs,.int i=>atI xs i
 |_,_=>none
theorem Dqs.atI {G:Gp} {xs:List T} {ds:List PyData} {i:Int} {d:PyData} (h:Dqs G xs ds) (e:L2.atI ds i=some d):∃ x,L2.atI xs i=some x/\Dq G x d:=by
 unfold L2.atI at e ⊢
 rw [h.length]
 obtain ⟨j,e1,e2⟩:=obb e
 obtain ⟨x,hx,r⟩:=h.get e2
 exact ⟨x,by rw [e1];exact hx,r⟩
def U0:OpD ix3:=⟨ixD,false,fun {D G x y d e v q} hx hy hd hf k=>by
 unfold ixD at hf
 cases hx with
 |tup hs=>
  cases hy<;>try (simp at hf;done)
  obtain ⟨x,e1,r⟩:=hs.atI hf
  simp only [ix3,e1]
  exact k _ _ Ex.refl r (fun z=>by cases z)
 |lst g hs=>
  cases hy<;>try (simp at hf;done)
  obtain ⟨x,e1,r⟩:=hs.atI hf
  simp only [ix3,jx (qT g).2,e1]
  exact k _ _ Ex.refl r (fun z=>by cases z)
 |_=>simp at hf⟩
def qi0 (d e:PyData):Option PyData:=match d,e with
 |.tuple xs,.tuple ys=>cif (xs≠[]/\xs.length+ys.length<=sizeLine) (some (.tuple (xs++ys))) none
 |.list xs,.list ys=>cif (xs.length+ys.length<=sizeLine) (some (.list (xs++ys))) none
 |.int i,.int j=>some (.int (i+j))
 |_,_=>none
def MQ:OpD qW:=⟨qi0,false,fun {D G x y d e v q} hx hy hd hf k=>by
  unfold qi0 at hf
  cases hx with
  | int i => cases hy <;> try (simp at hf;done)
             cases hf
             exact k _ _ Ex.refl (.int _) (fun z=>by cases z)
  |tup hs=>
    cases hy<;>try (simp at hf;done)
    rename_i hs2
    simp only [cif] at hf
    split at hf
    · rename_i c
      cases hf
      refine ⟨?_,by rw [hs.length,hs2.length];exact c.2,k _ _ Ex.refl (.tup (hs.append hs2)) (fun z=>by cases z)⟩
      rintro rfl
      cases hs
      exact c.1 rfl
    · cases hf
  |lst g hs=>
    cases hy<;>try (simp at hf;done)
    rename_i g2 hs2
    simp only [cif] at hf
    split at hf
    · rename_i c
      cases hf
      simp only [qW,(qT g).2,(qT g2).2]
      exact ⟨by rw [hs.length,hs2.length];exact c,fun p hp=>k _ _ (QN hp) (CW hd hp (hs.append hs2)) (fun z=>by cases z)⟩
    · cases hf
  |_=>simp at hf⟩
def qjI (d e:PyData):Option PyData:=match d,e with
 |.list xs,.list ys=>cif (xs.length+ys.length<=sizeLine) (some (.list (xs++ys))) none
 |_,_=>none
def qaD:OpD qW:=⟨qjI,true,fun {D G x y d e v q} hx hy hd hf k=>by
 unfold qjI at hf
 cases hx with
 |lst g hs=>
  cases hy<;>try (simp at hf;done)
  rename_i g2 hs2
  simp only [cif] at hf
  split at hf
  ·rename_i c
   cases hf
   simp only [qW,(qT g).2,(qT g2).2]
   exact ⟨by rw [hs.length,hs2.length];exact c,fun p hp=>k _ _ (QN hp) (CW hd hp (hs.append hs2)) fun _=>KL hp (hs.append hs2)⟩
  ·cases hf
 |_=>simp at hf⟩
def MP:PyData->Bool
 |.none=>true|.bool _=>true|.int _=>true|.str _=>true|_=>false
def qiY:PyData->PyData->Bool
 |.none,.none=>true
 |.bool a,.bool b=>a==b
 |.bool a,.int b=>(if a then 1 else 0)==b
 |.int a,.bool b=>a==(if b then 1 else 0)
 |.int a,.int b=>a==b
 |.str a,.str b=>a==b
 |_,_=>false
theorem RH {G:Gp} {x:T} {d:PyData} (h:Dq G x d):zr x=MP d:=by cases h<;>rfl
theorem W6 {G:Gp}:∀ {x:List T} {d:List PyData},Dqs G x d->x.all zr=d.all MP
 |_,_,.nil=>rfl
 |_,_,.cons a b=>by rw [List.all_cons,List.all_cons,RH a,W6 b]
theorem qd4 {G:Gp} {x y:T} {d e:PyData} (h:Dq G x d) (h':Dq G y e):eqF x y=qiY d e:=by cases h<;>cases h'<;>rfl
theorem C0 {G:Gp} {x:T} {d:PyData} (h:Dq G x d):∀ {ys:List T} {es:List PyData},Dqs G ys es->(ys.any fun y=>eqF y x)=es.any fun y=>qiY y d
 |_,_,.nil=>rfl
 |_,_,.cons a b=>by rw [List.any_cons,List.any_cons,qd4 a h,C0 h b]
def inD (neg:Bool) (d e:PyData):Option PyData:=match e with
 |.tuple ys=>cif (MP d=true/\ys.all MP=true) (some (.bool (if neg then !(ys.any fun y=>qiY y d) else (ys.any fun y=>qiY y d)))) none
 |.list ys=>cif (MP d=true/\ys.all MP=true) (some (.bool (if neg then !(ys.any fun y=>qiY y d) else (ys.any fun y=>qiY y d)))) none
 |_=>none
def qoD (neg:Bool):OpD (in3 neg):=⟨inD neg,false,fun {D G x y d e v q} hx hy hd hf k=>by
 unfold inD at hf
 cases hy with
 |tup hs=>
  simp only [cif] at hf
  split at hf
  ·rename_i c
   cases hf
   refine ⟨by rw [RH hx];exact c.1,by rw [W6 hs];exact c.2,?_⟩
   rw [C0 hx hs]
   exact k _ _ Ex.refl (.bl _) (fun z=>by cases z)
  ·cases hf
 |lst g hs=>
  simp only [cif] at hf
  split at hf
  ·rename_i c
   cases hf
   refine ⟨by rw [RH hx];exact c.1,?_⟩
   simp only [jx (qT g).2]
   refine ⟨by rw [W6 hs];exact c.2,?_⟩
   rw [C0 hx hs]
   exact k _ _ Ex.refl (.bl _) (fun z=>by cases z)
  ·cases hf
 |_=>simp at hf⟩
def qhe:List PyData->Option PyData
 |[.tuple xs]=>some (.int xs.length)
 |[.list xs]=>some (.int xs.length)
 |_=>none
def qe4:FnD jT:=⟨qhe,false,fun {D G xs ds v q} hx hd hf k=>by
 unfold qhe at hf
 split at hf
 ·cases hx with
  |cons a b=>cases b;cases a;rename_i hs;cases hf;simp only [jT];rw [hs.length];exact k _ _ Ex.refl (.int _) (fun z=>by cases z)
 ·cases hx with
  |cons a b=>cases b;cases a;rename_i g hs;cases hf;simp only [jT,jx (qT g).2];rw [hs.length];exact k _ _ Ex.refl (.int _) (fun z=>by cases z)
 ·cases hf⟩
def qnT:List PyData->Option PyData
 |[.tuple xs]=>some (.tuple xs)
 |[.list xs]=>some (.tuple xs)
 |_=>none
def qn5:FnD qF:=⟨qnT,false,fun {D G xs ds v q} hx hd hf k=>by
 unfold qnT at hf
 split at hf
 ·cases hx with
  |cons a b=>cases b;cases a;rename_i hs;cases hf;exact k _ _ Ex.refl (.tup hs) (fun z=>by cases z)
 ·cases hx with
  |cons a b=>cases b;cases a;rename_i g hs;cases hf;simp only [qF,jx (qT g).2];exact k _ _ Ex.refl (.tup hs) (fun z=>by cases z)
 ·cases hf⟩
def qn7:List PyData->Option PyData
 |[.tuple xs]=>some (.list xs)
 |[.list xs]=>some (.list xs)
 |_=>none
def qn1:FnD zY:=⟨qn7,true,fun {D G xs ds v q} hx hd hf k=>by
 unfold qn7 at hf
 split at hf
 ·cases hx with
  |cons a b=>cases b;cases a;rename_i hs;cases hf;exact fun p hp=>k _ _ (QN hp) (CW hd hp hs) fun _=>KL hp hs
 ·cases hx with
  |cons a b=>cases b;cases a;rename_i g hs;cases hf;simp only [zY,jx (qT g).2];exact fun p hp=>k _ _ (QN hp) (CW hd hp hs) fun _=>KL hp hs
 ·cases hf⟩
def qa5:List PyData->Option (List Bool)
 |[]=>some []
 |.bool i::r=>(qa5 r).map (i::·)
 |_=>none
theorem qd0 (ns:List Bool):qa5 (ns.map PyData.bool)=some ns:=by
 induction ns with
 |nil=>rfl
 |cons n r ih=>simp [qa5,ih]
theorem qdk {G:Gp}:∀ {xs:List T} {ds:List PyData} {ns:List Bool},Dqs G xs ds->qa5 ds=some ns->qeJ xs=some (ns.all id)/\qnV xs=some (ns.any id)
 |_,_,_,.nil,h=>by simp [qa5] at h;subst h;exact ⟨rfl,rfl⟩
 |_,.bool i::r,ns,.cons a b,h=>by
  simp only [qa5] at h
  obtain ⟨ms,e,rfl⟩:=Option.map_eq_some_iff.mp h
  obtain ⟨h1,h2⟩:=qdk b e
  cases a
  simp [qeJ,qnV,h1,h2]
 |_,.int _::r,ns,_,h=>by simp [qa5] at h
 |_,.none::r,ns,_,h=>by simp [qa5] at h
 |_,.str _::r,ns,_,h=>by simp [qa5] at h
 |_,.list _::r,ns,_,h=>by simp [qa5] at h
 |_,.tuple _::r,ns,_,h=>by simp [qa5] at h
 |_,.dict _::r,ns,_,h=>by simp [qa5] at h
def qlZ:List PyData->Option PyData
 |[.list xs]=>(qa5 xs).map fun ns=>.bool (ns.all id)
 |_=>none
def qqw:FnD YR:=⟨qlZ,false,fun {D G xs ds v q} hx hd hf k=>by
 unfold qlZ at hf
 split at hf
 ·obtain ⟨ns,e,rfl⟩:=Option.map_eq_some_iff.mp hf
  cases hx with
  |cons a b=>cases b;cases a;rename_i g hs;simp only [YR,jx (qT g).2,(qdk hs e).1];exact k _ _ Ex.refl (.bl _) (fun z=>by cases z)
 ·cases hf⟩
def mn:List Int->Int
 |[]=>0|[a]=>a|a::b::r=>min a (mn (b::r))
def mx:List Int->Int
 |[]=>0|[a]=>a|a::b::r=>max a (mx (b::r))
theorem qaX:∀ {ns:List Int} {m:Int},m∈ns->mn ns<=m
 |[a],m,h=>by simp at h;subst h;exact Int.le_refl _
 |a::b::r,m,h=>by
  unfold mn
  rcases mem_cons.mp h with rfl|h
  ·omega
  ·have:=qaX h;omega
theorem qab:∀ {ns:List Int},ns≠[]->mn ns∈ns
 |[a],_=>by simp [mn]
 |a::b::r,_=>by
  unfold mn
  have:=qab (ns:=b::r) (by simp)
  rcases Int.le_total a (mn (b::r)) with h|h
  ·rw [Int.min_eq_left h];simp
  ·rw [Int.min_eq_right h];exact List.mem_cons_of_mem _ this
theorem qd8:∀ {ns:List Int} {m:Int},m∈ns->m<=mx ns
 |[a],m,h=>by simp at h;subst h;exact Int.le_refl _
 |a::b::r,m,h=>by
  unfold mx
  rcases mem_cons.mp h with rfl|h
  ·omega
  ·have:=qd8 h;omega
theorem qag:∀ {ns:List Int},ns≠[]->mx ns∈ns
 |[a],_=>by simp [mx]
 |a::b::r,_=>by
  unfold mx
  have:=qag (ns:=b::r) (by simp)
  rcases Int.le_total a (mx (b::r)) with h|h
  ·rw [Int.max_eq_right h];exact List.mem_cons_of_mem _ this
  ·rw [Int.max_eq_left h];simp
def mnD:List PyData->Option PyData
 |[.list xs]=>(U2 xs).bind fun ns=>cif (ns≠[]) (some (.int (mn ns))) none
 |_=>none
def qhT:FnD qbt:=⟨mnD,false,fun {D G xs ds v q} hx hd hf k=>by
 unfold mnD at hf
 split at hf
 ·obtain ⟨ns,e,hf⟩:=obb hf
  unfold cif at hf
  split at hf
  ·rename_i c
   cases hf
   cases hx with
   |cons a b=>
    cases b;cases a;rename_i g hs;have:=X6 e;subst this;have:=hs.ints;subst this;simp only [qbt,jx (qT g).2,VB]
    refine ⟨c,fun m hm hl=>?_⟩
    have:m=mn ns:=Int.le_antisymm (hl _ (qab c)) (qaX hm)
    subst this
    exact k _ _ Ex.refl (.int _) (fun z=>by cases z)
  ·cases hf
 ·cases hf⟩
def mxD:List PyData->Option PyData
 |[.list xs]=>(U2 xs).bind fun ns=>cif (ns≠[]) (some (.int (mx ns))) none
 |_=>none
def qhX:FnD qaR:=⟨mxD,false,fun {D G xs ds v q} hx hd hf k=>by
 unfold mxD at hf
 split at hf
 ·obtain ⟨ns,e,hf⟩:=obb hf
  unfold cif at hf
  split at hf
  ·rename_i c
   cases hf
   cases hx with
   |cons a b=>
    cases b;cases a;rename_i g hs;have:=X6 e;subst this;have:=hs.ints;subst this;simp only [qaR,jx (qT g).2,VB]
    refine ⟨c,fun m hm hl=>?_⟩
    have:m=mx ns:=Int.le_antisymm (qd8 hm) (hl _ (qag c))
    subst this
    exact k _ _ Ex.refl (.int _) (fun z=>by cases z)
  ·cases hf
 ·cases hf⟩
def PSp (F:List PyData->Option PyData) (fr:Bool):Sp3:=fun ts G q=>∃ (D:Addr->Prop) (ds:List PyData) (d:PyData),Dqs (rs D G) ts ds/\Dom D G/\F ds=some d/\∀ x G',Ex G G'->Dq (rs D G') x d->(fr=true->Nw D G G' x d)->q x G'
def QB (F:List PyData->Option PyData) (fr:Bool):FnD (PSp F fr):=⟨F,fr,fun {D G xs ds v q} hx hd hf k=>⟨D,ds,v,hx,hd,hf,k⟩⟩
def qlx:PyData->Option (List PyData)
 |.tuple xs=>some xs
 |.list xs=>some xs
 |_=>none
def qdA {t:TE3} (a:PuE t):PuI (UG t):=⟨fun ρ=>(a.f ρ).bind qlx,a.fv,false,fun {D τ ρ G r ds} hv hd hf k=>by
 obtain ⟨d,e1,hf⟩:=obb hf
 refine a.ok hv hd e1 fun x G1 E1 D1 _=>?_
 unfold qlx at hf
 cases D1 with
 |tup hs=>cases hf;exact k _ _ _ E1 hs (fun _ _=>trivial) (fun z=>by cases z)
 |lst g hs=>
  cases hf
  simp only [jx (qT g).2]
  refine k _ _ _ E1 hs (fun G2 h=>?_) (fun z=>by cases z)
  rcases h with h|h
  ·cases h
  ·exact jx (h _ _ g)
 |_=>simp at hf⟩
def ZN (lo:Int) (n:Nat):List Int:=(List.range n).map fun (i:Nat)=>lo+(i:Int)
theorem qfr (lo:Int) (n:Nat):qan lo n=(ZN lo n).map T.int:=by simp [qan,ZN,map_map,Function.comp_def]
def qik:List PyData->Option (List PyData)
 |[.int j]=>cif (-(2 ^ 62)<=j/\j<2 ^ 62) (some ((ZN 0 j.toNat).map PyData.int)) none
 |[.int i,.int j]=>cif (-(2 ^ 62)<=i/\i<2 ^ 62/\-(2 ^ 62)<=j/\j<2 ^ 62) (some ((ZN i (j-i).toNat).map PyData.int)) none
 |_=>none
def M3 {t:TA3} (a:PuA t):PuI (zA t):=⟨fun ρ=>(a.f ρ).bind qik,a.fv,true,fun {D τ ρ G r ds} hv hd hf k=>by
 obtain ⟨d,e1,hf⟩:=obb hf
 refine a.ok hv hd e1 fun x G1 E1 D1=>?_
 unfold qik at hf
 split at hf
 ·unfold cif at hf
  split at hf
  ·rename_i c
   cases hf
   cases D1 with
   |cons a b=>cases b;cases a;simp only;rw [qfr];exact ⟨c,k _ _ _ E1 (Dqs.ofInts _) (fun _ _=>trivial) fun _=>⟨_,rfl⟩⟩
  ·cases hf
 ·unfold cif at hf
  split at hf
  ·rename_i c
   cases hf
   cases D1 with
   |cons a b=>cases b with
    |cons b c'=>cases c';cases a;cases b;simp only;rw [qfr];exact ⟨c,k _ _ _ E1 (Dqs.ofInts _) (fun _ _=>trivial) fun _=>⟨_,rfl⟩⟩
  ·cases hf
 ·cases hf⟩
def qoX (us vs:List PyData):List PyData:=(us.zip vs).map fun p=>.tuple [p.1,p.2]
theorem Dqs.zip {G:Gp}:∀ {xs:List T} {ds:List PyData} {ys:List T} {es:List PyData},Dqs G xs ds->Dqs G ys es->Dqs G (qcK xs ys) (qoX ds es)
 |_,_,_,_,.nil,_=>by simp [qcK,qoX];exact .nil
 |_,_,_,_,.cons _ _,.nil=>by simp [qcK,qoX];exact .nil
 |_,_,_,_,.cons a b,.cons c d=>.cons (.tup (.cons a (.cons c .nil))) (Dqs.zip b d)
inductive Bd (H:Gp):List (Nat×T)->List (Nat×PyData)->Prop
 |nil:Bd H [] []
 |cons {i:Nat} {x:T} {d:PyData} {ts:List (Nat×T)} {bs:List (Nat×PyData)}:Dq H x d->Bd H ts bs->Bd H ((i,x)::ts) ((i,d)::bs)
theorem Bd.append {H:Gp}:∀ {ts:List (Nat×T)} {bs:List (Nat×PyData)} {us:List (Nat×T)} {cs:List (Nat×PyData)},Bd H ts bs->Bd H us cs->Bd H (ts++us) (bs++cs)
 |_,_,_,_,.nil,h=>h
 |_,_,_,_,.cons a b,h=>.cons a (Bd.append b h)
theorem Bd.up {H H':Gp} (e:Ex H H'):∀ {ts:List (Nat×T)} {bs:List (Nat×PyData)},Bd H ts bs->Bd H' ts bs
 |_,_,.nil=>.nil
 |_,_,.cons a b=>.cons (a.up e) (Bd.up e b)
def sets:St3->List (Nat×T)->St3
 |τ,[]=>τ
 |τ,p::r=>sets (τ.set p.1 (some p.2)) r
def ZQ:Rho->List (Nat×PyData)->Rho
 |ρ,[]=>ρ
 |ρ,p::r=>ZQ (ρ.set p.1 (.sh p.2)) r
theorem qaC:∀ (τ:St3) (a b:List (Nat×T)),sets τ (a++b)=sets (sets τ a) b
 |τ,[],b=>rfl
 |τ,p::a,b=>by simp only [cons_append,sets];exact qaC _ a b
structure PuG (g:TG3) where
 f:PyData->Option (List (Nat×PyData))
 tg:List Nat
 at':∀ {d bs},f d=some bs->∀ p∈bs,p.1∈tg
 ok:∀ {H x d bs},Dq H x d->f d=some bs->∃ ts,Bd H ts bs/\∀ τ G (q:St3->Gp->Prop),q (sets τ ts) G->g x τ G q
structure PuGs (g:MC) where
 f:List PyData->Option (List (Nat×PyData))
 tg:List Nat
 at':∀ {d bs},f d=some bs->∀ p∈bs,p.1∈tg
 ok:∀ {H x d bs},Dqs H x d->f d=some bs->∃ ts,Bd H ts bs/\∀ τ G (q:St3->Gp->Prop),q (sets τ ts) G->g x τ G q
def gN (i:Nat):PuG (gn3 i):=⟨fun d=>some [(i,d)],[i],fun h p hp=>by cases h;simp at hp;subst hp;simp,fun hx h=>by cases h;exact ⟨_,.cons hx .nil,fun τ G q hq=>hq⟩⟩
def qbp:PuGs qL:=⟨fun ds=>match ds with|[]=>some []|_=>none,[],(fun h p hp=>by split at h;cases h;cases hp;cases h),fun hx h=>by
 split at h
 ·cases h;cases hx;exact ⟨[],.nil,fun τ G q hq=>hq⟩
 ·cases h⟩
def jW {t:TG3} {u:MC} (a:PuG t) (b:PuGs u):PuGs (qj t u):=⟨fun ds=>match ds with|d::r=>(a.f d).bind fun x=>(b.f r).map fun y=>x++y|[]=>none,a.tg++b.tg,(fun h p hp=>by
 split at h
 ·obtain ⟨x,e1,h⟩:=obb h
  obtain ⟨y,e2,rfl⟩:=Option.map_eq_some_iff.mp h
  rcases List.mem_append.mp hp with z|z
  ·exact List.mem_append.mpr (.inl (a.at' e1 p z))
  ·exact List.mem_append.mpr (.inr (b.at' e2 p z))
 ·cases h),fun hx h=>by
 split at h
 ·obtain ⟨x,e1,h⟩:=obb h
  obtain ⟨y,e2,rfl⟩:=Option.map_eq_some_iff.mp h
  cases hx with
  |cons hx hr=>
   obtain ⟨ts,b1,k1⟩:=a.ok hx e1
   obtain ⟨us,b2,k2⟩:=b.ok hr e2
   refine ⟨ts++us,b1.append b2,fun τ G q hq=>k1 τ G _ (k2 _ G q ?_)⟩
   rw [← qaC];exact hq
 ·cases h⟩
def qaY {u:MC} (n:Nat) (b:PuGs u):PuG (qM n u):=⟨fun d=>match d with|.tuple ds=>if ds.length=n then b.f ds else none|_=>none,b.tg,(fun h p hp=>by
 split at h
 ·split at h
  ·exact b.at' h p hp
  ·cases h
 ·cases h),fun hx h=>by
 split at h
 ·split at h
  ·rename_i c
   cases hx with
   |tup hs=>
    obtain ⟨ts,b1,k1⟩:=b.ok hs h
    exact ⟨ts,b1,fun τ G q hq=>⟨by rw [hs.length];exact c,k1 τ G q hq⟩⟩
  ·cases h
 ·cases h⟩
structure VA (D:Addr->Prop) (G:Gp) (τ:St3) (ρ:Rho):Prop where
 len:ρ.length=τ.length
 vw:∀ i d,vw ρ i=some d->∃ t,τ[i]?=some (some t)/\Dq (rs D G) t d
theorem VA.view {D:Addr->Prop} {G:Gp} {τ:St3} {ρ:Rho} (h:VA D G τ ρ) (fv:List Nat):SH fv D G τ ρ:=fun i _ d e=>h.vw i d e
theorem VA.upx {D:Addr->Prop} {G G':Gp} {τ:St3} {ρ:Rho} (h:VA D G τ ρ) (e:Ex (rs D G) (rs D G')):VA D G' τ ρ:=⟨h.len,fun i d hd=>let ⟨t,a,b⟩:=h.vw i d hd;⟨t,a,b.up e⟩⟩
theorem VA.up {D:Addr->Prop} {G G':Gp} {τ:St3} {ρ:Rho} (h:VA D G τ ρ) (e:Ex G G'):VA D G' τ ρ:=h.upx (QQ e)
theorem qf9 {ρ:Rho} {i j:Nat} {s:Sl}:vw (ρ.set i s) j=if i=j then (if i<ρ.length then s.d else none) else vw ρ j:=by
 unfold vw
 rw [getElem?_set]
 split
 ·subst j;split
  ·rfl
  ·rfl
 ·rfl
theorem VA.set {D:Addr->Prop} {G:Gp} {τ:St3} {ρ:Rho} (h:VA D G τ ρ) {i:Nat} {x:T} {d:PyData} (hx:Dq (rs D G) x d):VA D G (τ.set i (some x)) (ρ.set i (.sh d)):=by
 refine ⟨by simp [h.len],fun j e he=>?_⟩
 rw [qf9] at he
 split at he
 ·subst j
  split at he
  ·rename_i l
   cases he
   refine ⟨x,?_,hx⟩
   rw [getElem?_set,if_pos rfl,if_pos (by rw [← h.len];exact l)]
  ·cases he
 ·rename_i n
  obtain ⟨t,a,b⟩:=h.vw j e he
  exact ⟨t,by rw [getElem?_set,if_neg n];exact a,b⟩
theorem VA.sets {D:Addr->Prop} {G:Gp}:∀ {ts:List (Nat×T)} {bs:List (Nat×PyData)} {τ:St3} {ρ:Rho},VA D G τ ρ->Bd (rs D G) ts bs->VA D G (Pu.sets τ ts) (ZQ ρ bs)
 |_,_,_,_,h,.nil=>h
 |_,_,_,_,h,.cons a b=>by unfold Pu.sets ZQ;exact VA.sets (h.set a) b
theorem VA.keep {D:Addr->Prop} {G:Gp} {ρ:Rho}:∀ {ts:List (Nat×T)} {τ:St3},VA D G τ ρ->(∀ p∈ts,Pu.vw ρ p.1=none)->VA D G (Pu.sets τ ts) ρ
 |[],_,h,_=>h
 |p::r,τ,h,hn=>VA.keep (ts:=r) ⟨by rw [List.length_set];exact h.len,fun j d hd=>by
   have:p.1≠j:=by rintro rfl;rw [hn p (by simp)] at hd;cases hd
   obtain ⟨t,a,b⟩:=h.vw j d hd
   exact ⟨t,by rw [getElem?_set,if_neg this];exact a,b⟩⟩ fun q hq=>hn q (by simp [hq])
def ME (m:List (Option Nat)) (ρ:Rho):Rho:=m.map fun o=>match o with|some j=>(match vw ρ j with|some d=>.sh d|none=>.un)|none=>.un
theorem VA.cap {m:List (Option Nat)} {D:Addr->Prop} {G:Gp} {τ:St3} {ρ:Rho} (h:SH (m.filterMap id) D G τ ρ):VA D G (L3.cap m τ) (ME m ρ):=by
 refine ⟨by simp [ME,L3.cap],fun i d hd=>?_⟩
 unfold Pu.vw ME at hd
 rw [getElem?_map] at hd
 cases e:m[i]? with
 |none=>rw [e] at hd;cases hd
 |some o=>
  rw [e] at hd
  cases o with
  |none=>cases hd
  |some j=>
   simp only [Option.map_some,Option.bind_some] at hd
   cases e2:Pu.vw ρ j with
   |none=>rw [e2] at hd;cases hd
   |some d'=>
    rw [e2] at hd
    have hd':d'=d:=by simpa [Sl.d] using hd
    subst hd'
    obtain ⟨t,a,b⟩:=h j (List.mem_filterMap.mpr ⟨some j,mem_of_getElem? e,rfl⟩) d' e2
    refine ⟨t,?_,b⟩
    unfold L3.cap
    rw [getElem?_map,e]
    simp [a]
theorem NH {m:List (Option Nat)} {ρ:Rho} {i:Nat} (h:m[i]?=some none):vw (ME m ρ) i=none:=by
 unfold vw ME
 rw [getElem?_map,h]
 rfl
def lcP (h:PyData->Option (Option PyData)):List PyData->Option (List PyData)
 |[]=>some []
 |d::r=>(h d).bind fun o=>(lcP h r).bind fun ys=>some (match o with|some y=>y::ys|none=>ys)
def lcH (gf:PyData->Option (List (Nat×PyData))) (cf:Rho->Option Bool) (ef:Rho->Option PyData) (ρ:Rho) (d:PyData):Option (Option PyData):=
 (gf d).bind fun bs=>(cf (ZQ ρ bs)).bind fun k=>if k then (ef (ZQ ρ bs)).map some else some none
theorem QL {h:PyData->Option (Option PyData)} {α:Type} {g:α->PyData} {k:α->PyData} {xs:List α} (hh:∀ a∈xs,h (g a)=some (some (k a))):lcP h (xs.map g)=some (xs.map k):=by
 induction xs with
 |nil=>rfl
 |cons a r ih=>simp only [map_cons,lcP,hh a (by simp),Option.bind_some,ih fun b hb=>hh b (by simp [hb])]
theorem WU {h:PyData->Option (Option PyData)} {α:Type} {g:α->PyData} {k:α->PyData} {c:α->Bool} {xs:List α} (hh:∀ a∈xs,h (g a)=some (if c a then some (k a) else none)):lcP h (xs.map g)=some ((xs.filter c).map k):=by
 induction xs with
 |nil=>rfl
 |cons a r ih=>
  simp only [map_cons,lcP,hh a (by simp),Option.bind_some,ih fun b hb=>hh b (by simp [hb])]
  cases e:c a with
  |true=>simp [e]
  |false=>simp [e]
theorem qdL {H:Gp}:∀ {ts:List (Nat×T)} {bs:List (Nat×PyData)},Bd H ts bs->∀ p∈ts,∃ q∈bs,q.1=p.1
 |_,_,.nil,p,hp=>by cases hp
 |_,_,.cons a b,p,hp=>by
  rcases mem_cons.mp hp with rfl|hp
  ·exact ⟨_,List.mem_cons_self,rfl⟩
  ·obtain ⟨q,hq,e⟩:=qdL b p hp
   exact ⟨q,by simp [hq],e⟩
theorem qg5 {stay:Gp->Prop} {g:TG3} {tif:TT3} {te:TE3} {q:Q3} (pg:PuG g) (pc:PuC tif) (pe:PuE te) {D:Addr->Prop} {ρ0:Rho} {G0:Gp} (hs:∀ G,Ex G0 G->stay G) (hm:∀ i∈pg.tg,vw ρ0 i=none) (fin:List PyData) (hfin:fin.length<=sizeLine)
  (k:∀ G ys,Ex G0 G->Dqs (rs D G) ys fin->∀ p,G p=none->q (.ref p) (gu G p (.lst ys))) :
  ∀ (ds:List PyData) (items ys:List T) (es fs:List PyData) (τ:St3) (G:Gp),Dqs (rs D G0) items ds->VA D G τ ρ0->Ex G0 G->Dom D G->Dqs (rs D G) ys es->lcP (lcH pg.f pc.f pe.f ρ0) ds=some fs->es++fs=fin->RV stay g tif te q items ys τ G
 |_,_,ys,es,fs,τ,G,.nil,va,E,hd,hy,hf,hl=>by
  cases hf
  rw [List.append_nil] at hl
  subst hl
  exact ⟨hs G E,k G ys E hy⟩
 |d::ds,x::items,ys,es,fs,τ,G,.cons hx hr,va,E,hd,hy,hf,hl=>by
  unfold lcP at hf
  obtain ⟨o,e1,hf⟩:=obb hf
  obtain ⟨ZP,e2,hf⟩:=obb hf
  unfold lcH at e1
  obtain ⟨bs,e3,e1⟩:=obb e1
  obtain ⟨c,e4,e1⟩:=obb e1
  obtain ⟨ts,bd,kg⟩:=pg.ok (hx.up (QQ E)) e3
  refine ⟨hs G E,kg τ G _ ?_⟩
  have va1:=va.sets bd
  have va2:=va.keep (ts:=ts) fun p hp=>by
   obtain ⟨q,hq,e⟩:=qdL bd p hp
   rw [← e];exact hm _ (pg.at' e3 q hq)
  refine pc.ok (va1.view _) hd e4 fun G1 E1=>?_
  cases c with
  |true=>
   rw [if_pos rfl]
   rw [if_pos rfl] at e1
   obtain ⟨y,e5,rfl⟩:=Option.map_eq_some_iff.mp e1
   simp only [Option.some.injEq] at hf
   subst hf
   refine pe.ok ((va1.up E1).view _) (hd.up E1) e5 fun z G2 E2 D2 _=>⟨?_,?_⟩
   ·rw [hy.length]
    rw [← hl] at hfin
    simp at hfin;omega
   ·refine qg5 pg pc pe hs hm fin hfin k ds items (ys++[z]) (es++[y]) ZP _ G2 hr ((va2.up E1).up E2) (E.trans (E1.trans E2)) ((hd.up E1).up E2) (((hy.up (QQ E1)).up (QQ E2)).append (.cons D2 .nil)) e2 ?_
    rw [← hl];simp
  |false=>
   rw [if_neg Bool.false_ne_true]
   simp at e1
   subst e1
   simp only [Option.some.injEq] at hf
   subst hf
   exact qg5 pg pc pe hs hm fin hfin k ds items ys es ZP _ G1 hr (va2.up E1) (E.trans E1) (hd.up E1) (hy.up (QQ E1)) e2 hl
def lcF (pi:Rho->Option (List PyData)) (h:Rho->PyData->Option (Option PyData)) (m:List (Option Nat)) (ρ:Rho):Option PyData:=
 (pi ρ).bind fun ds=>(lcP (h (ME m ρ)) ds).bind fun fs=>cif (fs.length<=sizeLine) (some (.list fs)) none
def bLc {wi:TI3} {g:TG3} {tif:TT3} {te:TE3} (pi:PuI wi) (pg:PuG g) (pc:PuC tif) (pe:PuE te) (m:List (Option Nat)) (hm:Tru (pg.tg.all fun i=>m[i]?==some none)):PuE (lc3 wi g tif te m):=
 ⟨lcF pi.f (lcH pg.f pc.f pe.f) m,pi.fv++m.filterMap id,true,fun {D τ ρ G q d} hv hd hf k=>by
  unfold lcF at hf
  obtain ⟨ds,e1,hf⟩:=obb hf
  obtain ⟨fs,e2,hf⟩:=obb hf
  unfold cif at hf
  split at hf
  ·rename_i hl
   cases hf
   refine pi.ok hv.l hd e1 fun items stay G1 E1 D1 hs _=>?_
   have va:=(VA.cap (m:=m) hv.r).up E1
   refine qg5 pg pc pe (D:=D) (ρ0:=ME m ρ) (G0:=G1) (fun G2 E2=>hs G2 (.inr (ET.trans E2))) (fun i hi=>NH ?_) fs hl (fun G2 ys E2 D2 p hp=>?_) ds items [] [] fs _ G1 D1 va Ex.refl (hd.up E1) .nil e2 (by simp)
   ·have:=List.all_eq_true.mp hm.h i hi
    simpa using this
   ·exact k _ _ ((E1.trans E2).trans (QN hp)) (CW ((hd.up E1).up E2) hp D2) fun _=>(KL hp D2).back (E1.trans E2)
  ·cases hf⟩
def E0 (p:Addr) (G G':Gp):Prop:=∀ b o,b≠p->G b=some o->G' b=some o
theorem E0.refl {p:Addr} {G:Gp}:E0 p G G:=fun _ _ _ e=>e
theorem E0.trans {p:Addr} {G G1 G2:Gp} (a:E0 p G G1) (b:E0 p G1 G2):E0 p G G2:=fun x o n e=>b x o n (a x o n e)
theorem E0.of {p:Addr} {G G1:Gp} (a:Ex G G1):E0 p G G1:=fun x o _ e=>a x o e
theorem E0.wr {p:Addr} {G:Gp} {o:O}:E0 p G (gu G p o):=fun b ob n e=>by rw [jF n];exact e
theorem E0.rs {p:Addr} {D:Addr->Prop} {G G1:Gp} (a:E0 p G G1):Ex (rs (fun b=>D b\/b=p) G) (rs (fun b=>D b\/b=p) G1):=fun b o h=>by
 obtain ⟨n,h⟩:=qT h
 rw [QS n]
 exact a b o (fun z=>n (.inr z)) h
theorem qmc {D:Addr->Prop} {G:Gp} {p:Addr} {o:O} (h:Dom D G):Dom D (gu G p o):=fun b d z=>by
 by_cases e:b=p
 ·subst e;rw [qw] at z;cases z
 ·rw [jF e] at z;exact h b d z
theorem qg9 {p:Addr} {stay:Gp->Prop} {g:TG3} {tif:TT3} {te:TE3} {N:St3->Gp->Prop} (pg:PuG g) (pc:PuC tif) (pe:PuE te) {D:Addr->Prop} {ρ0:Rho} {G0:Gp} (hs:∀ G,Ex (rs (fun b=>D b\/b=p) G0) G->stay G) (hm:∀ i∈pg.tg,vw ρ0 i=none) (fin:List PyData) (hfin:fin.length<=sizeLine)
  (k:∀ τ G ys,VA (fun b=>D b\/b=p) G τ ρ0->E0 p G0 G->Dom (fun b=>D b\/b=p) G->G p=some (.lst ys)->Dqs (rs (fun b=>D b\/b=p) G) ys fin->N τ G) :
  ∀ (ds:List PyData) (items ys:List T) (es fs:List PyData) (τ:St3) (G:Gp),Dqs (rs (fun b=>D b\/b=p) G0) items ds->VA (fun b=>D b\/b=p) G τ ρ0->E0 p G0 G->Dom (fun b=>D b\/b=p) G->G p=some (.lst ys)->Dqs (rs (fun b=>D b\/b=p) G) ys es->lcP (lcH pg.f pc.f pe.f ρ0) ds=some fs->es++fs=fin->qiU p stay g tif te N items τ G
 |_,_,ys,es,fs,τ,G,.nil,va,E,hd,gp,hy,hf,hl=>by
  cases hf
  rw [List.append_nil] at hl
  subst hl
  exact ⟨hs G (E.rs.trans ET),k τ G ys va E hd gp hy⟩
 |d::ds,x::items,ys,es,fs,τ,G,.cons hx hr,va,E,hd,gp,hy,hf,hl=>by
  unfold lcP at hf
  obtain ⟨o,e1,hf⟩:=obb hf
  obtain ⟨ZP,e2,hf⟩:=obb hf
  unfold lcH at e1
  obtain ⟨bs,e3,e1⟩:=obb e1
  obtain ⟨c,e4,e1⟩:=obb e1
  obtain ⟨ts,bd,kg⟩:=pg.ok (hx.up E.rs) e3
  refine ⟨hs G (E.rs.trans ET),kg τ G _ ?_⟩
  have va1:=va.sets bd
  have va2:=va.keep (ts:=ts) fun p hp=>by
   obtain ⟨q,hq,e⟩:=qdL bd p hp
   rw [← e];exact hm _ (pg.at' e3 q hq)
  refine pc.ok (va1.view _) hd e4 fun G1 E1=>?_
  cases c with
  |true=>
   rw [if_pos rfl]
   rw [if_pos rfl] at e1
   obtain ⟨y,e5,rfl⟩:=Option.map_eq_some_iff.mp e1
   simp only [Option.some.injEq] at hf
   subst hf
   refine pe.ok ((va1.up E1).view _) (hd.up E1) e5 fun z G2 E2 D2 _=>?_
   simp only [E2 _ _ (E1 _ _ gp)]
   have W:E0 p G2 (gu G2 p (.lst (ys++[z]))):=E0.wr
   refine ⟨?_,?_⟩
   ·rw [hy.length]
    rw [← hl] at hfin
    simp at hfin;omega
   ·refine qg9 pg pc pe hs hm fin hfin k ds items (ys++[z]) (es++[y]) ZP _ _ hr (((va2.up E1).up E2).upx W.rs) ((E.trans (E0.of (E1.trans E2))).trans W) (qmc ((hd.up E1).up E2)) qw ((((hy.up (QQ E1)).up (QQ E2)).append (.cons D2 .nil)).up W.rs) e2 ?_
    rw [← hl];simp
  |false=>
   rw [if_neg Bool.false_ne_true]
   simp at e1
   subst e1
   simp only [Option.some.injEq] at hf
   subst hf
   exact qg9 pg pc pe hs hm fin hfin k ds items ys es ZP _ G1 hr (va2.up E1) (E.trans (E0.of E1)) (hd.up E1) (E1 _ _ gp) (hy.up (QQ E1)) e2 hl
def qh1 (h:PyData->Option (Option (List PyData))):List PyData->Option (List PyData)
 |[]=>some []
 |d::r=>(h d).bind fun o=>(qh1 h r).bind fun ys=>some (match o with|some y=>y++ys|none=>ys)
def qks (gf:PyData->Option (List (Nat×PyData))) (cf:Rho->Option Bool) (it:Rho->Option (List PyData)) (h:Rho->PyData->Option (Option PyData)) (ρ:Rho) (d:PyData):Option (Option (List PyData)):=
 (gf d).bind fun bs=>(cf (ZQ ρ bs)).bind fun k=>if k then ((it (ZQ ρ bs)).bind fun ds=>lcP (h (ZQ ρ bs)) ds).map some else some none
theorem MN:∀ {bs:List (Nat×PyData)} {ρ:Rho} {i:Nat},(∀ p∈bs,p.1≠i)->vw (ZQ ρ bs) i=vw ρ i
 |[],_,_,_=>rfl
 |p::r,ρ,i,h=>by
  unfold ZQ
  rw [MN (fun q hq=>h q (by simp [hq])),qf9,if_neg (h p (by simp))]
theorem qaE:∀ (bs:List (Nat×PyData)) (ρ:Rho),(ZQ ρ bs).length=ρ.length
 |[],τ=>rfl
 |p::r,τ=>by unfold ZQ;rw [qaE r];simp
theorem qci {p:Addr} {stay:Gp->Prop} {g g2:TG3} {tif tif2:TT3} {wi2:TI3} {te:TE3} {q:Q3} (pg:PuG g) (pc:PuC tif) (pi2:PuI wi2) (pg2:PuG g2) (pc2:PuC tif2) (pe:PuE te) {D:Addr->Prop} {ρ0:Rho} {G0:Gp} (hs:∀ G,Ex (rs (fun b=>D b\/b=p) G0) G->stay G) (hm:∀ i∈pg.tg,vw ρ0 i=none) (hm2:∀ i∈pg2.tg,vw ρ0 i=none) (hdj:∀ i∈pg2.tg,i∉pg.tg) (fin:List PyData) (hfin:fin.length<=sizeLine)
  (k:∀ G ys,E0 p G0 G->G p=some (.lst ys)->Dqs (rs (fun b=>D b\/b=p) G) ys fin->q (.ref p) G) :
  ∀ (ds:List PyData) (items ys:List T) (es fs:List PyData) (τ:St3) (G:Gp),Dqs (rs (fun b=>D b\/b=p) G0) items ds->VA (fun b=>D b\/b=p) G τ ρ0->E0 p G0 G->Dom (fun b=>D b\/b=p) G->G p=some (.lst ys)->Dqs (rs (fun b=>D b\/b=p) G) ys es->qh1 (qks pg.f pc.f pi2.f (lcH pg2.f pc2.f pe.f) ρ0) ds=some fs->es++fs=fin->qcO p stay g tif wi2 g2 tif2 te q items τ G
 |_,_,ys,es,fs,τ,G,.nil,va,E,hd,gp,hy,hf,hl=>by
  cases hf
  rw [List.append_nil] at hl
  subst hl
  exact ⟨hs G (E.rs.trans ET),k G ys E gp hy⟩
 |d::ds,x::items,ys,es,fs,τ,G,.cons hx hr,va,E,hd,gp,hy,hf,hl=>by
  unfold qh1 at hf
  obtain ⟨o,e1,hf⟩:=obb hf
  obtain ⟨ZP,e2,hf⟩:=obb hf
  unfold qks at e1
  obtain ⟨bs,e3,e1⟩:=obb e1
  obtain ⟨c,e4,e1⟩:=obb e1
  obtain ⟨ts,bd,kg⟩:=pg.ok (hx.up E.rs) e3
  refine ⟨hs G (E.rs.trans ET),kg τ G _ ?_⟩
  have va1:=va.sets bd
  have va2:=va.keep (ts:=ts) fun p hp=>by
   obtain ⟨q,hq,e⟩:=qdL bd p hp
   rw [← e];exact hm _ (pg.at' e3 q hq)
  refine pc.ok (va1.view _) hd e4 fun G1 E1=>?_
  cases c with
  |true=>
   rw [if_pos rfl]
   rw [if_pos rfl] at e1
   obtain ⟨y,e5,rfl⟩:=Option.map_eq_some_iff.mp e1
   obtain ⟨ds2,e6,e5⟩:=obb e5
   simp only [Option.some.injEq] at hf
   subst hf
   refine pi2.ok ((va1.up E1).view _) (hd.up E1) e6 fun items2 stay2 G2 E2 D2 hs2 _=>?_
   have l2:(es++y).length<=sizeLine:=by
    rw [← hl] at hfin
    simp at hfin ⊢;omega
   refine qg9 pg2 pc2 pe (ρ0:=ZQ ρ0 bs) (G0:=G2) (fun G3 E3=>hs2 G3 (.inr E3)) (fun i hi=>?_) (es++y) l2 (fun τ3 G3 zs va3 E3 hd3 gp3 hz=>?_) ds2 items2 ys es y _ G2 D2 ((va1.up E1).up E2) E0.refl ((hd.up E1).up E2) (E2 _ _ (E1 _ _ gp)) ((hy.up (QQ E1)).up (QQ E2)) e5 rfl
   ·rw [MN fun q hq e=>hdj i hi (by rw [← e];exact pg.at' e3 q hq)];exact hm2 i hi
   ·have E4:E0 p G G3:=(E0.of (E1.trans E2)).trans E3
    have va4:VA (fun b=>D b\/b=p) G3 τ3 ρ0:=⟨by rw [← va3.len,qaE],fun i d' hd'=>va3.vw i d' (by
     rw [MN fun q hq e=>?_];exact hd'
     rw [← e,hm _ (pg.at' e3 q hq)] at hd';cases hd')⟩
    exact qci pg pc pi2 pg2 pc2 pe hs hm hm2 hdj fin hfin k ds items zs (es++y) ZP τ3 G3 hr va4 (E.trans E4) hd3 gp3 hz e2 (by rw [← hl];simp)
  |false=>
   rw [if_neg Bool.false_ne_true]
   simp at e1
   subst e1
   simp only [Option.some.injEq] at hf
   subst hf
   exact qci pg pc pi2 pg2 pc2 pe hs hm hm2 hdj fin hfin k ds items ys es ZP _ G1 hr (va2.up E1) (E.trans (E0.of E1)) (hd.up E1) (E1 _ _ gp) (hy.up (QQ E1)) e2 hl
def qmm (pi:Rho->Option (List PyData)) (h:Rho->PyData->Option (Option (List PyData))) (m:List (Option Nat)) (ρ:Rho):Option PyData:=
 (pi ρ).bind fun ds=>(qh1 (h (ME m ρ)) ds).bind fun fs=>cif (fs.length<=sizeLine) (some (.list fs)) none
theorem qeE {h:PyData->Option (Option (List PyData))} {α:Type} {g:α->PyData} {k:α->List PyData} {xs:List α} (hh:∀ a∈xs,h (g a)=some (some (k a))):qh1 h (xs.map g)=some (xs.flatMap k):=by
 induction xs with
 |nil=>rfl
 |cons a r ih=>simp only [map_cons,qh1,hh a (by simp),Option.bind_some,ih fun b hb=>hh b (by simp [hb]),List.flatMap_cons]
def qol {wi wi2:TI3} {g g2:TG3} {tif tif2:TT3} {te:TE3} (pi:PuI wi) (pg:PuG g) (pc:PuC tif) (pi2:PuI wi2) (pg2:PuG g2) (pc2:PuC tif2) (pe:PuE te) (m:List (Option Nat)) (hm:Tru (pg.tg.all fun i=>m[i]?==some none)) (hm2:Tru (pg2.tg.all fun i=>m[i]?==some none)) (hdj:Tru (pg2.tg.all fun i=>!pg.tg.contains i)):PuE (qnX wi g tif wi2 g2 tif2 te m):=
 ⟨qmm pi.f (qks pg.f pc.f pi2.f (lcH pg2.f pc2.f pe.f)) m,pi.fv++m.filterMap id,true,fun {D τ ρ G q d} hv hd hf k=>by
  unfold qmm at hf
  obtain ⟨ds,e1,hf⟩:=obb hf
  obtain ⟨fs,e2,hf⟩:=obb hf
  unfold cif at hf
  split at hf
  ·rename_i hl
   cases hf
   refine pi.ok hv.l hd e1 fun items stay G1 E1 D1 hs _ p hp=>?_
   have va:=(VA.cap (m:=m) hv.r).up E1
   have np:∀ {b o},G1 b=some o->b≠p:=fun e=>by rintro rfl;rw [hp] at e;cases e
   have X1:Ex (rs D G1) (rs (fun b=>D b\/b=p) (gu G1 p (.lst []))):=fun b o e=>by
    obtain ⟨n,e⟩:=qT e
    rw [QS (by rintro (z|z);exact n z;exact np e z),jF (np e)];exact e
   refine qci pg pc pi2 pg2 pc2 pe (D:=D) (ρ0:=ME m ρ) (G0:=gu G1 p (.lst [])) (p:=p) (fun G2 E2=>hs G2 (.inr (X1.trans E2))) (fun i hi=>NH ?_) (fun i hi=>NH ?_) (fun i hi hj=>?_) fs hl (fun G2 ys E2 gp D2=>?_) ds items [] [] fs _ _ (D1.up X1) ⟨va.len,fun i d hd=>let ⟨t,a,b⟩:=va.vw i d hd;⟨t,a,b.up X1⟩⟩ E0.refl ?_ qw .nil e2 (by simp)
   ·simpa using List.all_eq_true.mp hm.h i hi
   ·simpa using List.all_eq_true.mp hm2.h i hi
   ·have:=List.all_eq_true.mp hdj.h i hi
    simp at this
    exact this hj
   ·have EE:Ex G1 G2:=fun b o e=>E2 b o (np e) (by rw [jF (np e)];exact e)
    have hdp:¬ D p:=fun z=>(hd.up E1) p z hp
    refine k _ _ (E1.trans EE) (.lst (by rw [QS hdp];exact gp) (D2.up (jM fun b z=>.inl z))) fun _=>Nw.back (.inr ⟨p,ys,fs,rfl,rfl,hp,gp,D2⟩) E1
   ·intro b hb z
    by_cases e:b=p
    ·subst e;rw [qw] at z;cases z
    ·rw [jF e] at z
     rcases hb with hb|hb
     ·exact (hd.up E1) b hb z
     ·exact e hb
  ·cases hf⟩
def AD (D:Addr->Prop) (A:Nat->Option Addr) (b:Addr):Prop:=D b\/∃ i,A i=some b
structure RS (D:Addr->Prop) (G0:Gp) (A:Nat->Option Addr) (τ:St3) (ρ:Rho) (G:Gp):Prop where
 ex:Ex G0 G
 dm:Dom D G0
 fr:∀ i p,A i=some p->G0 p=none
 da:∀ i p,A i=some p->G p≠none
 inj:∀ i j p,A i=some p->A j=some p->i=j
 len:ρ.length=τ.length
 sh:∀ (i:Nat) (d:PyData),ρ[i]?=some (Sl.sh d)->∃ t,τ[i]?=some (some t)/\Dq (rs (AD D A) G) t d
 ow:∀ (i:Nat) (ds:List PyData),ρ[i]?=some (Sl.ow ds)->∃ p xs,A i=some p/\τ[i]?=some (some (.ref p))/\G p=some (.lst xs)/\Dqs (rs (AD D A) G) xs ds
section
variable {D:Addr->Prop} {G0 G G':Gp} {A A':Nat->Option Addr} {τ:St3} {ρ:Rho}
theorem RS.nd (h:RS D G0 A τ ρ G) {i:Nat} {p:Addr} (e:A i=some p):¬ D p:=fun z=>h.dm p z (h.fr i p e)
theorem RS.dom (h:RS D G0 A τ ρ G):Dom (AD D A) G:=fun b hb=>by
 rcases hb with hb|⟨i,hi⟩
 ·exact (h.dm.up h.ex) b hb
 ·exact h.da i b hi
theorem RS.domD (h:RS D G0 A τ ρ G):Dom D G:=h.dm.up h.ex
theorem RS.up (h:RS D G0 A τ ρ G) (e:Ex G G'):RS D G0 A τ ρ G':=
 ⟨h.ex.trans e,h.dm,h.fr,fun i p a z=>(h.da i p a) (by
  cases g:G p with
  |none=>rfl
  |some o=>rw [e _ _ g] at z;cases z),h.inj,h.len,fun i d a=>let ⟨t,b,c⟩:=h.sh i d a;⟨t,b,c.up (QQ e)⟩,fun i ds a=>let ⟨p,xs,b,c,d,f⟩:=h.ow i ds a;⟨p,xs,b,c,e _ _ d,f.up (QQ e)⟩⟩
theorem RS.viewAll (h:RS D G0 A τ ρ G) (fv:List Nat):SH fv D G τ ρ:=fun i _ d hd=>by
 unfold vw at hd
 obtain ⟨s,e,hd⟩:=obb hd
 have less:Ex (rs (AD D A) G) (rs D G):=jM fun b z=>.inl z
 cases s with
 |un=>cases hd
 |sh d'=>
  cases hd
  obtain ⟨t,b,c⟩:=h.sh i _ e
  exact ⟨t,b,c.up less⟩
 |ow ds=>
  cases hd
  obtain ⟨p,xs,b,c,g,f⟩:=h.ow i _ e
  exact ⟨_,c,.lst (by rw [QS (h.nd b)];exact g) (f.up less)⟩
theorem RS.view (h:RS D G0 A τ ρ G) {fv:List Nat} (hn:∀ i∈fv,A i=none):SH fv (AD D A) G τ ρ:=fun i hi d hd=>by
 unfold vw at hd
 obtain ⟨s,e,hd⟩:=obb hd
 cases s with
 |un=>cases hd
 |sh d'=>
  cases hd
  exact h.sh i _ e
 |ow ds=>
  obtain ⟨p,xs,b,_⟩:=h.ow i _ e
  rw [hn i hi] at b;cases b
def Sl.dem:Sl->Sl
 |.ow ds=>.sh (.list ds)
 |s=>s
def dm:List Bool->Rho->Rho
 |b::m,s::r=>(match b with|true=>s.dem|false=>s)::dm m r
 |_,r=>r
def mkb (m:List Bool) (i:Nat):Bool:=(m[i]?).getD false
theorem qcd:∀ (m:List Bool) (ρ:Rho) (i:Nat),(dm m ρ)[i]?=(ρ[i]?).map fun s=>if mkb m i=true then s.dem else s
 |[],ρ,i=>by simp [dm,mkb]
 |b::m,[],i=>by simp [dm]
 |b::m,s::r,0=>by cases b<;>simp [dm,mkb]
 |b::m,s::r,i+1=>by
  have:=qcd m r i
  simp only [dm,getElem?_cons_succ,mkb] at this ⊢
  exact this
theorem qoT (s:Sl):s.dem.d=s.d:=by cases s<;>rfl
theorem qpV (m:List Bool) (ρ:Rho) (i:Nat):vw (dm m ρ) i=vw ρ i:=by
 unfold vw
 rw [qcd]
 cases ρ[i]? with
 |none=>rfl
 |some s=>
  simp only [Option.map_some,Option.bind_some]
  split
  ·exact qoT s
  ·rfl
theorem qgP:∀ (m:List Bool) (ρ:Rho),(dm m ρ).length=ρ.length
 |[],ρ=>rfl
 |b::m,[]=>rfl
 |b::m,s::r=>by simp [dm,qgP m r]
def Ad (m:List Bool) (A:Nat->Option Addr):Nat->Option Addr:=fun i=>if mkb m i=true then none else A i
theorem CK {m:List Bool} {i:Nat} {p:Addr} (h:Ad m A i=some p):A i=some p/\mkb m i=false:=by
 unfold Ad at h
 split at h
 ·cases h
 ·rename_i n;exact ⟨h,by simpa using n⟩
theorem RS.dem (h:RS D G0 A τ ρ G) (m:List Bool):RS D G0 (Ad m A) τ (Pu.dm m ρ) G:=by
 have less:Ex (rs (AD D A) G) (rs (AD D (Ad m A)) G):=jM fun b z=>by
  rcases z with z|⟨i,z⟩
  ·exact .inl z
  ·exact .inr ⟨i,(CK z).1⟩
 refine ⟨h.ex,h.dm,fun i p e=>h.fr i p (CK e).1,fun i p e=>h.da i p (CK e).1,fun i j p a b=>h.inj i j p (CK a).1 (CK b).1,by rw [qgP];exact h.len,fun i d e=>?_,fun i ds e=>?_⟩
 ·rw [qcd] at e
  obtain ⟨s,e1,e2⟩:=Option.map_eq_some_iff.mp e
  cases s with
  |un=>split at e2<;>cases e2
  |sh d'=>
   have:d'=d:=by split at e2<;>(cases e2;rfl)
   subst this
   obtain ⟨t,b,c⟩:=h.sh i _ e1
   exact ⟨t,b,c.up less⟩
  |ow ds=>
   split at e2
   ·rename_i hm
    cases e2
    obtain ⟨p,xs,b,c,g,f⟩:=h.ow i _ e1
    refine ⟨_,c,.lst ?_ (f.up less)⟩
    rw [QS]
    ·exact g
    ·rintro (z|⟨j,z⟩)
     ·exact h.nd b z
     ·have:=h.inj i j p b (CK z).1
      subst this
      rw [(CK z).2] at hm;cases hm
   ·cases e2
 ·rw [qcd] at e
  obtain ⟨s,e1,e2⟩:=Option.map_eq_some_iff.mp e
  cases s with
  |un=>split at e2<;>cases e2
  |sh d'=>split at e2<;>cases e2
  |ow ds'=>
   split at e2
   ·cases e2
   ·rename_i hm
    cases e2
    obtain ⟨p,xs,b,c,g,f⟩:=h.ow i _ e1
    exact ⟨p,xs,by unfold Ad;rw [if_neg hm];exact b,c,g,f.up less⟩
theorem RS.viewD (h:RS D G0 A τ ρ G) {m:List Bool} {fv:List Nat} (hm:Tru (fv.all (mkb m))):SH fv (AD D (Ad m A)) G τ ρ:=by
 have:=(h.dem m).view (fv:=fv) fun i hi=>by unfold Ad;rw [if_pos (List.all_eq_true.mp hm.h i hi)]
 intro i hi d hd
 exact this i hi d (by rw [qpV];exact hd)
def Er (A:Nat->Option Addr) (i:Nat):Nat->Option Addr:=fun j=>if j=i then none else A j
theorem CZ {i j:Nat} {p:Addr} (h:Er A i j=some p):A j=some p/\j≠i:=by
 unfold Er at h
 split at h
 ·cases h
 ·rename_i n;exact ⟨h,n⟩
theorem RS.put (h:RS D G0 A τ ρ G) (i:Nat) {x:T} {d:PyData} (hx:Dq (rs (AD D A) G) x d):RS D G0 (Er A i) (τ.set i (some x)) (ρ.set i (.sh d)) G:=by
 have less:Ex (rs (AD D A) G) (rs (AD D (Er A i)) G):=jM fun b z=>by
  rcases z with z|⟨j,z⟩
  ·exact .inl z
  ·exact .inr ⟨j,(CZ z).1⟩
 refine ⟨h.ex,h.dm,fun j p e=>h.fr j p (CZ e).1,fun j p e=>h.da j p (CZ e).1,fun j k p a b=>h.inj j k p (CZ a).1 (CZ b).1,by simp [h.len],fun j e he=>?_,fun j ds e=>?_⟩
 ·rw [getElem?_set] at he ⊢
  split at he
  ·rename_i hj
   rw [if_pos hj]
   split at he
   ·rename_i hl
    cases he
    exact ⟨x,by rw [if_pos (by rw [← h.len];exact hl)],hx.up less⟩
   ·cases he
  ·rename_i hj
   rw [if_neg hj]
   obtain ⟨t,b,c⟩:=h.sh j _ he
   exact ⟨t,b,c.up less⟩
 ·rw [getElem?_set] at e ⊢
  split at e
  ·split at e<;>cases e
  ·rename_i hj
   rw [if_neg hj]
   obtain ⟨p,xs,b,c,g,f⟩:=h.ow j _ e
   exact ⟨p,xs,by unfold Er;rw [if_neg (fun z=>hj z.symm)];exact b,c,g,f.up less⟩
theorem RS.puts:∀ {ts:List (Nat×T)} {bs:List (Nat×PyData)} {A:Nat->Option Addr} {τ:St3} {ρ:Rho},RS D G0 A τ ρ G->Bd (rs (AD D A) G) ts bs->∃ A',RS D G0 A' (sets τ ts) (ZQ ρ bs) G
 |_,_,A,_,_,h,.nil=>⟨A,h⟩
 |_,_,A,_,_,h,.cons (i:=i) a b=>by
  unfold sets ZQ
  exact RS.puts (h.put i a) (b.up (jM fun b z=>by
   rcases z with z|⟨j,z⟩
   ·exact .inl z
   ·exact .inr ⟨j,(CZ z).1⟩))
theorem RS.putN (h:RS D G0 A τ ρ G) (i:Nat) {x:T} {d:PyData} {ds:List PyData} (hd:d=.list ds) (E:Ex G G') (hx:Nw (AD D A) G G' x d):RS D G0 (fun j=>if j=i then (match x with|.ref p=>some p|_=>none) else A j) (τ.set i (some x)) (ρ.set i (.ow ds)) G':=by
 rcases hx with hx|⟨p,xs,ds',rfl,e',gp,gp',hs⟩
 ·rw [hd] at hx;cases hx
 rw [hd] at e'
 cases e'
 have np:∀ {j q},A j=some q->q≠p:=fun e=>by rintro rfl;exact h.da _ _ e gp
 have X1:Ex (rs (AD D A) G) (rs (AD D (fun j=>if j=i then some p else A j)) G'):=fun b o e=>by
  obtain ⟨n,e⟩:=qT e
  rw [QS]
  ·exact E _ _ e
  ·rintro (z|⟨j,z⟩)
   ·exact n (.inl z)
   ·simp only at z
    split at z
    ·cases z;rw [gp] at e;cases e
    ·exact n (.inr ⟨j,z⟩)
 refine ⟨h.ex.trans E,h.dm,fun j q e=>?_,fun j q e=>?_,fun j k q a b=>?_,by simp [h.len],fun j e he=>?_,fun j es e=>?_⟩
 ·simp only at e
  split at e
  ·cases e
   cases z:G0 p with
   |none=>rfl
   |some o=>rw [h.ex _ _ z] at gp;cases gp
  ·exact h.fr j q e
 ·simp only at e
  split at e
  ·cases e;rw [gp'];simp
  ·exact (h.up E).da j q e
 ·simp only at a b
  split at a
  ·cases a
   split at b
   ·rename_i h1 h2;rw [h1,h2]
   ·exact absurd rfl (np b)
  ·split at b
   ·cases b;exact absurd rfl (np a)
   ·exact h.inj j k q a b
 ·rw [getElem?_set] at he ⊢
  split at he
  ·split at he<;>cases he
  ·rename_i hj
   rw [if_neg hj]
   obtain ⟨t,b,c⟩:=h.sh j _ he
   exact ⟨t,b,c.up X1⟩
 ·rw [getElem?_set] at e ⊢
  split at e
  ·rename_i hj
   subst hj
   split at e
   ·rename_i hl
    cases e
    refine ⟨p,xs,by simp,by rw [if_pos rfl,if_pos (by rw [← h.len];exact hl)],gp',hs.up (jM fun b z=>?_)⟩
    rcases z with z|⟨j,z⟩
    ·exact .inl (.inl z)
    ·simp only at z
     split at z
     ·cases z;exact .inr rfl
     ·exact .inl (.inr ⟨j,z⟩)
   ·cases e
  ·rename_i hj
   rw [if_neg hj]
   obtain ⟨q,ys,b,c,g,f⟩:=h.ow j _ e
   exact ⟨q,ys,by rw [if_neg (fun z=>hj z.symm)];exact b,c,E _ _ g,f.up X1⟩
theorem RS.wr (h:RS D G0 A τ ρ G) {i:Nat} {p:Addr} {xs:List T} {ds:List PyData} (hi:A i=some p) (ht:τ[i]?=some (some (.ref p))) (hs:Dqs (rs (AD D A) G) xs ds):RS D G0 A τ (ρ.set i (.ow ds)) (gu G p (.lst xs)):=by
 have X1:Ex (rs (AD D A) G) (rs (AD D A) (gu G p (.lst xs))):=fun b o e=>by
  obtain ⟨n,e⟩:=qT e
  rw [QS n,jF (by rintro rfl;exact n (.inr ⟨i,hi⟩))];exact e
 refine ⟨fun b o e=>?_,h.dm,h.fr,fun j q e=>?_,h.inj,by simp [h.len],fun j e he=>?_,fun j es e=>?_⟩
 ·rw [jF (by rintro rfl;rw [h.fr i _ hi] at e;cases e)];exact h.ex _ _ e
 ·by_cases z:q=p
  ·subst z;rw [qw];simp
  ·rw [jF z];exact h.da j q e
 ·rw [getElem?_set] at he
  split at he
  ·split at he<;>cases he
  ·obtain ⟨t,b,c⟩:=h.sh j _ he
   exact ⟨t,b,c.up X1⟩
 ·rw [getElem?_set] at e
  split at e
  ·rename_i hj
   subst hj
   split at e
   ·cases e
    exact ⟨p,xs,hi,ht,qw,hs.up X1⟩
   ·cases e
  ·rename_i hj
   obtain ⟨q,ys,b,c,g,f⟩:=h.ow j _ e
   exact ⟨q,ys,b,c,by rw [jF (by rintro rfl;exact hj (h.inj i j _ hi b))];exact g,f.up X1⟩
theorem RS.base {Gb:Gp} (h:RS D Gb A τ ρ G) (e:Ex G0 Gb) (hd:Dom D G0):RS D G0 A τ ρ G:=
 ⟨e.trans h.ex,hd,(fun i p a=>by
  cases z:G0 p with
  |none=>rfl
  |some o=>have:=h.fr i p a;rw [e _ _ z] at this;cases this),h.da,h.inj,h.len,h.sh,h.ow⟩
end
inductive Ot where
 |nx (ρ:Rho)|bk (ρ:Rho)|ct (ρ:Rho)|rt (d:PyData) (fr:Bool)
def qno (D:Addr->Prop) (G0:Gp) (e:Ends3):Ot->Prop
 |.nx ρ=>∀ A τ G,RS D G0 A τ ρ G->e.nx τ G
 |.bk ρ=>∀ A τ G,RS D G0 A τ ρ G->e.bk τ G
 |.ct ρ=>∀ A τ G,RS D G0 A τ ρ G->e.ct τ G
 |.rt d fr=>∀ x G,Ex G0 G->Dq (rs D G) x d->(fr=true->Nw D G0 G x d)->e.rt x G
theorem qno.base {D:Addr->Prop} {G0 Gb:Gp} {e:Ends3} {o:Ot} (h:qno D G0 e o) (x:Ex G0 Gb) (hd:Dom D G0):qno D Gb e o:=by
 cases o with
 |nx ρ=>exact fun A τ G r=>h A τ G (r.base x hd)
 |bk ρ=>exact fun A τ G r=>h A τ G (r.base x hd)
 |ct ρ=>exact fun A τ G r=>h A τ G (r.base x hd)
 |rt d fr=>exact fun y G a b c=>h y G (x.trans a) b fun z=>(c z).back x
structure PuS (t:TS3) where
 f:Nat->Rho->Option Ot
 ok:∀ {D G0 A τ ρ G n o} {e:Ends3},RS D G0 A τ ρ G->f n ρ=some o->qno D G0 e o->t e τ G
def CI:PuS qt:=⟨fun _ ρ=>some (.nx ρ),fun h hf k=>by cases hf;exact k _ _ _ h⟩
def qq0:PuS UK:=⟨fun _ ρ=>none,fun h hf k=>by cases hf⟩
def qn2 (a b:Nat->Rho->Option Ot) (n:Nat) (ρ:Rho):Option Ot:=(a n ρ).bind fun o=>match o with|.nx ρ'=>b n ρ'|o=>some o
def DY {t u:TS3} (a:PuS t) (b:PuS u):PuS (qv t u):=⟨qn2 a.f b.f,fun {D G0 A τ ρ G n o e} h hf k=>by
 unfold qn2 at hf
 obtain ⟨o1,e1,hf⟩:=obb hf
 refine a.ok h e1 ?_
 cases o1 with
 |nx ρ'=>exact fun A' τ' G' h'=>b.ok h' hf k
 |bk ρ'=>cases hf;exact k
 |ct ρ'=>cases hf;exact k
 |rt d fr=>cases hf;exact k⟩
def sIf {c:TT3} {t u:TS3} (pc:PuC c) (a:PuS t) (b:PuS u):PuS (qV c t u):=⟨fun n ρ=>(pc.f ρ).bind fun k=>if k then a.f n ρ else b.f n ρ,fun h hf k=>by
 obtain ⟨o1,e1,hf⟩:=obb hf
 refine pc.ok (h.viewAll _) h.domD e1 fun G1 E1=>?_
 cases o1 with
 |true=>exact a.ok (h.up E1) hf k
 |false=>exact b.ok (h.up E1) hf k⟩
def C6 {t:TE3} (a:PuE t):PuS (qB t):=⟨fun _ ρ=>(a.f ρ).map fun d=>.rt d a.nw,fun h hf k=>by
 obtain ⟨d,e1,rfl⟩:=Option.map_eq_some_iff.mp hf
 exact a.ok (h.viewAll _) h.domD e1 fun x G1 E1 D1 N1=>k x G1 (h.ex.trans E1) D1 fun z=>(N1 z).back h.ex⟩
def qhn (ρ:Rho) (i:Nat):Option Ot:=match ρ[i]? with|some (.ow ds)=>some (.rt (.list ds) true)|some (.sh d)=>some (.rt d false)|_=>none
def qdY (i:Nat):PuS (qB (v3 i)):=⟨fun _ ρ=>qhn ρ i,fun h hf k=>by
 unfold qhn at hf
 split at hf
 ·rename_i ds e
  cases hf
  obtain ⟨p,xs,b,c,g,f⟩:=h.ow i _ e
  simp only [qB,v3,c]
  refine k _ _ h.ex (.lst (by rw [QS (h.nd b)];exact g) (f.up (jM fun b z=>.inl z))) fun _=>.inr ⟨p,xs,ds,rfl,rfl,h.fr i p b,g,f.up (jM fun q z=>?_)⟩
  rcases z with z|z
  ·exact .inl z
  ·subst z;exact .inr ⟨i,b⟩
 ·rename_i d e
  cases hf
  obtain ⟨t,b,c⟩:=h.sh i _ e
  simp only [qB,v3,b]
  exact k _ _ h.ex (c.up (jM fun b z=>.inl z)) (fun z=>by cases z)
 ·cases hf⟩
def qeY:PyData->Bool
 |.none=>true|.bool _=>true|.int _=>true|.str _=>true|_=>false
theorem XI {H H':Gp} {x:T} {d:PyData} (h:Dq H x d) (s:qeY d=true):Dq H' x d:=by
 cases h<;>first|(constructor;done)|(simp [qeY] at s;done)
def qq1:PyData->Sl
 |.list ds=>.ow ds
 |d=>.sh d
def qbv (m:List Bool) (nw:Bool) (i:Nat) (d:PyData) (ρ:Rho):Rho:=if qeY d then ρ.set i (.sh d) else (dm m ρ).set i (if nw then qq1 d else .sh d)
def qdy {t:TE3} (a:PuE t) (i:Nat) (m:List Bool) (hm:Tru (a.fv.all (mkb m))):PuS (qH t (gn3 i)):=⟨fun _ ρ=>(a.f ρ).map fun d=>.nx (qbv m a.nw i d ρ),fun {D G0 A τ ρ G n o e} h hf k=>by
 obtain ⟨d,e1,rfl⟩:=Option.map_eq_some_iff.mp hf
 refine a.ok (h.viewD hm) (h.dem m).dom e1 fun x G1 E1 D1 N1=>?_
 unfold qbv at k
 show e.nx (τ.set i (some x)) G1
 split at k
 ·rename_i hs
  exact k _ _ _ ((h.up E1).put i (XI D1 hs))
 ·split at k
  ·rename_i hn
   have N:=N1 hn
   rcases id N with h2|⟨p,xs,ds,h1,h2,_⟩
   ·subst h2;rename_i hs;exact absurd rfl hs
   subst h2
   exact k _ _ _ ((h.dem m).putN i rfl E1 N)
  ·exact k _ _ _ (((h.dem m).up E1).put i D1)⟩
def qbj {t:TE3} {g:TG3} (a:PuE t) (pg:PuG g) (m:List Bool) (hm:Tru (a.fv.all (mkb m))):PuS (qH t g):=⟨fun _ ρ=>(a.f ρ).bind fun d=>(pg.f d).map fun bs=>.nx (ZQ (dm m ρ) bs),fun {D G0 A τ ρ G n o e} h hf k=>by
 obtain ⟨d,e1,hf⟩:=obb hf
 obtain ⟨bs,e2,rfl⟩:=Option.map_eq_some_iff.mp hf
 refine a.ok (h.viewD hm) (h.dem m).dom e1 fun x G1 E1 D1 N1=>?_
 obtain ⟨ts,bd,kg⟩:=pg.ok D1 e2
 refine kg _ _ _ ?_
 obtain ⟨A',h'⟩:=((h.dem m).up E1).puts bd
 exact k _ _ _ h'⟩
def qfM (i j:Nat) (m:List Bool) (ds:List PyData) (ρ:Rho):Option Ot:=match ds with
 |[d,e]=>if qeY d&&qeY e then some (.nx ((ρ.set i (.sh d)).set j (.sh e))) else some (.nx (((dm m ρ).set i (.sh d)).set j (.sh e)))
 |_=>none
theorem qhu {D:Addr->Prop} {A:Nat->Option Addr} {G:Gp} {i:Nat}:Ex (rs (AD D A) G) (rs (AD D (Er A i)) G):=jM fun b z=>by
 rcases z with z|⟨j,z⟩
 ·exact .inl z
 ·exact .inr ⟨j,(CZ z).1⟩
def qqk {t:TA3} (a:PuA t) (i j:Nat) (m:List Bool) (hm:Tru (a.fv.all (mkb m))):PuS (j7 i j t):=⟨fun _ ρ=>(a.f ρ).bind fun ds=>qfM i j m ds ρ,fun {D G0 A τ ρ G n o e} h hf k=>by
 obtain ⟨ds,e1,hf⟩:=obb hf
 refine a.ok (h.viewD hm) (h.dem m).dom e1 fun x G1 E1 D1=>?_
 unfold qfM at hf
 split at hf
 ·cases D1 with
  |cons a b=>cases b with
   |cons b c=>
    cases c
    split at hf
    ·rename_i hs
     cases hf
     rw [Bool.and_eq_true] at hs
     exact k _ _ _ (((h.up E1).put i (XI a hs.1)).put j (XI b hs.2))
    ·cases hf
     exact k _ _ _ ((((h.dem m).up E1).put i a).put j (b.up qhu))
 ·cases hf⟩
def slot (ρ:Rho) (i:Nat):Option (List PyData):=match ρ[i]? with|some (.ow ds)=>some ds|_=>none
theorem qhY {ρ:Rho} {i:Nat} {ds:List PyData} (h:slot ρ i=some ds):ρ[i]?=some (.ow ds):=by
 unfold slot at h
 split at h
 ·rename_i e;cases h;exact e
 ·cases h
def dmS (m:List Bool) (d:PyData) (ρ:Rho):Rho:=if qeY d then ρ else dm m ρ
theorem RS.evalS {D:Addr->Prop} {G0 G:Gp} {A:Nat->Option Addr} {τ:St3} {ρ:Rho} (h:RS D G0 A τ ρ G) {t:TE3} (a:PuE t) (m:List Bool) (hm:Tru (a.fv.all (mkb m))) {d:PyData} (hf:a.f ρ=some d):∃ A1,RS D G0 A1 τ (dmS m d ρ) G/\∀ q:Q3,(∀ x G',Ex G G'->Dq (rs (AD D A1) G') x d->q x G')->t τ G q:=by
 unfold dmS
 by_cases hs:qeY d=true
 ·rw [if_pos hs]
  exact ⟨A,h,fun q k=>a.ok (h.viewAll _) h.domD hf fun x G1 E1 D1 _=>k x G1 E1 (XI D1 hs)⟩
 ·rw [if_neg hs]
  exact ⟨Ad m A,h.dem m,fun q k=>a.ok (h.viewD hm) (h.dem m).dom hf fun x G1 E1 D1 _=>k x G1 E1 D1⟩
def qkj (i:Nat) (d:PyData) (ρ:Rho):Option Ot:=match d with|.list es=>(slot ρ i).bind fun ds=>cif (ds.length+es.length<=sizeLine) (some (.nx (ρ.set i (.ow (ds++es))))) none|_=>none
def qpE {t:TE3} (a:PuE t) (i:Nat) (m:List Bool) (hm:Tru (a.fv.all (mkb m))):PuS (zE (bm3 YW (v3 i) (qc t qh))):=⟨fun _ ρ=>(a.f ρ).bind fun d=>qkj i d (dmS m d ρ),fun {D G0 A τ ρ G n o e} h hf k=>by
 obtain ⟨d,e1,hf⟩:=obb hf
 obtain ⟨A1,h1,ev⟩:=h.evalS a m hm e1
 unfold qkj at hf
 split at hf
 ·obtain ⟨ds,e2,hf⟩:=obb hf
  unfold cif at hf
  split at hf
  ·rename_i hl
   cases hf
   obtain ⟨p,xs,b,c,g,f⟩:=h1.ow i _ (qhY e2)
   simp only [zE,bm3,v3,c,jx g]
   refine ⟨rfl,ev _ fun x G1 E1 D1=>?_⟩
   cases D1 with
   |lst g2 hs2=>
    simp only [qh,YW,E1 _ _ g,(qT g2).2]
    exact ⟨by rw [f.length,hs2.length];exact hl,k _ _ _ ((h1.up E1).wr b c ((f.up (QQ E1)).append hs2))⟩
  ·cases hf
 ·cases hf⟩
def KO (gf:PyData->Option (List (Nat×PyData))) (bf:Rho->Option Ot):List PyData->Rho->Option Ot
 |[],ρ=>some (.nx ρ)
 |d::r,ρ=>(gf d).bind fun bs=>(bf (ZQ ρ bs)).bind fun o=>match o with
  |.nx ρ'=>KO gf bf r ρ'
  |.ct ρ'=>KO gf bf r ρ'
  |.bk ρ'=>some (.nx ρ')
  |.rt d b=>some (.rt d b)
theorem NZ {stay:Gp->Prop} {g:TG3} {tb:TS3} {e:Ends3} (pg:PuG g) (pb:PuS tb) {D:Addr->Prop} {G0:Gp} {n:Nat} {o:Ot} {items0:List T} (hs:∀ A τ ρ G,RS D G0 A τ ρ G->stay G) (k:qno D G0 e o) :
  ∀ (ds:List PyData) (items:List T),(∀ A τ ρ G,RS D G0 A τ ρ G->Dqs (rs (AD D A) G) items ds)->∀ A τ ρ G,RS D G0 A τ ρ G->KO pg.f (pb.f n) ds ρ=some o->T3 stay g tb e items τ G
 |[],items,hi,A,τ,ρ,G,h,hf=>by
  cases hf
  have:=hi _ _ _ _ h
  cases this
  exact ⟨hs _ _ _ _ h,k _ _ _ h⟩
 |d::ds,items,hi,A,τ,ρ,G,h,hf=>by
  have hh:=hi _ _ _ _ h
  cases hh with
  |cons hx hr=>
   rename_i x items
   unfold KO at hf
   obtain ⟨bs,e1,hf⟩:=obb hf
   obtain ⟨o1,e2,hf⟩:=obb hf
   obtain ⟨ts,bd,kg⟩:=pg.ok hx e1
   refine ⟨hs _ _ _ _ h,kg _ _ _ ?_⟩
   obtain ⟨A',h'⟩:=h.puts bd
   refine pb.ok h' e2 ?_
   have hi':∀ A τ ρ G,RS D G0 A τ ρ G->Dqs (rs (AD D A) G) items ds:=fun A τ ρ G h=>by
    have:=hi _ _ _ _ h
    cases this with
    |cons a b=>exact b
   cases o1 with
   |nx ρ'=>exact fun A2 τ2 G2 h2=>NZ (items0:=items0) pg pb hs k ds items hi' _ _ _ _ h2 hf
   |ct ρ'=>exact fun A2 τ2 G2 h2=>NZ (items0:=items0) pg pb hs k ds items hi' _ _ _ _ h2 hf
   |bk ρ'=>cases hf;exact k
   |rt d fr=>cases hf;exact k
def qnZ (pi:Rho->Option (List PyData)) (nm:Bool) (m:List Bool) (gf:PyData->Option (List (Nat×PyData))) (bf:Nat->Rho->Option Ot) (n:Nat) (ρ:Rho):Option Ot:=(pi ρ).bind fun ds=>KO gf (bf n) ds (if nm then ρ else dm m ρ)
def qmo {wi:TI3} {g:TG3} {tb:TS3} (pi:PuI wi) (pg:PuG g) (pb:PuS tb) (m:List Bool) (hm:Tru (pi.fv.all (mkb m))):PuS (RU wi g tb):=⟨qnZ pi.f pi.nm m pg.f pb.f,fun {D G0 A τ ρ G n o e} h hf k=>by
 unfold qnZ at hf
 obtain ⟨ds,e1,hf⟩:=obb hf
 refine pi.ok (h.viewD hm) (h.dem m).dom e1 fun items stay G1 E1 D1 hs hnm=>?_
 cases hb:pi.nm with
 |true=>
  rw [hb,if_pos rfl] at hf
  obtain ⟨ns,rfl⟩:=hnm hb
  have:=D1.ints
  subst this
  exact NZ (items0:=[]) pg pb (fun _ _ _ _ _=>hs _ (.inl hb)) k _ _ (fun A τ ρ G _=>Dqs.ofInts _) _ _ _ _ (h.up E1) hf
 |false=>
  rw [hb,if_neg Bool.false_ne_true] at hf
  have h1:=(h.dem m).up E1
  have b1:Ex G0 (rs (fun b=>∃ i,Ad m A i=some b) G1):=fun b o e=>by
   rw [QS]
   ·exact h1.ex _ _ e
   ·rintro ⟨i,z⟩;rw [h1.fr i _ z] at e;cases e
  have h2:RS D (rs (fun b=>∃ i,Ad m A i=some b) G1) (Ad m A) τ (dm m ρ) G1:=⟨ET,h.dm.up b1,fun i p z=>by unfold rs;exact jd ⟨i,z⟩,h1.da,h1.inj,h1.len,h1.sh,h1.ow⟩
  have X:∀ A2 τ2 ρ2 G2,RS D (rs (fun b=>∃ i,Ad m A i=some b) G1) A2 τ2 ρ2 G2->Ex (rs (AD D (Ad m A)) G1) (rs (AD D A2) G2):=fun A2 τ2 ρ2 G2 r b o e=>by
   obtain ⟨n1,e⟩:=qT e
   have eb:rs (fun b=>∃ i,Ad m A i=some b) G1 b=some o:=by rw [QS (fun z=>n1 (.inr z))];exact e
   rw [QS]
   ·exact r.ex _ _ eb
   ·rintro (z|⟨i,z⟩)
    ·exact n1 (.inl z)
    ·rw [r.fr i _ z] at eb;cases eb
  exact NZ (items0:=[]) pg pb (fun A2 τ2 ρ2 G2 r=>hs _ (.inr ((X _ _ _ _ r).trans ET))) (k.base b1 h.dm) _ _ (fun A2 τ2 ρ2 G2 r=>D1.up (X _ _ _ _ r)) _ _ _ _ h2 hf⟩
def whP (cf:Rho->Option Bool) (bf:Rho->Option Ot):Nat->Rho->Option Ot
 |0,_=>none
 |n+1,ρ=>(cf ρ).bind fun k=>if k then (bf ρ).bind fun o=>match o with
   |.nx ρ'=>whP cf bf n ρ'
   |.ct ρ'=>whP cf bf n ρ'
   |.bk ρ'=>some (.nx ρ')
   |.rt d b=>some (.rt d b)
  else some (.nx ρ)
def sWh {c:TT3} {tb:TS3} (pc:PuC c) (pb:PuS tb):PuS (XM c tb):=⟨fun n ρ=>whP pc.f (pb.f n) n ρ,fun {D G0 A τ ρ G n o e} h hf k=>by
 refine ⟨fun m τ G=>∃ A ρ,RS D G0 A τ ρ G/\whP pc.f (pb.f n) m ρ=some o,⟨n,A,ρ,h,hf⟩,?_⟩
 rintro m τ G ⟨A,ρ,h,hf⟩
 cases m with
 |zero=>cases hf
 |succ m=>
  unfold whP at hf
  obtain ⟨b,e1,hf⟩:=obb hf
  refine pc.ok (h.viewAll _) h.domD e1 fun G1 E1=>?_
  cases b with
  |true=>
   rw [if_pos rfl] at hf ⊢
   obtain ⟨o1,e2,hf⟩:=obb hf
   cases o1 with
   |nx ρ'=>exact ⟨fun τ' G'=>∃ A',RS D G0 A' τ' ρ' G',fun τ' G' ⟨A',h'⟩=>⟨m,by omega,A',ρ',h',hf⟩,pb.ok (h.up E1) e2 fun A' τ' G' h'=>⟨A',h'⟩⟩
   |ct ρ'=>exact ⟨fun τ' G'=>∃ A',RS D G0 A' τ' ρ' G',fun τ' G' ⟨A',h'⟩=>⟨m,by omega,A',ρ',h',hf⟩,pb.ok (h.up E1) e2 fun A' τ' G' h'=>⟨A',h'⟩⟩
   |bk ρ'=>cases hf;exact ⟨fun _ _=>False,fun _ _ z=>z.elim,pb.ok (h.up E1) e2 k⟩
   |rt d fr=>cases hf;exact ⟨fun _ _=>False,fun _ _ z=>z.elim,pb.ok (h.up E1) e2 k⟩
  |false=>
   cases hf
   rw [if_neg Bool.false_ne_true]
   exact k _ _ _ (h.up E1)⟩
def WP (fr:Bool):Option Ot->Option PyData
 |some (.rt d b)=>if fr=true/\b=false then (match d with|.none=>some .none|_=>none) else some d
 |some (.nx _)=>if fr then none else some .none
 |_=>none
def st (ds:List PyData) (N:Nat):Rho:=ds.map Sl.sh++List.replicate (N-ds.length) .un
def run (f:Nat->Rho->Option Ot) (k N n:Nat) (fr:Bool) (ds:List PyData):Option PyData:=if ds.length=k then WP fr (f n (st ds N)) else none
theorem jm {t:TS3} (b:PuS t) (N:List Str) (k n:Nat) (fr:Bool):∀ ts G q,PSp (run b.f k N.length n fr) fr ts G q->ts.length=k/\t { nx:=fun _ G'=>q .non G',rt:=q } (qk N ts) G:=by
 rintro ts G q ⟨D,ds,d,hs,hd,hf,h⟩
 unfold run at hf
 split at hf
 ·rename_i hk
  refine ⟨by rw [hs.length];exact hk,?_⟩
  have r:RS D G (fun _=>none) (qk N ts) (st ds N.length) G:=by
   refine ⟨Ex.refl,hd,(fun i p e=>by cases e),(fun i p e=>by cases e),(fun i j p e=>by cases e),(by simp [st,qk,hs.length]),fun i d' e=>?_,fun i es e=>?_⟩
   ·unfold st at e
    unfold qk
    by_cases hi:i<ds.length
    ·rw [List.getElem?_append_left (by simpa using hi),getElem?_map] at e
     obtain ⟨d2,e3,e4⟩:=Option.map_eq_some_iff.mp e
     cases e4
     obtain ⟨x,e5,hx⟩:=hs.get e3
     refine ⟨x,?_,hx.up (jM fun b z=>?_)⟩
     ·rw [List.getElem?_append_left (by simp [hs.length];exact hi),getElem?_map,e5];rfl
     ·rcases z with z|⟨i,z⟩
      ·exact z
      ·cases z
    ·rw [List.getElem?_append_right (by simpa using hi),List.getElem?_replicate] at e
     split at e<;>cases e
   ·unfold st at e
    by_cases hi:i<ds.length
    ·rw [List.getElem?_append_left (by simpa using hi),getElem?_map] at e
     obtain ⟨d2,e3,e4⟩:=Option.map_eq_some_iff.mp e
     cases e4
    ·rw [List.getElem?_append_right (by simpa using hi),List.getElem?_replicate] at e
     split at e<;>cases e
  unfold WP at hf
  split at hf
  ·rename_i d' b' e
   split at hf
   ·split at hf
    ·cases hf
     exact b.ok r e fun x G' a c z=>h x G' a c fun _=>.inl rfl
    ·cases hf
   ·rename_i hb
    cases hf
    exact b.ok r e fun x G' a c z=>h x G' a c fun w=>z (by
     cases b' with
     |true=>rfl
     |false=>exact absurd ⟨w,rfl⟩ hb)
  ·rename_i ρ' e
   split at hf
   ·cases hf
   ·rename_i hb
    cases hf
    exact b.ok r e fun A τ G' r'=>h .non G' r'.ex .non fun w=>absurd w hb
  ·cases hf
 ·cases hf
mutual
def tD:T->Option PyData
 |.non=>some .none|.bl b=>some (.bool b)|.int i=>some (.int i)|.str x=>some (.str x)|.tup xs=>(tDs xs).map .tuple|.ref _=>none
def tDs:List T->Option (List PyData)
 |[]=>some []
 |x::r=>(tD x).bind fun d=>(tDs r).map (d::·)
end
mutual
theorem qmx {G:Gp}:∀ (t:T) {d:PyData},tD t=some d->Dq G t d
 |.non,_,h=>by cases h;exact .non
 |.bl b,_,h=>by cases h;exact .bl b
 |.int b,_,h=>by cases h;exact .int b
 |.str b,_,h=>by cases h;exact .str b
 |.tup xs,_,h=>by
  unfold tD at h
  obtain ⟨ds,e,rfl⟩:=Option.map_eq_some_iff.mp h
  exact .tup (qf7 xs e)
 |.ref _,_,h=>by cases h
theorem qf7 {G:Gp}:∀ (t:List T) {d:List PyData},tDs t=some d->Dqs G t d
 |[],_,h=>by cases h;exact .nil
 |x::r,_,h=>by
  unfold tDs at h
  obtain ⟨d,e,h⟩:=obb h
  obtain ⟨ds,e2,rfl⟩:=Option.map_eq_some_iff.mp h
  exact .cons (qmx x e) (qf7 r e2)
end
def asS:PyData->Option Str
 |.str s=>some s
 |_=>none
theorem qeG {d:PyData} {b:Str} (h:asS d=some b):d=.str b:=by cases d<;>simp [asS] at h;subst h;rfl
def qkl (tab:List (Str×T)) {te:TE3} (a:PuE te):PuE (qd9 tab te):=⟨fun ρ=>((a.f ρ).bind asS).bind fun s=>(jU tab s).bind tD,a.fv,false,fun hv hd hf k=>by
 obtain ⟨s,e1,hf⟩:=obb hf
 obtain ⟨d,e1,e2⟩:=obb e1
 have:=qeG e2;subst this
 obtain ⟨t,e3,hf⟩:=obb hf
 refine a.ok hv hd e1 fun x' G1 E1 D1 _=>?_
 cases D1
 simp only [e3]
 exact k _ _ E1 (qmx t hf) (fun z=>by cases z)⟩
def qet:List Str->List PyData->Str->Option PyData
 |k::ks,x::xs,s=>if k=s then some x else qet ks xs s
 |_,_,_=>none
theorem qcN {G:Gp}:∀ (ks:List Str) {xs:List T} {ds:List PyData} {s:Str} {d:PyData},Dqs G xs ds->qet ks ds s=some d->∃ x,jU (ks.zip xs) s=some x/\Dq G x d
 |[],_,_,_,_,_,h=>by simp [qet] at h
 |k::ks,_,_,_,_,.nil,h=>by simp [qet] at h
 |k::ks,_,_,s,d,.cons a b,h=>by
  unfold qet at h
  simp only [List.zip_cons_cons,jU]
  split at h
  ·rename_i e
   cases h
   exact ⟨_,by rw [if_pos e],a⟩
  ·rename_i e
   obtain ⟨x,h1,h2⟩:=qcN ks b h
   exact ⟨x,by rw [if_neg e];exact h1,h2⟩
def qk5 (ks:List Str) {t:TA3} {te:TE3} (a:PuA t) (b:PuE te):PuE (qhj ks t te):=⟨fun ρ=>(a.f ρ).bind fun ds=>((b.f ρ).bind asS).bind fun s=>qet ks ds s,a.fv++b.fv,false,fun hv hd hf k=>by
 obtain ⟨ds,e1,hf⟩:=obb hf
 obtain ⟨s,e2,hf⟩:=obb hf
 obtain ⟨d,e2,e3⟩:=obb e2
 have:=qeG e3;subst this
 refine a.ok hv.l hd e1 fun xs G1 E1 D1=>b.ok (hv.r.up E1) (hd.up E1) e2 fun y G2 E2 D2 _=>?_
 cases D2
 obtain ⟨x,h1,h2⟩:=qcN ks (D1.up (QQ E2)) hf
 simp only [h1]
 exact k _ _ (E1.trans E2) h2 (fun z=>by cases z)⟩
theorem qqu {i:Nat}:(bV i).f=fun ρ=>vw ρ i:=id rfl
theorem qgb {i:Int}:(jH i).f=fun _=>some (.int i):=id rfl
theorem qjO {i:Bool}:(bBl i).f=fun _=>some (.bool i):=id rfl
theorem qf5 {i:Str}:(qfl i).f=fun _=>some (.str i):=id rfl
theorem qfb:qiZ.f=fun _=>some .none:=id rfl
theorem qqB {r:R3} {ta tb:TE3} {R:OpD r} {a:PuE ta} {b:PuE tb}:(bO R a b).f=fun ρ=>(a.f ρ).bind fun x=>(b.f ρ).bind fun y=>R.f x y:=id rfl
theorem qfm:zk.f=fun _=>some []:=id rfl
theorem qdr {ta:TE3} {tr:TA3} {a:PuE ta} {r:PuA tr}:(qm a r).f=fun ρ=>(a.f ρ).bind fun x=>(r.f ρ).bind fun xs=>some (x::xs):=id rfl
theorem qfC {t:TA3} {a:PuA t} {hn:Tru (Nat.ble a.n 1000)}:(MA a hn).f=fun ρ=>(a.f ρ).map .tuple:=id rfl
theorem qgh {t:TA3} {a:PuA t} {hn:Tru (Nat.ble a.n 1000)}:(qiV a hn).f=fun ρ=>(a.f ρ).map .list:=id rfl
theorem qb7 {r:List T->Gp->Q3->Prop} {t:TA3} {R:FnD r} {a:PuA t}:(za R a).f=fun ρ=>(a.f ρ).bind R.f:=id rfl
theorem ql9 {t:TE3} {a:PuE t}:(bTb a).f=fun ρ=>(a.f ρ).bind asB:=id rfl
theorem qgj {t u:TT3} {a:PuC t} {b:PuC u}:(qqa a b).f=fun ρ=>(a.f ρ).bind fun k=>if k then b.f ρ else some false:=id rfl
theorem qmX {t u:TT3} {a:PuC t} {b:PuC u}:(bOr a b).f=fun ρ=>(a.f ρ).bind fun k=>if k then some true else b.f ρ:=id rfl
theorem qgR {t:TT3} {a:PuC t}:(qk6 a).f=fun ρ=>(a.f ρ).map (! ·):=id rfl
theorem qjg:bTt.f=fun _=>some true:=id rfl
theorem qcV {ta tb:TE3} {a:PuE ta} {b:PuE tb}:(KR a b).f=fun ρ=>((a.f ρ).bind asB).bind fun k=>if k then b.f ρ else some (.bool false):=id rfl
theorem qcP {ta:TE3} {a:PuE ta}:(qi2 a).f=fun ρ=>((a.f ρ).bind asB).map fun k=>.bool (!k):=id rfl
theorem qgo {ta:TE3} {a:PuE ta}:(qlT a).f=fun ρ=>((a.f ρ).bind asI).map fun i=>.int (-i):=id rfl
theorem qmH {r r':R3} {ta tb tc:TE3} {R:OpD r} {R':OpD r'} {a:PuE ta} {b:PuE tb} {c:PuE tc}:(bCh R R' a b c).f=fun ρ=>(a.f ρ).bind fun x=>(b.f ρ).bind fun y=>((R.f x y).bind asB).bind fun k=>if k then (c.f ρ).bind fun z=>R'.f y z else some (.bool false):=id rfl
theorem qfX {ta:TE3} {g:String->Bool} {a:PuE ta}:(qnQ g a).f=fun ρ=>(a.f ρ).bind fun d=>(tyD d).map fun t=>.bool (g t):=id rfl
theorem qm7:bNp.f=fun _=>some none:=id rfl
theorem qla {t:TE3} {a:PuE t}:(bSp a).f=fun ρ=>((a.f ρ).bind asI).map some:=id rfl
theorem qlo {te:TE3} {tl th:TO3} {a:PuE te} {l:PuO tl} {h:PuO th}:(bSl a l h).f=fun ρ=>(a.f ρ).bind fun d=>(l.f ρ).bind fun lo=>(h.f ρ).bind fun hi=>slD d lo hi:=id rfl
theorem qbV {te:TE3} {a:PuE te}:(qht a).f=fun ρ=>(a.f ρ).bind NY:=id rfl
theorem qbH {tab:List (Str×T)} {te:TE3} {a:PuE te}:(qkl tab a).f=fun ρ=>((a.f ρ).bind asS).bind fun s=>(jU tab s).bind tD:=id rfl
theorem qcq {ks:List Str} {t:TA3} {te:TE3} {a:PuA t} {b:PuE te}:(qk5 ks a b).f=fun ρ=>(a.f ρ).bind fun ds=>((b.f ρ).bind asS).bind fun s=>qet ks ds s:=id rfl
theorem qjm {wi:TI3} {g:TG3} {tif:TT3} {te:TE3} {pi:PuI wi} {pg:PuG g} {pc:PuC tif} {pe:PuE te} {m:List (Option Nat)} {hm:Tru (pg.tg.all fun i=>m[i]?==some none)}:(bLc pi pg pc pe m hm).f=lcF pi.f (lcH pg.f pc.f pe.f) m:=id rfl
theorem qgU {wi wi2:TI3} {g g2:TG3} {tif tif2:TT3} {te:TE3} {pi:PuI wi} {pg:PuG g} {pc:PuC tif} {pi2:PuI wi2} {pg2:PuG g2} {pc2:PuC tif2} {pe:PuE te} {m:List (Option Nat)} {hm:Tru (pg.tg.all fun i=>m[i]?==some none)} {hm2:Tru (pg2.tg.all fun i=>m[i]?==some none)} {hdj:Tru (pg2.tg.all fun i=>!pg.tg.contains i)}:(qol pi pg pc pi2 pg2 pc2 pe m hm hm2 hdj).f=qmm pi.f (qks pg.f pc.f pi2.f (lcH pg2.f pc2.f pe.f)) m:=id rfl
theorem qe8:qe4.f=qhe:=id rfl
theorem qeH:qn5.f=qnT:=id rfl
theorem qgd:qn1.f=qn7:=id rfl
theorem qfV:qqw.f=qlZ:=id rfl
theorem qbB:qhT.f=mnD:=id rfl
theorem qcT:qhX.f=mxD:=id rfl
theorem qbz {F:List PyData->Option PyData} {fr:Bool}:(QB F fr).f=F:=id rfl
theorem qkc {g:Int->Int->Int} {i j:Int}:(opI g).f (.int i) (.int j)=some (.int (g i j)):=id rfl
theorem qnv {g:Int->Int->Bool} {i j:Int}:(opB g).f (.int i) (.int j)=some (.bool (g i j)):=id rfl
theorem qjC {C:Int->Int->Prop} {g:Int->Int->Int}:(opC C g).f=cI C g:=id rfl
theorem qgf {n:Bool}:(qdz n).f=eqD n:=id rfl
theorem qdh {n:Bool}:(qnt n).f=qlu n:=id rfl
theorem qfD {n:Bool}:(qoD n).f=inD n:=id rfl
theorem qeW:U0.f=ixD:=id rfl
theorem qcL:MQ.f=qi0:=id rfl
theorem qai:qaD.f=qjI:=id rfl
theorem qgO {t:TE3} {a:PuE t}:(qdA a).f=fun ρ=>(a.f ρ).bind qlx:=id rfl
theorem qe3 {t:TA3} {a:PuA t}:(M3 a).f=fun ρ=>(a.f ρ).bind qik:=id rfl
theorem qdp {t:TE3} {a:PuE t}:(qdA a).nm=false:=id rfl
theorem qbZ {t:TA3} {a:PuA t}:(M3 a).nm=true:=id rfl
theorem qqq {i:Nat}:(gN i).f=fun d=>some [(i,d)]:=id rfl
theorem qeI:qbp.f []=some []:=id rfl
theorem qbF {t:TG3} {u:MC} {a:PuG t} {b:PuGs u} {d:PyData} {r:List PyData}:(jW a b).f (d::r)=(a.f d).bind fun x=>(b.f r).map fun y=>x++y:=id rfl
theorem qgQ {u:MC} {n:Nat} {b:PuGs u} {ds:List PyData}:(qaY n b).f (.tuple ds)=if ds.length=n then b.f ds else none:=id rfl
theorem qcp:CI.f=fun _ ρ=>some (.nx ρ):=id rfl
theorem qgA {t u:TS3} {a:PuS t} {b:PuS u}:(DY a b).f=qn2 a.f b.f:=id rfl
theorem qjH {c:TT3} {t u:TS3} {pc:PuC c} {a:PuS t} {b:PuS u}:(sIf pc a b).f=fun n ρ=>(pc.f ρ).bind fun k=>if k then a.f n ρ else b.f n ρ:=id rfl
theorem qgi {t:TE3} {a:PuE t}:(C6 a).f=fun _ ρ=>(a.f ρ).map fun d=>.rt d a.nw:=id rfl
theorem qbL {i:Nat}:(qdY i).f=fun _ ρ=>qhn ρ i:=id rfl
theorem qfF {t:TE3} {a:PuE t} {i:Nat} {m:List Bool} {hm:Tru (a.fv.all (mkb m))}:(qdy a i m hm).f=fun _ ρ=>(a.f ρ).map fun d=>.nx (qbv m a.nw i d ρ):=id rfl
theorem qdw {t:TE3} {g:TG3} {a:PuE t} {pg:PuG g} {m:List Bool} {hm:Tru (a.fv.all (mkb m))}:(qbj a pg m hm).f=fun _ ρ=>(a.f ρ).bind fun d=>(pg.f d).map fun bs=>.nx (ZQ (dm m ρ) bs):=id rfl
theorem qfH {t:TA3} {a:PuA t} {i j:Nat} {m:List Bool} {hm:Tru (a.fv.all (mkb m))}:(qqk a i j m hm).f=fun _ ρ=>(a.f ρ).bind fun ds=>qfM i j m ds ρ:=id rfl
theorem qeS {t:TE3} {a:PuE t} {i:Nat} {m:List Bool} {hm:Tru (a.fv.all (mkb m))}:(qpE a i m hm).f=fun _ ρ=>(a.f ρ).bind fun d=>qkj i d (dmS m d ρ):=id rfl
theorem qgc {wi:TI3} {g:TG3} {tb:TS3} {pi:PuI wi} {pg:PuG g} {pb:PuS tb} {m:List Bool} {hm:Tru (pi.fv.all (mkb m))}:(qmo pi pg pb m hm).f=qnZ pi.f pi.nm m pg.f pb.f:=id rfl
theorem qkk {c:TT3} {tb:TS3} {pc:PuC c} {pb:PuS tb}:(sWh pc pb).f=fun n ρ=>whP pc.f (pb.f n) n ρ:=id rfl
theorem qcy {i:Int}:(jH i).nw=false:=id rfl
theorem qfj {i:Bool}:(bBl i).nw=false:=id rfl
theorem qcB:qiZ.nw=false:=id rfl
theorem qle {r:R3} {ta tb:TE3} {R:OpD r} {a:PuE ta} {b:PuE tb}:(bO R a b).nw=R.nw:=id rfl
theorem qcr {t:TA3} {a:PuA t} {hn:Tru (Nat.ble a.n 1000)}:(MA a hn).nw=false:=id rfl
theorem qbT {t:TA3} {a:PuA t} {hn:Tru (Nat.ble a.n 1000)}:(qiV a hn).nw=true:=id rfl
theorem qaw {r:List T->Gp->Q3->Prop} {t:TA3} {R:FnD r} {a:PuA t}:(za R a).nw=R.nw:=id rfl
theorem qam {F:List PyData->Option PyData} {fr:Bool}:(QB F fr).nw=fr:=id rfl
theorem N7 {ta tb:TE3} {a:PuE ta} {b:PuE tb}:(KR a b).nw=false:=id rfl
theorem qfY {wi:TI3} {g:TG3} {tif:TT3} {te:TE3} {pi:PuI wi} {pg:PuG g} {pc:PuC tif} {pe:PuE te} {m:List (Option Nat)} {hm:Tru (pg.tg.all fun i=>m[i]?==some none)}:(bLc pi pg pc pe m hm).nw=true:=id rfl
theorem qcj {wi wi2:TI3} {g g2:TG3} {tif tif2:TT3} {te:TE3} {pi:PuI wi} {pg:PuG g} {pc:PuC tif} {pi2:PuI wi2} {pg2:PuG g2} {pc2:PuC tif2} {pe:PuE te} {m:List (Option Nat)} {hm:Tru (pg.tg.all fun i=>m[i]?==some none)} {hm2:Tru (pg2.tg.all fun i=>m[i]?==some none)} {hdj:Tru (pg2.tg.all fun i=>!pg.tg.contains i)}:(qol pi pg pc pi2 pg2 pc2 pe m hm hm2 hdj).nw=true:=id rfl
theorem qcE:qn5.nw=false:=id rfl
theorem qcR:qn1.nw=true:=id rfl
theorem qcz:U0.nw=false:=id rfl
theorem qgF {C:Int->Int->Prop} {g:Int->Int->Int}:(opC C g).nw=false:=id rfl
theorem qqz {s:Sl} {r:Rho}:vw (s::r) 0=s.d:=id rfl
theorem qp5 {s:Sl} {r:Rho} {i:Nat}:vw (s::r) (i+1)=vw r i:=id rfl
theorem qmI {d:PyData}:(Sl.sh d).d=some d:=id rfl
theorem qjQ {ds:List PyData}:(Sl.ow ds).d=some (.list ds):=id rfl
theorem qdi {r:Rho} {ds:List PyData}:qhn (.ow ds::r) 0=some (.rt (.list ds) true):=id rfl
theorem qcF {r:Rho} {d:PyData}:qhn (.sh d::r) 0=some (.rt d false):=id rfl
theorem qfP {s:Sl} {r:Rho} {i:Nat}:qhn (s::r) (i+1)=qhn r i:=id rfl
theorem qkC {xs:List PyData} {i:Int}:ixD (.tuple xs) (.int i)=L2.atI xs i:=id rfl
theorem qm5 {xs:List PyData} {i:Int}:ixD (.list xs) (.int i)=L2.atI xs i:=id rfl
theorem at0 {α:Type} {a:α} {r:List α}:L2.atI (a::r) 0=some a:=by simp [L2.atI,ixN]
theorem at1 {α:Type} {a b:α} {r:List α}:L2.atI (a::b::r) 1=some b:=by
 have h:ixN (a::b::r).length 1=some 1:=by unfold ixN;rw [if_pos (by omega),if_pos (by simp;omega)];rfl
 unfold L2.atI;rw [h];rfl
theorem at2 {α:Type} {a b c:α} {r:List α}:L2.atI (a::b::c::r) 2=some c:=by
 have h:ixN (a::b::c::r).length 2=some 2:=by unfold ixN;rw [if_pos (by omega),if_pos (by simp;omega)];rfl
 unfold L2.atI;rw [h];rfl
theorem at3 {α:Type} {a b c d:α} {r:List α}:L2.atI (a::b::c::d::r) 3=some d:=by
 have h:ixN (a::b::c::d::r).length 3=some 3:=by unfold ixN;rw [if_pos (by omega),if_pos (by simp;omega)];rfl
 unfold L2.atI;rw [h];rfl
theorem atN {α:Type} {xs:List α} {k:Nat} (h:k<xs.length):L2.atI xs (k:Int)=xs[k]?:=by
 have e:ixN xs.length (k:Int)=some k:=by unfold ixN;rw [if_pos (by omega),if_pos (by omega)];rfl
 unfold L2.atI;rw [e];rfl
theorem eqS {n:Bool} {a b:Str}:eqD n (.str a) (.str b)=some (.bool (if n then !decide (a=b) else decide (a=b))):=id rfl
theorem eqI {n:Bool} {a b:Int}:eqD n (.int a) (.int b)=some (.bool (if n then !decide (a=b) else decide (a=b))):=id rfl
theorem qjs {n:Bool}:qlu n .none .none=some (.bool !n):=id rfl
theorem qnp {n:Bool} {xs:List PyData}:qlu n (.tuple xs) .none=some (.bool n):=id rfl
theorem qnE {C:Int->Int->Prop} {g:Int->Int->Int} {i j:Int} (h:C i j):cI C g (.int i) (.int j)=some (.int (g i j)):=by simp only [cI];exact jd h
theorem qjx {i j:Int} (h:-1000000<j/\j<1000000):cI ZF (·*·) (.int i) (.int j)=some (.int (i*j)):=qnE (.inr ⟨by omega,by omega⟩)
theorem ML {i j:Int} (h:-1000000<i/\i<1000000):cI ZF (·*·) (.int i) (.int j)=some (.int (i*j)):=qnE (.inl ⟨by omega,by omega⟩)
theorem qp1 {i j:Int}:qi0 (.int i) (.int j)=some (.int (i+j)):=id rfl
theorem qcH {j:Int} (h:-1000000000<=j/\j<1000000000):qik [.int j]=some ((ZN 0 j.toNat).map PyData.int):=by simp only [qik];exact jd ⟨by omega,by omega⟩
theorem qlc {i j:Int} (h:-1000000000<=i/\i<1000000000/\-1000000000<=j/\j<1000000000):qik [.int i,.int j]=some ((ZN i (j-i).toNat).map PyData.int):=by simp only [qik];exact jd ⟨by omega,by omega,by omega,by omega⟩
theorem ZY {pi:Rho->Option (List PyData)} {h:Rho->PyData->Option (Option PyData)} {m:List (Option Nat)} {ρ:Rho} {ds fs:List PyData} (h1:pi ρ=some ds) (h2:lcP (h (ME m ρ)) ds=some fs) (h3:fs.length<=16777216):lcF pi h m ρ=some (.list fs):=by unfold lcF;rw [h1];simp only [Option.bind_some,h2];exact jd h3
theorem qh7 {pi:Rho->Option (List PyData)} {h:Rho->PyData->Option (Option (List PyData))} {m:List (Option Nat)} {ρ:Rho} {ds fs:List PyData} (h1:pi ρ=some ds) (h2:qh1 (h (ME m ρ)) ds=some fs) (h3:fs.length<=16777216):qmm pi h m ρ=some (.list fs):=by unfold qmm;rw [h1];simp only [Option.bind_some,h2];exact jd h3
theorem qd6 {gf:PyData->Option (List (Nat×PyData))} {bf:Rho->Option Ot} {α:Type} {g:α->PyData} (xs:List α) (I:Nat->Rho->Prop) {ρ:Rho} (h0:I 0 ρ)
  (hs:∀ i x ρ,xs[i]?=some x->I i ρ->∃ bs ρ',gf (g x)=some bs/\(bf (ZQ ρ bs)=some (.nx ρ')\/bf (ZQ ρ bs)=some (.ct ρ'))/\I (i+1) ρ'):∃ ρ',KO gf bf (xs.map g) ρ=some (.nx ρ')/\I xs.length ρ':=by
 have key:∀ (r:List α) (i:Nat) (ρ:Rho),xs.drop i=r->i<=xs.length->I i ρ->∃ ρ',KO gf bf (r.map g) ρ=some (.nx ρ')/\I xs.length ρ':=by
  intro r
  induction r with
  |nil=>
   intro i ρ e hi h
   have:i=xs.length:=by
    have:=congrArg List.length e
    simp at this;omega
   subst this
   exact ⟨ρ,rfl,h⟩
  |cons x r ih=>
   intro i ρ e hi h
   have hl:i<xs.length:=by
    have:=congrArg List.length e
    simp at this;omega
   have e':=List.drop_eq_getElem_cons hl
   rw [e] at e'
   injection e' with e1 e2
   obtain ⟨bs,ρ',h1,h2,h3⟩:=hs i x ρ (by rw [getElem?_eq_getElem hl,e1]) h
   obtain ⟨ρ2,h4,h5⟩:=ih (i+1) ρ' e2.symm hl h3
   refine ⟨ρ2,?_,h5⟩
   simp only [map_cons,KO,h1,Option.bind_some]
   rcases h2 with h2|h2<;>(rw [h2];exact h4)
 exact key xs 0 ρ (by simp) (Nat.zero_le _) h0
theorem qc6 {gf:PyData->Option (List (Nat×PyData))} {bf:Rho->Option Ot} {α:Type} {g:α->PyData} (xs:List α) (n:Nat) (x:α) (hn:xs[n]?=some x) (I:Nat->Rho->Prop) {ρ:Rho} {o:Ot} (h0:I 0 ρ)
  (hs:∀ i x ρ,i<n->xs[i]?=some x->I i ρ->∃ bs ρ',gf (g x)=some bs/\(bf (ZQ ρ bs)=some (.nx ρ')\/bf (ZQ ρ bs)=some (.ct ρ'))/\I (i+1) ρ')
  (he:∀ ρ,I n ρ->∃ bs,gf (g x)=some bs/\((∃ d b,o=.rt d b/\bf (ZQ ρ bs)=some (.rt d b))\/∃ ρ',o=.nx ρ'/\bf (ZQ ρ bs)=some (.bk ρ'))):KO gf bf (xs.map g) ρ=some o:=by
 have hl:=(List.getElem?_eq_some_iff.mp hn).1
 have key:∀ (k i:Nat) (ρ:Rho),i+k=n->I i ρ->KO gf bf ((xs.drop i).map g) ρ=some o:=by
  intro k
  induction k with
  |zero=>
   intro i ρ e h
   have:i=n:=by omega
   subst this
   obtain ⟨bs,h1,h2⟩:=he ρ h
   rw [List.drop_eq_getElem_cons hl]
   have ex:xs[i]=x:=by
    rw [getElem?_eq_getElem hl] at hn
    exact Option.some.inj hn
   rw [ex]
   simp only [map_cons,KO,h1,Option.bind_some]
   rcases h2 with ⟨d,b,rfl,h2⟩|⟨ρ',rfl,h2⟩<;>(rw [h2];rfl)
  |succ k ih=>
   intro i ρ e h
   have hi:i<xs.length:=by omega
   obtain ⟨bs,ρ',h1,h2,h3⟩:=hs i xs[i] ρ (by omega) (getElem?_eq_getElem hi) h
   rw [List.drop_eq_getElem_cons hi]
   simp only [map_cons,KO,h1,Option.bind_some]
   rcases h2 with h2|h2<;>(rw [h2];exact ih (i+1) ρ' (by omega) h3)
 exact key n 0 ρ (by omega) h0
def sqk (b:Nat->Rho->Option Ot) (n:Nat) (o:Ot):Option Ot:=match o with|.nx ρ'=>b n ρ'|o=>some o
theorem qgn {a b:Nat->Rho->Option Ot} {n:Nat} {ρ:Rho}:qn2 a b n ρ=(a n ρ).bind (sqk b n):=id rfl
theorem qfk {b:Nat->Rho->Option Ot} {n:Nat} {ρ:Rho}:sqk b n (.nx ρ)=b n ρ:=id rfl
theorem qfg {b:Nat->Rho->Option Ot} {n:Nat} {d:PyData} {f:Bool}:sqk b n (.rt d f)=some (.rt d f):=id rfl
theorem qcl {d:PyData}:WP true (some (.rt d true))=some d:=id rfl
theorem qfs {d:PyData} {b:Bool}:WP false (some (.rt d b))=some d:=by simp [WP]
theorem qlw {b:Bool}:asB (.bool b)=some b:=id rfl
theorem qnu {b:Int}:asI (.int b)=some b:=id rfl
theorem qm3 {b:Str}:asS (.str b)=some b:=id rfl
theorem qgm {xs:List PyData}:qhe [.tuple xs]=some (.int xs.length):=id rfl
theorem qgD {xs:List PyData}:qhe [.list xs]=some (.int xs.length):=id rfl
theorem qgX {xs:List PyData}:qnT [.list xs]=some (.tuple xs):=id rfl
theorem qgp {xs:List PyData}:qn7 [.tuple xs]=some (.list xs):=id rfl
theorem qce {xs:List Bool}:qlZ [.list (xs.map PyData.bool)]=some (.bool (xs.all id)):=by simp only [qlZ,qd0,Option.map_some]
theorem qje {xs:List Int} (h:xs≠[]):mnD [.list (xs.map PyData.int)]=some (.int (mn xs)):=by simp only [mnD,CN,Option.bind_some];exact jd h
theorem qlk {xs:List Int} (h:xs≠[]):mxD [.list (xs.map PyData.int)]=some (.int (mx xs)):=by simp only [mxD,CN,Option.bind_some];exact jd h
theorem qb5 {xs:List Int} (h:xs.length<4000):NY (.list (xs.map PyData.int))=some (.int (Z0 xs)):=by simp only [NY,CN,Option.bind_some];exact jd h
theorem qfW {xs:List PyData}:qlx (.tuple xs)=some xs:=id rfl
theorem qf8 {xs:List PyData}:qlx (.list xs)=some xs:=id rfl
theorem qnN {i:Int}:tyD (.int i)=some "int" := id rfl
theorem qnh {i:List PyData}:tyD (.tuple i)=some "tuple" := id rfl
theorem qkD {m:List Bool} {nw:Bool} {i:Nat} {v:Int} {ρ:Rho}:qbv m nw i (.int v) ρ=ρ.set i (.sh (.int v)):=id rfl
theorem qjE {m:List Bool} {nw:Bool} {i:Nat} {v:Str} {ρ:Rho}:qbv m nw i (.str v) ρ=ρ.set i (.sh (.str v)):=id rfl
theorem qmC {m:List Bool} {nw:Bool} {i:Nat} {ρ:Rho}:qbv m nw i .none ρ=ρ.set i (.sh .none):=id rfl
theorem qiA {m:List Bool} {nw:Bool} {i:Nat} {v:List PyData} {ρ:Rho}:qbv m nw i (.tuple v) ρ=(dm m ρ).set i (.sh (.tuple v)):=by cases nw<;>rfl
theorem qfe {m:List Bool} {i:Nat} {v:List PyData} {ρ:Rho}:qbv m true i (.list v) ρ=(dm m ρ).set i (.ow v):=id rfl
theorem qkZ {m:List Bool} {v:List PyData} {ρ:Rho}:dmS m (.list v) ρ=dm m ρ:=id rfl
theorem qqr {ρ:Rho}:dm [] ρ=ρ:=id rfl
theorem qqe {m:List Bool} {s:Sl} {ρ:Rho}:dm (true::m) (s::ρ)=s.dem::dm m ρ:=id rfl
theorem qqj {m:List Bool} {s:Sl} {ρ:Rho}:dm (false::m) (s::ρ)=s::dm m ρ:=id rfl
theorem qjU {ds:List PyData}:(Sl.ow ds).dem=.sh (.list ds):=id rfl
theorem qmP {d:PyData}:(Sl.sh d).dem=.sh d:=id rfl
theorem qjb {ρ:Rho}:ME [] ρ=[]:=id rfl
theorem qk8 {m:List (Option Nat)} {ρ:Rho}:ME (none::m) ρ=.un::ME m ρ:=id rfl
def cp (o:Option PyData):Sl:=match o with|some d=>.sh d|none=>.un
theorem qkA {m:List (Option Nat)} {j:Nat} {ρ:Rho}:ME (some j::m) ρ=cp (vw ρ j)::ME m ρ:=id rfl
theorem qp0 {d:PyData}:cp (some d)=.sh d:=id rfl
theorem qfn {pi:Rho->Option (List PyData)} {m:List Bool} {gf:PyData->Option (List (Nat×PyData))} {bf:Nat->Rho->Option Ot} {n:Nat} {ρ:Rho}:qnZ pi true m gf bf n ρ=(pi ρ).bind fun ds=>KO gf (bf n) ds ρ:=id rfl
theorem qge {ρ:Rho}:ZQ ρ []=ρ:=id rfl
theorem qgg {ρ:Rho} {i:Nat} {d:PyData} {r:List (Nat×PyData)}:ZQ ρ ((i,d)::r)=ZQ (ρ.set i (.sh d)) r:=id rfl
theorem YU {gf:PyData->Option (List (Nat×PyData))} {cf:Rho->Option Bool} {ef:Rho->Option PyData} {ρ:Rho} {d:PyData}:lcH gf cf ef ρ d=(gf d).bind fun bs=>(cf (ZQ ρ bs)).bind fun k=>if k then (ef (ZQ ρ bs)).map some else some none:=id rfl
theorem qju {gf:PyData->Option (List (Nat×PyData))} {cf:Rho->Option Bool} {it:Rho->Option (List PyData)} {h:Rho->PyData->Option (Option PyData)} {ρ:Rho} {d:PyData}:qks gf cf it h ρ d=(gf d).bind fun bs=>(cf (ZQ ρ bs)).bind fun k=>if k then ((it (ZQ ρ bs)).bind fun ds=>lcP (h (ZQ ρ bs)) ds).map some else some none:=id rfl
def Nx (o:Option Ot) (P:Rho->Prop):Prop:=match o with|some (.nx ρ)=>P ρ|some (.ct ρ)=>P ρ|_=>False
theorem qmY {ρ:Rho} {P:Rho->Prop}:Nx (some (.nx ρ)) P=P ρ:=id rfl
theorem qhs {o:Option Ot} {P:Rho->Prop} (h:Nx o P):∃ ρ,(o=some (.nx ρ)\/o=some (.ct ρ))/\P ρ:=by
 unfold Nx at h
 split at h
 ·exact ⟨_,.inl rfl,h⟩
 ·exact ⟨_,.inr rfl,h⟩
 ·exact h.elim
section
variable {gf:PyData->Option (List (Nat×PyData))} {bf:Rho->Option Ot} {α:Type} {g:α->PyData} {ρ:Rho} {Q:Option Ot->Prop} {F:Ot->Option Ot}
theorem KD (xs:List α) (I:Nat->Rho->Prop) (h0:I 0 ρ) (hs:∀ i x ρ,xs[i]?=some x->I i ρ->Nx ((gf (g x)).bind fun bs=>bf (ZQ ρ bs)) (I (i+1))) (k:∀ ρ',I xs.length ρ'->Q (some (.nx ρ'))):Q (KO gf bf (xs.map g) ρ):=by
 obtain ⟨ρ',e,h⟩:=qd6 (gf:=gf) (bf:=bf) (g:=g) xs I h0 fun i x ρ hx hi=>by
  obtain ⟨ρ2,e,h⟩:=qhs (hs i x ρ hx hi)
  cases e1:gf (g x) with
  |none=>rw [e1] at e;rcases e with e|e<;>cases e
  |some bs=>rw [e1] at e;exact ⟨bs,ρ2,rfl,e,h⟩
 rw [e]
 exact k ρ' h
theorem MG (xs:List α) (I:Nat->Rho->Prop) (h0:I 0 ρ) (hs:∀ i x ρ,xs[i]?=some x->I i ρ->Nx ((gf (g x)).bind fun bs=>bf (ZQ ρ bs)) (I (i+1))) (k:∀ ρ',I xs.length ρ'->Q (F (.nx ρ'))):Q ((KO gf bf (xs.map g) ρ).bind F):=
 KD (Q:=fun o=>Q (o.bind F)) xs I h0 hs k
theorem XG (xs:List α) (n:Nat) (x:α) (d:PyData) (b:Bool) (hn:xs[n]?=some x) (I:Nat->Rho->Prop) (h0:I 0 ρ) (hs:∀ i x ρ,i<n->xs[i]?=some x->I i ρ->Nx ((gf (g x)).bind fun bs=>bf (ZQ ρ bs)) (I (i+1))) (he:∀ ρ,I n ρ->((gf (g x)).bind fun bs=>bf (ZQ ρ bs))=some (.rt d b)) (k:Q (some (.rt d b))):Q (KO gf bf (xs.map g) ρ):=by
 rw [qc6 (gf:=gf) (bf:=bf) (g:=g) xs n x hn I h0 (fun i x ρ hi hx hI=>by
  obtain ⟨ρ2,e,h⟩:=qhs (hs i x ρ hi hx hI)
  cases e1:gf (g x) with
  |none=>rw [e1] at e;rcases e with e|e<;>cases e
  |some bs=>rw [e1] at e;exact ⟨bs,ρ2,rfl,e,h⟩) (o:=.rt d b) fun ρ hI=>by
  have:=he ρ hI
  cases e1:gf (g x) with
  |none=>rw [e1] at this;cases this
  |some bs=>rw [e1] at this;exact ⟨bs,rfl,.inl ⟨d,b,rfl,this⟩⟩]
 exact k
theorem qif (xs:List α) (n:Nat) (x:α) (d:PyData) (b:Bool) (hn:xs[n]?=some x) (I:Nat->Rho->Prop) (h0:I 0 ρ) (hs:∀ i x ρ,i<n->xs[i]?=some x->I i ρ->Nx ((gf (g x)).bind fun bs=>bf (ZQ ρ bs)) (I (i+1))) (he:∀ ρ,I n ρ->((gf (g x)).bind fun bs=>bf (ZQ ρ bs))=some (.rt d b)) (k:Q (F (.rt d b))):Q ((KO gf bf (xs.map g) ρ).bind F):=
 XG (Q:=fun o=>Q (o.bind F)) xs n x d b hn I h0 hs he k
theorem qnA {cf:Rho->Option Bool} {N:Nat} (n:Nat) (hn:n<N) (I:Nat->Rho->Prop) (h0:I 0 ρ) (hc:∀ i ρ,i<n->I i ρ->cf ρ=some true) (hs:∀ i ρ,i<n->I i ρ->Nx (bf ρ) (I (i+1))) (he:∀ ρ,I n ρ->cf ρ=some false) (k:∀ ρ',I n ρ'->Q (F (.nx ρ'))):Q ((whP cf bf N ρ).bind F):=by
 have key:∀ (k i M:Nat) (ρ:Rho),i+k=n->k<M->I i ρ->∃ ρ',whP cf bf M ρ=some (.nx ρ')/\I n ρ':=by
  intro k
  induction k with
  |zero=>
   intro i M ρ e hM h
   have:i=n:=by omega
   subst this
   cases M with
   |zero=>omega
   |succ M=>exact ⟨ρ,by unfold whP;rw [he ρ h];rfl,h⟩
  |succ k ih=>
   intro i M ρ e hM h
   cases M with
   |zero=>omega
   |succ M=>
    have h1:=hc i ρ (by omega) h
    obtain ⟨ρ',h2,h3⟩:=qhs (hs i ρ (by omega) h)
    obtain ⟨ρ2,h4,h5⟩:=ih (i+1) M ρ' (by omega) (by omega) h3
    refine ⟨ρ2,?_,h5⟩
    unfold whP
    rw [h1]
    rcases h2 with h2|h2<;>(simp only [Option.bind_some,if_pos,h2];exact h4)
 obtain ⟨ρ',e,h⟩:=key n 0 N ρ (by omega) hn h0
 rw [e]
 exact k ρ' h
end
theorem TW {α:Type} {us:List α} (h:us.length=1):∃ a0,us=[a0]:=List.length_eq_one_iff.mp h
theorem qaG {α:Type} {us:List α} (h:us.length=2):∃ a0 a1,us=[a0,a1]:=by
 obtain ⟨a0,r,rfl⟩:=List.exists_cons_of_length_pos (show 0<us.length by omega)
 obtain ⟨a1,rfl⟩:=TW (show r.length=1 by simpa using h)
 exact ⟨a0,a1,rfl⟩
theorem qdD {α:Type} {us:List α} (h:us.length=3):∃ a0 a1 a2,us=[a0,a1,a2]:=by
 obtain ⟨a0,r,rfl⟩:=List.exists_cons_of_length_pos (show 0<us.length by omega)
 obtain ⟨a1,a2,rfl⟩:=qaG (show r.length=2 by simpa using h)
 exact ⟨a0,a1,a2,rfl⟩
end Pu
namespace Pv
open PySem L2 L3 Pu
def X0:PuS (Bk.X9):=(C6 (bLc (M3 (qm (bV 2) zk)) (gN 0) bTt (MA (qm (bO (opC ZF (·*·)) (bV 0) (bV 1)) (qm (bO (opC ZF (·*·)) (bV 0) (bV 2)) zk)) ⟨rfl⟩) [none,some 0,some 1] ⟨rfl⟩))
def zU:List PyData->Option PyData:=run (X0).f 3 3 1000000000 true
theorem qcf:∀ ts G q,PSp (zU) true ts G q->ts.length=3/\Bk.X9 { nx:=fun _ G'=>q .non G',rt:=q } (qk ["down","along","many"] ts) G:=jm (X0) ["down","along","many"] 3 1000000000 true
theorem qc0 {x0 x1 x2:PyData}:zU [x0,x1,x2]=WP true ((X0).f 1000000000 [.sh x0,.sh x1,.sh x2]):=id rfl
def jX (zU:List PyData->Option PyData):PuS (Bk.UF (PSp zU true)):=(DY (qdy (bO U0 (bV 0) (jH 0)) 1 [true] ⟨rfl⟩) (DY (sIf (bTb (bO (qdz false) (bV 1) (qfl "cells"))) (C6 (za qn1 (qm (bO U0 (bV 0) (jH 1)) zk))) CI) (DY (sIf (bTb (bO (qdz false) (bV 1) (qfl "block"))) (C6 (qol (M3 (qm (bO U0 (bV 0) (jH 1)) zk)) (gN 0) bTt (M3 (qm (bO U0 (bV 2) (jH 2)) zk)) (gN 1) bTt (MA (qm (bV 0) (qm (bV 1) zk)) ⟨rfl⟩) [none,none,some 0] ⟨rfl⟩ ⟨rfl⟩ ⟨rfl⟩)) CI) (DY (sIf (bTb (bO (qdz false) (bV 1) (qfl "step"))) (C6 (za (QB zU true) (qm (bO U0 (bV 0) (jH 1)) (qm (bO U0 (bV 0) (jH 2)) (qm (bO U0 (bV 0) (jH 3)) zk))))) CI) (DY (qbj (qkl DG (bV 1)) (qaY 2 (jW (gN 2) (jW (gN 3) qbp))) [false,true] ⟨rfl⟩) (C6 (za (QB zU true) (qm (bV 2) (qm (bV 3) (qm (bO U0 (bV 0) (jH 1)) zk))))))))))
def jf:List PyData->Option PyData:=run (jX zU).f 1 4 1000000000 true
theorem MW:∀ ts G q,PSp (jf) true ts G q->ts.length=1/\Bk.UF (PSp zU true) { nx:=fun _ G'=>q .non G',rt:=q } (qk ["walk","kind","down","along"] ts) G:=jm (jX zU) ["walk","kind","down","along"] 1 1000000000 true
theorem YM {x0:PyData}:jf [x0]=WP true ((jX zU).f 1000000000 [.sh x0,.un,.un,.un]):=id rfl
def QR:PuS (Bk.QV):=(DY (qmo (M3 (qm (za qe4 (qm (bV 0) zk)) zk)) (gN 1) (qmo (M3 (qm (bO MQ (bV 1) (jH 1)) (qm (za qe4 (qm (bV 0) zk)) zk))) (gN 2) (sIf (bTb (bO (qdz false) (bO U0 (bV 0) (bV 1)) (bO U0 (bV 0) (bV 2)))) (C6 (MA (qm (bV 1) (qm (bV 2) zk)) ⟨rfl⟩)) CI) [true,true] ⟨rfl⟩) [true] ⟨rfl⟩) (C6 qiZ))
def ze:List PyData->Option PyData:=run (QR).f 1 3 1000000000 false
theorem SA:∀ ts G q,PSp (ze) false ts G q->ts.length=1/\Bk.QV { nx:=fun _ G'=>q .non G',rt:=q } (qk ["things","k","l"] ts) G:=jm (QR) ["things","k","l"] 1 1000000000 false
theorem R7 {x0:PyData}:ze [x0]=WP false ((QR).f 1000000000 [.sh x0,.un,.un]):=id rfl
open Bk (Wk Dl jE ji JG lnD lnA)
def pD (p:Int×Int):PyData:=.tuple [.int p.1,.int p.2]
def Wk.d:Wk->PyData
 |.line k m=>.tuple [.str (JG k),.int m]
 |.block h w=>.tuple [.str "block",.int h,.int w]
 |.step d a m=>.tuple [.str "step",.int d,.int a,.int m]
 |.cells ps=>.tuple [.str "cells",.tuple (ps.map pD)]
def qiX (r:List Int):PyData:=.tuple (r.map PyData.int)
def dlD:Dl->PyData
 |.skew r c b x y=>.tuple [.str "skew",.int r,.int c,.int b,.int x,.int y]
 |.rests r c b p=>.tuple [.str "rests",.int r,.int c,.int b,.int p]
 |.bits h l ms=>.tuple [.str "bits",.int h,.int l,.tuple (ms.map PyData.int)]
 |.table b cells=>.tuple [.str "table",.int b,.tuple (cells.map qiX)]
 |.joined d e=>.tuple [.str "joined",dlD d,dlD e]
theorem qdc (G:Gp):∀ (cs:List (List Int)),Dqs G (cs.map Bk.qaA) (cs.map qiX)
 |[]=>.nil
 |r::cs=>.cons (.tup (Dqs.ofInts r)) (qdc G cs)
theorem qhC (G:Gp):∀ (d:Dl),Dq G d.t (dlD d)
 |.skew r c b x y=>.tup (.cons (.str _) (.cons (.int _) (.cons (.int _) (.cons (.int _) (.cons (.int _) (.cons (.int _) .nil))))))
 |.rests r c b p=>.tup (.cons (.str _) (.cons (.int _) (.cons (.int _) (.cons (.int _) (.cons (.int _) .nil)))))
 |.bits h l ms=>.tup (.cons (.str _) (.cons (.int _) (.cons (.int _) (.cons (.tup (Dqs.ofInts ms)) .nil))))
 |.table b cells=>.tup (.cons (.str _) (.cons (.int _) (.cons (.tup (qdc G cells)) .nil)))
 |.joined d e=>.tup (.cons (.str _) (.cons (qhC G d) (.cons (qhC G e) .nil)))
theorem qav (G:Gp):∀ (cs:List (Int×Int)),Dqs G (cs.map Bk.pT) (cs.map pD)
 |[]=>.nil
 |p::cs=>.cons (.tup (.cons (.int _) (.cons (.int _) .nil))) (qav G cs)
theorem qoY (G:Gp):∀ (w:Wk),Dq G w.t (Wk.d w)
 |.line k m=>.tup (.cons (.str _) (.cons (.int _) .nil))
 |.block h v=>.tup (.cons (.str _) (.cons (.int _) (.cons (.int _) .nil)))
 |.step d a m=>.tup (.cons (.str _) (.cons (.int _) (.cons (.int _) (.cons (.int _) .nil))))
 |.cells ps=>.tup (.cons (.str _) (.cons (.tup (qav G ps)) .nil))
end Pv
namespace Pu
open PySem L2 L3
open Bk (Lf Ext)
section
variable {D:Addr->Prop} {a:Addr} {G G' G0:Gp} {n n':Nat} {fv gv:List Nat} {l:Nat} {τ:St3} {ρ:Rho}
theorem LI (e:Ext a G G') (h:D a):Ex (rs D G) (rs D G'):=fun b o x=>by
 obtain ⟨n,x⟩:=qT x
 rw [QS n];exact e b o (by rintro rfl;exact n h) x
theorem CP {k:Int} (h:Lf G a k):G a≠none:=by
 obtain ⟨o,c,m,e,_⟩:=h
 rw [e];simp
theorem TZ {k:Int} (hd:Dom D G) (e:Ext a G G') (lf:Lf G' a k):Dom D G':=fun b hb z=>by
 by_cases h:b=a
 ·subst h;exact CP lf z
 ·cases g:G b with
  |none=>exact hd b hb g
  |some o=>rw [e b o h g] at z;cases z
theorem Nw.backx {x:T} {d:PyData} {k:Int} (h:Nw D G G' x d) (e:Ext a G0 G) (lf:Lf G a k):Nw D G0 G' x d:=by
 rcases h with h|⟨p,xs,ds,h1,h2,c,r⟩
 ·exact .inl h
 refine .inr ⟨p,xs,ds,h1,h2,?_,r⟩
 cases z:G0 p with
 |none=>rfl
 |some o=>
  by_cases hp:p=a
  ·subst hp;exact absurd c (CP lf)
  ·rw [e p o hp z] at c;cases c
structure Ln (fv:List Nat) (l:Nat) (D:Addr->Prop) (G:Gp) (τ:St3) (ρ:Rho) (a:Addr) (n:Nat):Prop where
 v:SH fv D G τ ρ
 d:Dom D G
 da:D a
 tl:τ[l]?=some (some (.ref a))
 ul:vw ρ l=none
 lf:Lf G a n
theorem Ln.up (h:Ln fv l D G τ ρ a n) (e:Ext a G G') (lf:Lf G' a n'):Ln fv l D G' τ ρ a n':=
 ⟨fun i hi d hd=>let ⟨t,x,y⟩:=h.v i hi d hd;⟨t,x,y.up (LI e h.da)⟩,TZ h.d e lf,h.da,h.tl,h.ul,lf⟩
theorem Ln.fst (h:Ln (fv++gv) l D G τ ρ a n):Ln fv l D G τ ρ a n:=⟨h.v.l,h.d,h.da,h.tl,h.ul,h.lf⟩
theorem Ln.snd (h:Ln (fv++gv) l D G τ ρ a n):Ln gv l D G τ ρ a n:=⟨h.v.r,h.d,h.da,h.tl,h.ul,h.lf⟩
end
abbrev QD:=PyData->Nat->Prop
structure PwE (l:Nat) (t:TE3) where
 w:Rho->Nat->QD->Prop
 fv:List Nat
 nw:Bool
 mono:∀ {ρ n} {Q Q':QD},w ρ n Q->(∀ d m,Q d m->Q' d m)->w ρ n Q'
 ok:∀ {D τ ρ G a n} {q:Q3} {Q:QD},Ln fv l D G τ ρ a n->w ρ n Q->(∀ x d G' n',Q d n'->Ext a G G'->Lf G' a n'->Dq (rs D G') x d->(nw=true->Nw D G G' x d)->q x G')->t τ G q
structure PwC (l:Nat) (t:TT3) where
 w:Rho->Nat->(Bool->Nat->Prop)->Prop
 fv:List Nat
 mono:∀ {ρ n} {Q Q':Bool->Nat->Prop},w ρ n Q->(∀ d m,Q d m->Q' d m)->w ρ n Q'
 ok:∀ {D τ ρ G a n} {q:Bool->Gp->Prop} {Q:Bool->Nat->Prop},Ln fv l D G τ ρ a n->w ρ n Q->(∀ k G' n',Q k n'->Ext a G G'->Lf G' a n'->q k G')->t τ G q
structure PwA (l:Nat) (t:TA3) where
 w:Rho->Nat->(List PyData->Nat->Prop)->Prop
 fv:List Nat
 k:Nat
 mono:∀ {ρ n} {Q Q':List PyData->Nat->Prop},w ρ n Q->(∀ d m,Q d m->Q' d m)->w ρ n Q'
 ok:∀ {D τ ρ G a n} {q:List T->Gp->Prop} {Q:List PyData->Nat->Prop},Ln fv l D G τ ρ a n->w ρ n Q->(∀ x d G' n',Q d n'->d.length=k->Ext a G G'->Lf G' a n'->Dqs (rs D G') x d->q x G')->t τ G q
structure PwI (l:Nat) (t:TI3) where
 w:Rho->Nat->(List PyData->Nat->Prop)->Prop
 fv:List Nat
 nm:Bool
 mono:∀ {ρ n} {Q Q':List PyData->Nat->Prop},w ρ n Q->(∀ d m,Q d m->Q' d m)->w ρ n Q'
 ok:∀ {D τ ρ G a n} {r:List T->(Gp->Prop)->Gp->Prop} {Q:List PyData->Nat->Prop},Ln fv l D G τ ρ a n->w ρ n Q ->
  (∀ items stay ds G' n',Q ds n'->Ext a G G'->Lf G' a n'->Dqs (rs D G') items ds->(∀ G'',(nm=true\/Ex (rs D G') G'')->stay G'')->(nm=true->∃ ns:List Int,ds=ns.map PyData.int)->r items stay G')->t τ G r
structure DrD (r:List T->Gp->Q3->Prop) where
 W:List PyData->Nat->QD->Prop
 nw:Bool
 mono:∀ {ds n} {Q Q':QD},W ds n Q->(∀ d m,Q d m->Q' d m)->W ds n Q'
 ok:∀ {D:Addr->Prop} {G:Gp} {a:Addr} {n:Nat} {ts:List T} {ds:List PyData} {q:Q3} {Q:QD},Lf G a n->D a->Dom D G->Dqs (rs D G) ts ds->W ds n Q->(∀ x d G' n',Q d n'->Ext a G G'->Lf G' a n'->Dq (rs D G') x d->(nw=true->Nw D G G' x d)->q x G')->r (.ref a::ts) G q
section
variable {l:Nat}
def eOf {t:TE3} (b:PuE t):PwE l t:=⟨fun ρ n Q=>∃ d,b.f ρ=some d/\Q d n,b.fv,b.nw,fun ⟨d,h1,h2⟩ h=>⟨d,h1,h _ _ h2⟩,fun h ⟨d,h1,h2⟩ k=>
 b.ok h.v h.d h1 fun x G1 E1 D1 N1=>k x d G1 _ h2 (Bk.K0 E1) (h.lf.ex E1) D1 N1⟩
def cOf {t:TT3} (b:PuC t):PwC l t:=⟨fun ρ n Q=>∃ d,b.f ρ=some d/\Q d n,b.fv,fun ⟨d,h1,h2⟩ h=>⟨d,h1,h _ _ h2⟩,fun h ⟨d,h1,h2⟩ k=>
 b.ok h.v h.d h1 fun G1 E1=>k d G1 _ h2 (Bk.K0 E1) (h.lf.ex E1)⟩
def aOf {t:TA3} (b:PuA t):PwA l t:=⟨fun ρ n Q=>∃ d,b.f ρ=some d/\Q d n,b.fv,b.n,fun ⟨d,h1,h2⟩ h=>⟨d,h1,h _ _ h2⟩,fun h ⟨d,h1,h2⟩ k=>
 b.ok h.v h.d h1 fun x G1 E1 D1=>k x d G1 _ h2 (b.ln h1) (Bk.K0 E1) (h.lf.ex E1) D1⟩
def iOf {t:TI3} (b:PuI t):PwI l t:=⟨fun ρ n Q=>∃ d,b.f ρ=some d/\Q d n,b.fv,b.nm,fun ⟨d,h1,h2⟩ h=>⟨d,h1,h _ _ h2⟩,fun h ⟨d,h1,h2⟩ k=>
 b.ok h.v h.d h1 fun items stay G1 E1 D1 s nm=>k items stay d G1 _ h2 (Bk.K0 E1) (h.lf.ex E1) D1 s nm⟩
def eO {r:R3} {ta tb:TE3} (R:OpD r) (a:PwE l ta) (b:PwE l tb):PwE l (o3 r ta tb):=
 ⟨fun ρ n Q=>a.w ρ n fun x n1=>b.w ρ n1 fun y n2=>∃ v,R.f x y=some v/\Q v n2,a.fv++b.fv,R.nw,fun h k=>a.mono h fun x n1 h=>b.mono h fun y n2 ⟨v,h1,h2⟩=>⟨v,h1,k _ _ h2⟩,fun h hw k=>
  a.ok h.fst hw fun x dx G1 n1 h1 E1 L1 D1 _=>b.ok (h.snd.up E1 L1) h1 fun y dy G2 n2 ⟨v,e,hq⟩ E2 L2 D2 _=>R.ok (D1.up (LI E2 h.da)) D2 (TZ (TZ h.d E1 L1) E2 L2) e fun z G3 E3 D3 N3=>k z v G3 n2 hq ((E1.trans E2).trans (Bk.K0 E3)) (L2.ex E3) D3 fun z=>(N3 z).backx (E1.trans E2) L2⟩
def M9 {ta:TE3} {tr:TA3} (a:PwE l ta) (r:PwA l tr):PwA l (qc ta tr):=
 ⟨fun ρ n Q=>a.w ρ n fun x n1=>r.w ρ n1 fun xs n2=>Q (x::xs) n2,a.fv++r.fv,r.k+1,fun h k=>a.mono h fun x n1 h=>r.mono h fun xs n2 h=>k _ _ h,fun h hw k=>
  a.ok h.fst hw fun x dx G1 n1 h1 E1 L1 D1 _=>r.ok (h.snd.up E1 L1) h1 fun y dy G2 n2 hq hl E2 L2 D2=>k _ _ G2 n2 hq (by simp [hl]) (E1.trans E2) L2 (.cons (D1.up (LI E2 h.da)) D2)⟩
def qn4 {t:TA3} (b:PwA l t) (hn:Tru (Nat.ble b.k 1000)):PwE l (qU t):=⟨fun ρ n Q=>b.w ρ n fun xs n1=>Q (.tuple xs) n1,b.fv,false,fun h k=>b.mono h fun xs n1 h=>k _ _ h,fun h hw k=>
 b.ok h hw fun x dx G1 n1 h1 hl E1 L1 D1=>⟨by rw [D1.length,hl];exact few hn,k _ _ _ _ h1 E1 L1 (.tup D1) (fun z=>by cases z)⟩⟩
def eDr {r:List T->Gp->Q3->Prop} {t:TA3} (R:DrD r) (b:PwA l t):PwE l (cb3 r (qc (v3 l) t)):=⟨fun ρ n Q=>b.w ρ n fun xs n1=>R.W xs n1 Q,b.fv,R.nw,fun h k=>b.mono h fun xs n1 h=>R.mono h k,fun {D τ ρ G a n q Q} h hw k=>by
 simp only [cb3,qc,v3,h.tl]
 exact b.ok h hw fun x dx G1 n1 hW hl E1 L1 D1=>R.ok L1 h.da (TZ h.d E1 L1) D1 hW fun z d G3 n3 hq E3 L3 D3 N3=>k z d G3 n3 hq (E1.trans E3) L3 D3 fun z=>(N3 z).backx E1 L1⟩
end
theorem VA.ext {D:Addr->Prop} {a:Addr} {G G':Gp} {τ:St3} {ρ:Rho} (h:VA D G τ ρ) (e:Ext a G G') (da:D a):VA D G' τ ρ:=h.upx (LI e da)
structure RL (l:Nat) (a:Addr) (z0:Option (Option T)×Nat) (D:Addr->Prop) (G0:Gp) (A:Nat->Option Addr) (τ:St3) (ρ:Rho) (G:Gp) (n:Nat):Prop where
 r:RS D G0 A τ ρ G
 al:A l=some a
 tl:τ[l]?=some (some (.ref a))
 ul:ρ[l]?=some Sl.un
 lf:Lf G a n
 tz:τ[0]?=z0.1/\τ.length=z0.2
section
variable {l:Nat} {a:Addr} {z0:Option (Option T)×Nat} {D:Addr->Prop} {G0 G G':Gp} {A:Nat->Option Addr} {τ:St3} {ρ:Rho} {n n':Nat}
theorem RL.vl (h:RL l a z0 D G0 A τ ρ G n):vw ρ l=none:=by unfold vw;rw [h.ul];rfl
theorem RL.up (h:RL l a z0 D G0 A τ ρ G n) (e:Ext a G G') (lf:Lf G' a n'):RL l a z0 D G0 A τ ρ G' n':=by
 have X:Ex (rs (AD D A) G) (rs (AD D A) G'):=LI e (.inr ⟨l,h.al⟩)
 refine ⟨⟨fun b o x=>e b o (by rintro rfl;rw [h.r.fr l _ h.al] at x;cases x) (h.r.ex b o x),h.r.dm,h.r.fr,fun i p hp z=>?_,h.r.inj,h.r.len,fun i d x=>let ⟨t,y,z⟩:=h.r.sh i d x;⟨t,y,z.up X⟩,fun i ds x=>?_⟩,h.al,h.tl,h.ul,lf,h.tz⟩
 ·by_cases c:p=a
  ·subst c;exact CP lf z
  ·cases g:G p with
   |none=>exact h.r.da i p hp g
   |some o=>rw [e p o c g] at z;cases z
 ·obtain ⟨p,xs,y1,y2,y3,y4⟩:=h.r.ow i ds x
  refine ⟨p,xs,y1,y2,e p _ ?_ y3,y4.up X⟩
  rintro rfl
  have:=h.r.inj i l _ y1 h.al
  subst this
  rw [h.ul] at x;cases x
theorem RL.all (h:RL l a z0 D G0 A τ ρ G n) (fv:List Nat):Ln fv l (fun b=>D b\/b=a) G τ ρ a n:=by
 refine ⟨fun i _ d hd=>?_,fun b hb=>?_,.inr rfl,h.tl,h.vl,h.lf⟩
 ·unfold vw at hd
  obtain ⟨s,e,hd⟩:=obb hd
  have less:Ex (rs (AD D A) G) (rs (fun b=>D b\/b=a) G):=jM fun b z=>by
   rcases z with z|z
   ·exact .inl z
   ·subst z;exact .inr ⟨l,h.al⟩
  cases s with
  |un=>cases hd
  |sh d'=>
   cases hd
   obtain ⟨t,b,c⟩:=h.r.sh i _ e
   exact ⟨t,b,c.up less⟩
  |ow ds=>
   cases hd
   obtain ⟨p,xs,b,c,g,f⟩:=h.r.ow i _ e
   refine ⟨_,c,.lst ?_ (f.up less)⟩
   rw [QS]
   ·exact g
   ·rintro (z|z)
    ·exact h.r.nd b z
    ·subst z
     have:=h.r.inj i l _ b h.al
     subst this
     rw [h.ul] at e;cases e
 ·rcases hb with hb|hb
  ·exact h.r.domD b hb
  ·subst hb;exact CP h.lf
theorem qqD {m:List Bool} (hm:mkb m l=false) (al:A l=some a):Ad m A l=some a:=by unfold Ad;rw [if_neg (by rw [hm];simp)];exact al
theorem RL.dem (h:RL l a z0 D G0 A τ ρ G n) {m:List Bool} (hm:mkb m l=false):RL l a z0 D G0 (Ad m A) τ (Pu.dm m ρ) G n:=
 ⟨h.r.dem m,qqD hm h.al,h.tl,by rw [qcd,h.ul];simp [hm],h.lf,h.tz⟩
theorem RL.ln (h:RL l a z0 D G0 A τ ρ G n) {m:List Bool} {fv:List Nat} (hm:mkb m l=false) (hf:Tru (fv.all (mkb m))):Ln fv l (AD D (Ad m A)) G τ ρ a n:=
 ⟨h.r.viewD hf,(h.r.dem m).dom,.inr ⟨l,qqD hm h.al⟩,h.tl,h.vl,h.lf⟩
theorem RL.put (h:RL l a z0 D G0 A τ ρ G n) {i:Nat} (hi:i≠l) (h0:i≠0) {x:T} {d:PyData} (hx:Dq (rs (AD D A) G) x d):RL l a z0 D G0 (Er A i) (τ.set i (some x)) (ρ.set i (.sh d)) G n:=
 ⟨h.r.put i hx,by unfold Er;rw [if_neg (fun z=>hi z.symm)];exact h.al,by rw [getElem?_set,if_neg hi];exact h.tl,by rw [getElem?_set,if_neg hi];exact h.ul,h.lf,⟨by rw [getElem?_set,if_neg h0];exact h.tz.1,by rw [List.length_set];exact h.tz.2⟩⟩
theorem RL.puts:∀ {ts:List (Nat×T)} {bs:List (Nat×PyData)} {A:Nat->Option Addr} {τ:St3} {ρ:Rho},RL l a z0 D G0 A τ ρ G n->Bd (rs (AD D A) G) ts bs->(∀ p∈bs,p.1≠l/\p.1≠0)->∃ A',RL l a z0 D G0 A' (sets τ ts) (ZQ ρ bs) G n
 |_,_,A,_,_,h,.nil,_=>⟨A,h⟩
 |_,_,A,_,_,h,.cons x b,hn=>by
  unfold sets ZQ
  exact RL.puts (h.put (hn _ List.mem_cons_self).1 (hn _ List.mem_cons_self).2 x) (b.up qhu) (fun p hp=>hn p (List.mem_cons_of_mem _ hp))
theorem RL.putN (h:RL l a z0 D G0 A τ ρ G n) {i:Nat} (hi:i≠l) (h0:i≠0) {x:T} {d:PyData} {ds:List PyData} (hd:d=.list ds) (E:Ext a G G') (lf:Lf G' a n') (hx:Nw (AD D A) G G' x d):∃ A',RL l a z0 D G0 A' (τ.set i (some x)) (ρ.set i (.ow ds)) G' n':=by
 have h1:=h.up E lf
 rcases hx with hx|⟨p,xs,ds',rfl,e',gp,gp',hs⟩
 ·rw [hd] at hx;cases hx
 rw [hd] at e'
 cases e'
 have np:∀ {j q},A j=some q->q≠p:=fun e=>by rintro rfl;exact h.r.da _ _ e gp
 have X1:Ex (rs (AD D A) G) (rs (AD D (fun j=>if j=i then some p else A j)) G'):=fun b o e=>by
  obtain ⟨n,e⟩:=qT e
  rw [QS]
  ·exact E b o (by rintro rfl;exact n (.inr ⟨l,h.al⟩)) e
  ·rintro (z|⟨j,z⟩)
   ·exact n (.inl z)
   ·simp only at z
    split at z
    ·cases z;rw [gp] at e;cases e
    ·exact n (.inr ⟨j,z⟩)
 refine ⟨fun j=>if j=i then some p else A j,⟨h1.r.ex,h.r.dm,fun j q e=>?_,fun j q e=>?_,fun j k q x y=>?_,by simp [h.r.len],fun j e he=>?_,fun j es e=>?_⟩,by rw [if_neg (fun z=>hi z.symm)];exact h.al,by rw [getElem?_set,if_neg hi];exact h.tl,by rw [getElem?_set,if_neg hi];exact h.ul,lf,⟨by rw [getElem?_set,if_neg h0];exact h.tz.1,by rw [List.length_set];exact h.tz.2⟩⟩
 ·split at e
  ·cases e
   cases z:G0 p with
   |none=>rfl
   |some o=>rw [h.r.ex _ _ z] at gp;cases gp
  ·exact h.r.fr j q e
 ·split at e
  ·cases e;rw [gp'];simp
  ·exact h1.r.da j q e
 ·split at x
  ·cases x
   split at y
   ·rename_i h1 h2;rw [h1,h2]
   ·exact absurd rfl (np y)
  ·split at y
   ·cases y;exact absurd rfl (np x)
   ·exact h.r.inj j k q x y
 ·rw [getElem?_set] at he ⊢
  split at he
  ·split at he<;>cases he
  ·rename_i hj
   rw [if_neg hj]
   obtain ⟨t,b,c⟩:=h.r.sh j _ he
   exact ⟨t,b,c.up X1⟩
 ·rw [getElem?_set] at e ⊢
  split at e
  ·rename_i hj
   subst hj
   split at e
   ·rename_i hl
    cases e
    refine ⟨p,xs,by simp,by rw [if_pos rfl,if_pos (by rw [← h.r.len];exact hl)],gp',hs.up (jM fun b z=>?_)⟩
    rcases z with z|⟨j,z⟩
    ·exact .inl (.inl z)
    ·simp only at z
     split at z
     ·cases z;exact .inr rfl
     ·exact .inl (.inr ⟨j,z⟩)
   ·cases e
  ·rename_i hj
   rw [if_neg hj]
   obtain ⟨q,ys,b,c,g,f⟩:=h1.r.ow j _ e
   obtain ⟨q',ys',b',c',g',f'⟩:=h.r.ow j _ e
   rw [b] at b';cases b'
   have:G' q=some (.lst ys'):=E q _ (by rintro rfl;have:=h.r.inj j l _ b h.al;subst this;rw [h.ul] at e;cases e) g'
   exact ⟨q,ys',by rw [if_neg (fun z=>hj z.symm)];exact b,c,this,f'.up X1⟩
theorem RL.wr (h:RL l a z0 D G0 A τ ρ G n) {i:Nat} {p:Addr} {xs:List T} {ds ds0:List PyData} (ho:ρ[i]?=some (Sl.ow ds0)) (hi:A i=some p) (ht:τ[i]?=some (some (.ref p))) (hs:Dqs (rs (AD D A) G) xs ds):RL l a z0 D G0 A τ (ρ.set i (.ow ds)) (gu G p (.lst xs)) n:=by
 have il:i≠l:=by rintro rfl;rw [h.ul] at ho;cases ho
 have pa:p≠a:=by rintro rfl;exact il (h.r.inj i l _ hi h.al)
 exact ⟨h.r.wr hi ht hs,h.al,h.tl,by rw [getElem?_set,if_neg il];exact h.ul,h.lf.new pa,h.tz⟩
end
abbrev QO:=Ot->Nat->Prop
def qbC (l:Nat) (a:Addr) (z0:Option (Option T)×Nat) (D:Addr->Prop) (G0:Gp) (e:Ends3):Ot->Nat->Prop
 |.nx ρ,n=>∀ A τ G,RL l a z0 D G0 A τ ρ G n->e.nx τ G
 |.bk ρ,n=>∀ A τ G,RL l a z0 D G0 A τ ρ G n->e.bk τ G
 |.ct ρ,n=>∀ A τ G,RL l a z0 D G0 A τ ρ G n->e.ct τ G
 |.rt d fr,n=>∀ x G,Ex G0 G->Lf G a n->Dq (rs (fun b=>D b\/b=a) G) x d->(fr=true->Nw (fun b=>D b\/b=a) G0 G x d)->e.rt x G
structure PwS (l:Nat) (t:TS3) where
 w:Rho->Nat->QO->Prop
 mono:∀ {ρ n} {Q Q':QO},w ρ n Q->(∀ o m,Q o m->Q' o m)->w ρ n Q'
 ok:∀ {a z0 D G0 A τ ρ G n} {e:Ends3} {Q:QO},RL l a z0 D G0 A τ ρ G n->w ρ n Q->(∀ o m,Q o m->qbC l a z0 D G0 e o m)->t e τ G
section
variable {l:Nat}
def qdZ:PwS l qt:=⟨fun ρ n Q=>Q (.nx ρ) n,fun h k=>k _ _ h,fun h hw k=>k _ _ hw _ _ _ h⟩
def sqw (b:Rho->Nat->QO->Prop) (Q:QO):QO:=fun o n=>match o with|.nx ρ'=>b ρ' n Q|o=>Q o n
def qcS {t u:TS3} (x:PwS l t) (y:PwS l u):PwS l (qv t u):=⟨fun ρ n Q=>x.w ρ n (sqw y.w Q),fun h k=>x.mono h fun o m h=>by
  cases o with
  |nx ρ=>exact y.mono h k
  |bk ρ=>exact k _ _ h
  |ct ρ=>exact k _ _ h
  |rt d f=>exact k _ _ h,fun h hw k=>x.ok h hw fun o m h=>by
  cases o with
  |nx ρ=>exact fun A τ G r=>y.ok r h k
  |bk ρ=>exact k _ _ h
  |ct ρ=>exact k _ _ h
  |rt d f=>exact k _ _ h⟩
def wIf {c:TT3} {t u:TS3} (pc:PwC l c) (x:PwS l t) (y:PwS l u):PwS l (qV c t u):=⟨fun ρ n Q=>pc.w ρ n fun k n1=>if k then x.w ρ n1 Q else y.w ρ n1 Q,fun h k=>pc.mono h fun j m h=>by
  cases j with
  |true=>rw [if_pos rfl] at h ⊢;exact x.mono h k
  |false=>exact y.mono h k,fun h hw k=>pc.ok (h.all _) hw fun j G1 n1 hj E1 L1=>by
  cases j with
  |true=>rw [if_pos rfl] at hj ⊢;exact x.ok (h.up E1 L1) hj k
  |false=>exact y.ok (h.up E1 L1) hj k⟩
theorem qiP {a:Addr} {z0:Option (Option T)×Nat} {D:Addr->Prop} {G0 G G':Gp} {A:Nat->Option Addr} {τ:St3} {ρ:Rho} {n:Nat} (h:RL l a z0 D G0 A τ ρ G n) (e:Ext a G G'):Ex G0 G':=fun b o x=>e b o (by rintro rfl;rw [h.r.fr l _ h.al] at x;cases x) (h.r.ex b o x)
def qnP {t:TE3} (x:PwE l t):PwS l (qB t):=⟨fun ρ n Q=>x.w ρ n fun d n1=>Q (.rt d x.nw) n1,fun h k=>x.mono h fun d m h=>k _ _ h,fun h hw k=>x.ok (h.all _) hw fun y d G1 n1 hq E1 L1 D1 N1=>k _ _ hq y G1 (qiP h E1) L1 D1 fun z=>(N1 z).back h.r.ex⟩
def qiB {t:TE3} (x:PwE l t) (i:Nat) (m:List Bool) (hm:Tru (x.fv.all (mkb m))) (hl:Tru (!mkb m l&&(i != l&&i != 0))):PwS l (qH t (gn3 i)):=⟨fun ρ n Q=>x.w ρ n fun d n1=>Q (.nx (qbv m x.nw i d ρ)) n1,fun h k=>x.mono h fun d m h=>k _ _ h,fun {a z0 D G0 A τ ρ G n e Q} h hw k=>by
 have hl':mkb m l=false/\i≠l/\i≠0:=by simpa using hl.h
 refine x.ok (h.ln hl'.1 hm) hw fun y d G1 n1 hq E1 L1 D1 N1=>?_
 have k:=k _ _ hq
 unfold qbv at k
 show e.nx (τ.set i (some y)) G1
 split at k
 ·rename_i hs
  exact k _ _ _ ((h.up E1 L1).put hl'.2.1 hl'.2.2 (XI D1 hs))
 ·split at k
  ·rename_i hn
   have N:=N1 hn
   rcases id N with h2|⟨p,xs,ds,h1,h2,_⟩
   ·subst h2;rename_i hs;exact absurd rfl hs
   subst h2
   obtain ⟨A',r⟩:=(h.dem hl'.1).putN hl'.2.1 hl'.2.2 rfl E1 L1 N
   exact k _ _ _ r
  ·exact k _ _ _ (((h.dem hl'.1).up E1 L1).put hl'.2.1 hl'.2.2 D1)⟩
def qmt {t:TE3} {g:TG3} (x:PwE l t) (pg:PuG g) (m:List Bool) (hm:Tru (x.fv.all (mkb m))) (hl:Tru (!mkb m l&&pg.tg.all (fun i=>i != l&&i != 0))):PwS l (qH t g):=⟨fun ρ n Q=>x.w ρ n fun d n1=>∃ bs,pg.f d=some bs/\Q (.nx (ZQ (dm m ρ) bs)) n1,fun h k=>x.mono h fun d m ⟨bs,h1,h2⟩=>⟨bs,h1,k _ _ h2⟩,fun {a z0 D G0 A τ ρ G n e Q} h hw k=>by
 have hl':mkb m l=false/\∀ i∈pg.tg,i≠l/\i≠0:=by simpa using hl.h
 refine x.ok (h.ln hl'.1 hm) hw fun y d G1 n1 ⟨bs,e2,hq⟩ E1 L1 D1 N1=>?_
 obtain ⟨ts,bd,kg⟩:=pg.ok D1 e2
 refine kg _ _ _ ?_
 obtain ⟨A',h'⟩:=((h.dem hl'.1).up E1 L1).puts bd (fun p hp=>hl'.2 _ (pg.at' e2 p hp))
 exact k _ _ hq _ _ _ h'⟩
def qp4 {t:TA3} (x:PwA l t) (i j:Nat) (m:List Bool) (hm:Tru (x.fv.all (mkb m))) (hl:Tru (!mkb m l&&((i != l&&i != 0)&&(j != l&&j != 0)))):PwS l (j7 i j t):=⟨fun ρ n Q=>x.w ρ n fun ds n1=>∃ o,qfM i j m ds ρ=some o/\Q o n1,fun h k=>x.mono h fun d m ⟨bs,h1,h2⟩=>⟨bs,h1,k _ _ h2⟩,fun {a z0 D G0 A τ ρ G n e Q} h hw k=>by
 have hl':mkb m l=false/\(i≠l/\i≠0)/\j≠l/\j≠0:=by simpa using hl.h
 refine x.ok (h.ln hl'.1 hm) hw fun y d G1 n1 ⟨o,e2,hq⟩ hlen E1 L1 D1=>?_
 unfold qfM at e2
 split at e2
 ·cases D1 with
  |cons x1 b=>cases b with
   |cons x2 c=>
    cases c
    split at e2
    ·rename_i hs
     cases e2
     rw [Bool.and_eq_true] at hs
     exact k _ _ hq _ _ _ (((h.up E1 L1).put hl'.2.1.1 hl'.2.1.2 (XI x1 hs.1)).put hl'.2.2.1 hl'.2.2.2 (XI x2 hs.2))
    ·cases e2
     exact k _ _ hq _ _ _ ((((h.dem hl'.1).up E1 L1).put hl'.2.1.1 hl'.2.1.2 x1).put hl'.2.2.1 hl'.2.2.2 (x2.up qhu))
 ·cases e2⟩
theorem RL.evalS {a:Addr} {z0:Option (Option T)×Nat} {D:Addr->Prop} {G0 G:Gp} {A:Nat->Option Addr} {τ:St3} {ρ:Rho} {n:Nat} (h:RL l a z0 D G0 A τ ρ G n) {t:TE3} (x:PwE l t) (m:List Bool) (hm:Tru (x.fv.all (mkb m))) (hl:mkb m l=false) {Q:QD} (hw:x.w ρ n Q) (q:Q3) (k:∀ y d G' n' A1,Q d n'->RL l a z0 D G0 A1 τ (dmS m d ρ) G' n'->Ext a G G'->Dq (rs (AD D A1) G') y d->q y G'):t τ G q:=by
 refine x.ok (h.ln hl hm) hw fun y d G1 n1 hq E1 L1 D1 _=>?_
 by_cases hs:qeY d=true
 ·exact k y d G1 n1 A hq (by unfold dmS;rw [if_pos hs];exact h.up E1 L1) E1 (XI D1 hs)
 ·exact k y d G1 n1 _ hq (by unfold dmS;rw [if_neg hs];exact (h.dem hl).up E1 L1) E1 D1
def qeq (gf:PyData->Option (List (Nat×PyData))) (bw:Rho->Nat->QO->Prop):List PyData->Rho->Nat->QO->Prop
 |[],ρ,n,Q=>Q (.nx ρ) n
 |d::r,ρ,n,Q=>∃ bs,gf d=some bs/\bw (ZQ ρ bs) n fun o n1=>match o with
  |.nx ρ'=>qeq gf bw r ρ' n1 Q
  |.ct ρ'=>qeq gf bw r ρ' n1 Q
  |.bk ρ'=>Q (.nx ρ') n1
  |.rt d b=>Q (.rt d b) n1
theorem RK {g:TG3} {tb:TS3} (pg:PuG g) (pb:PwS l tb):∀ {ds:List PyData} {ρ:Rho} {n:Nat} {Q Q':QO},qeq pg.f pb.w ds ρ n Q->(∀ o m,Q o m->Q' o m)->qeq pg.f pb.w ds ρ n Q'
 |[],_,_,_,_,h,k=>k _ _ h
 |d::r,_,_,_,_,⟨bs,e,h⟩,k=>⟨bs,e,pb.mono h fun o m h=>by
   cases o with
   |nx ρ=>exact RK pg pb h k
   |ct ρ=>exact RK pg pb h k
   |bk ρ=>exact k _ _ h
   |rt d b=>exact k _ _ h⟩
theorem TL {stay:Gp->Prop} {g:TG3} {tb:TS3} {e:Ends3} (pg:PuG g) (pb:PwS l tb) {a:Addr} {z0:Option (Option T)×Nat} {D:Addr->Prop} {G0:Gp} {Q:QO} (hl:∀ i∈pg.tg,i≠l/\i≠0) (hs:∀ A τ ρ G n,RL l a z0 D G0 A τ ρ G n->stay G) (k:∀ o m,Q o m->qbC l a z0 D G0 e o m) :
  ∀ (ds:List PyData) (items:List T),(∀ A τ ρ G n,RL l a z0 D G0 A τ ρ G n->Dqs (rs (AD D A) G) items ds)->∀ A τ ρ G n,RL l a z0 D G0 A τ ρ G n->qeq pg.f pb.w ds ρ n Q->T3 stay g tb e items τ G
 |[],items,hi,A,τ,ρ,G,n,h,hw=>by
  have:=hi _ _ _ _ _ h
  cases this
  exact ⟨hs _ _ _ _ _ h,k _ _ hw _ _ _ h⟩
 |d::ds,items,hi,A,τ,ρ,G,n,h,⟨bs,e1,hw⟩=>by
  have hh:=hi _ _ _ _ _ h
  cases hh with
  |cons hx hr=>
   rename_i x items
   obtain ⟨ts,bd,kg⟩:=pg.ok hx e1
   refine ⟨hs _ _ _ _ _ h,kg _ _ _ ?_⟩
   obtain ⟨A',h'⟩:=h.puts bd fun p hp=>hl _ (pg.at' e1 p hp)
   have hi':∀ A τ ρ G n,RL l a z0 D G0 A τ ρ G n->Dqs (rs (AD D A) G) items ds:=fun A τ ρ G n h=>by
    have:=hi _ _ _ _ _ h
    cases this with
    |cons a b=>exact b
   refine pb.ok h' hw fun o m hq=>?_
   cases o with
   |nx ρ'=>exact fun A2 τ2 G2 h2=>TL pg pb hl hs k ds items hi' _ _ _ _ _ h2 hq
   |ct ρ'=>exact fun A2 τ2 G2 h2=>TL pg pb hl hs k ds items hi' _ _ _ _ _ h2 hq
   |bk ρ'=>exact k _ _ hq
   |rt d fr=>exact k _ _ hq
theorem RL.base {a:Addr} {z0:Option (Option T)×Nat} {D:Addr->Prop} {G0 Gb G:Gp} {A:Nat->Option Addr} {τ:St3} {ρ:Rho} {n:Nat} (h:RL l a z0 D Gb A τ ρ G n) (e:Ex G0 Gb) (hd:Dom D G0):RL l a z0 D G0 A τ ρ G n:=⟨h.r.base e hd,h.al,h.tl,h.ul,h.lf,h.tz⟩
theorem qbC.base {a:Addr} {z0:Option (Option T)×Nat} {D:Addr->Prop} {G0 Gb:Gp} {e:Ends3} {o:Ot} {n:Nat} (h:qbC l a z0 D G0 e o n) (x:Ex G0 Gb) (hd:Dom D G0):qbC l a z0 D Gb e o n:=by
 cases o with
 |nx ρ=>exact fun A τ G r=>h A τ G (r.base x hd)
 |bk ρ=>exact fun A τ G r=>h A τ G (r.base x hd)
 |ct ρ=>exact fun A τ G r=>h A τ G (r.base x hd)
 |rt d fr=>exact fun y G p q r z=>h y G (x.trans p) q r fun w=>(z w).back x
def qps {wi:TI3} {g:TG3} {tb:TS3} (pi:PwI l wi) (pg:PuG g) (pb:PwS l tb) (m:List Bool) (hm:Tru (pi.fv.all (mkb m))) (hl:Tru (!mkb m l&&pg.tg.all (fun i=>i != l&&i != 0))):PwS l (RU wi g tb):=⟨fun ρ n Q=>pi.w ρ n fun ds n1=>qeq pg.f pb.w ds (if pi.nm then ρ else dm m ρ) n1 Q,fun h k=>pi.mono h fun d m h=>RK pg pb h k,fun {a z0 D G0 A τ ρ G n e Q} h hw k=>by
 have hl':mkb m l=false/\∀ i∈pg.tg,i≠l/\i≠0:=by simpa using hl.h
 refine pi.ok (h.ln hl'.1 hm) hw fun items stay ds G1 n1 hq E1 L1 D1 hs hnm=>?_
 cases hb:pi.nm with
 |true=>
  rw [hb,if_pos rfl] at hq
  obtain ⟨ns,rfl⟩:=hnm hb
  have:=D1.ints
  subst this
  exact TL pg pb hl'.2 (fun _ _ _ _ _ _=>hs _ (.inl hb)) k _ _ (fun A τ ρ G _ _=>Dqs.ofInts _) _ _ _ _ _ (h.up E1 L1) hq
 |false=>
  rw [hb,if_neg Bool.false_ne_true] at hq
  have h1:=(h.dem hl'.1).up E1 L1
  have b1:Ex G0 (rs (fun b=>∃ i,Ad m A i=some b) G1):=fun b o e=>by
   rw [QS]
   ·exact h1.r.ex _ _ e
   ·rintro ⟨i,z⟩;rw [h1.r.fr i _ z] at e;cases e
  have h2:RL l a z0 D (rs (fun b=>∃ i,Ad m A i=some b) G1) (Ad m A) τ (dm m ρ) G1 n1:=⟨⟨ET,h.r.dm.up b1,fun i p z=>by unfold rs;exact jd ⟨i,z⟩,h1.r.da,h1.r.inj,h1.r.len,h1.r.sh,h1.r.ow⟩,h1.al,h1.tl,h1.ul,h1.lf,h1.tz⟩
  have X:∀ A2 τ2 ρ2 G2,RS D (rs (fun b=>∃ i,Ad m A i=some b) G1) A2 τ2 ρ2 G2->Ex (rs (AD D (Ad m A)) G1) (rs (AD D A2) G2):=fun A2 τ2 ρ2 G2 r b o e=>by
   obtain ⟨n1,e⟩:=qT e
   have eb:rs (fun b=>∃ i,Ad m A i=some b) G1 b=some o:=by rw [QS (fun z=>n1 (.inr z))];exact e
   rw [QS]
   ·exact r.ex _ _ eb
   ·rintro (z|⟨i,z⟩)
    ·exact n1 (.inl z)
    ·rw [r.fr i _ z] at eb;cases eb
  exact TL pg pb hl'.2 (fun A2 τ2 ρ2 G2 n2 r=>hs _ (.inr ((X _ _ _ _ r.r).trans ET))) (fun o m hq=>(k o m hq).base b1 h.r.dm) _ _ (fun A2 τ2 ρ2 G2 n2 r=>D1.up (X _ _ _ _ r.r)) _ _ _ _ _ h2 hq⟩
end
def DSp (W:List PyData->Nat->QD->Prop) (fr:Bool):Sp3:=fun ts G q=>∃ (D:Addr->Prop) (a:Addr) (n:Nat) (ts':List T) (ds:List PyData) (Q:QD),ts=.ref a::ts'/\Lf G a n/\D a/\Dom D G/\Dqs (rs D G) ts' ds/\W ds n Q/\∀ x d G' n',Q d n'->Ext a G G'->Lf G' a n'->Dq (rs D G') x d->(fr=true->Nw D G G' x d)->q x G'
structure Wm where
 W:List PyData->Nat->QD->Prop
 mono:∀ {ds n} {Q Q':QD},W ds n Q->(∀ d m,Q d m->Q' d m)->W ds n Q'
def dSp (w:Wm) (fr:Bool):DrD (DSp w.W fr):=⟨w.W,fr,w.mono,fun {D G a n ts ds q Q} lf da hd hs hw k=>⟨D,a,n,ts,ds,Q,rfl,lf,da,hd,hs,hw,k⟩⟩
def qop (fr:Bool) (Q:QD):QO:=fun o n=>match o with
 |.rt d b=>(fr=true->b=true)/\∃ m,n<=m/\Q d m
 |.nx _=>fr=false/\∃ m,n<=m/\Q .none m
 |_=>False
def qp2 {t:TS3} (b:PwS 0 t) (k N:Nat) (fr:Bool):Wm:=⟨fun ds n Q=>ds.length+1=k/\b.w (.un::(ds.map Sl.sh++List.replicate (N-(ds.length+1)) .un)) n (qop fr Q),fun ⟨h1,h2⟩ k=>⟨h1,b.mono h2 fun o m h=>by
 cases o with
 |rt d f=>obtain ⟨h1,m,h2,h3⟩:=h;exact ⟨h1,m,h2,k _ _ h3⟩
 |nx ρ=>obtain ⟨h1,m,h2,h3⟩:=h;exact ⟨h1,m,h2,k _ _ h3⟩
 |bk ρ=>exact h
 |ct ρ=>exact h⟩⟩
theorem qhm {t:TS3} (b:PwS 0 t) (N:List Str) (k:Nat) (fr:Bool):∀ ts G q,DSp (qp2 b k N.length fr).W fr ts G q->ts.length=k/\t { nx:=fun _ G'=>q .non G',rt:=q } (qk N ts) G:=by
 rintro ts G q ⟨D,a,n,ts',ds,Q,rfl,lf,da,hd,hs,⟨hk,hw⟩,h⟩
 refine ⟨by simp [hs.length];omega,?_⟩
 have DD:∀ b,(D b/\b≠a)\/b=a↔D b:=fun b=>by
  by_cases e:b=a
  ·subst e;simp [da]
  ·simp [e]
 have rr:∀ H,rs (fun b=>(D b/\b≠a)\/b=a) H=rs D H:=fun H=>by
  have:(fun b=>(D b/\b≠a)\/b=a)=D:=funext fun b=>propext (DD b)
  rw [this]
 have ad:AD (fun b=>D b/\b≠a) (fun i=>if i=0 then some a else none)=D:=funext fun b=>propext ⟨(fun z=>by
   rcases z with z|⟨i,z⟩
   ·exact z.1
   ·simp only at z
    split at z
    ·cases z;exact da
    ·cases z),(fun z=>by
   by_cases e:b=a
   ·subst e;exact .inr ⟨0,rfl⟩
   ·exact .inl ⟨z,e⟩)⟩
 have ga:G a≠none:=CP lf
 have r:RL 0 a (some (some (.ref a)),(qk N (.ref a::ts')).length) (fun b=>D b/\b≠a) (rs (fun b=>b=a) G) (fun i=>if i=0 then some a else none) (qk N (.ref a::ts')) (.un::(ds.map Sl.sh++List.replicate (N.length-(ds.length+1)) .un)) G n:=by
  refine ⟨⟨ET,fun b hb=>by rw [QS (D:=fun b=>b=a) hb.2];exact hd b hb.1,fun i p e=>?_,fun i p e=>?_,fun i j p e e'=>?_,by simp [qk,hs.length],fun i d' e=>?_,fun i es e=>?_⟩,rfl,by simp [qk],rfl,lf,⟨by simp [qk],rfl⟩⟩
  ·split at e
   ·cases e;unfold rs;exact jd rfl
   ·cases e
  ·split at e
   ·cases e;exact ga
   ·cases e
  ·split at e
   ·split at e'
    ·rename_i h1 h2;rw [h1,h2]
    ·cases e'
   ·cases e
  ·rw [ad]
   cases i with
   |zero=>cases e
   |succ i=>
    rw [getElem?_cons_succ] at e
    by_cases hi:i<ds.length
    ·rw [List.getElem?_append_left (by simpa using hi),getElem?_map] at e
     obtain ⟨d2,e3,e4⟩:=Option.map_eq_some_iff.mp e
     cases e4
     obtain ⟨x,e5,hx⟩:=hs.get e3
     refine ⟨x,?_,hx⟩
     unfold qk
     rw [List.getElem?_append_left (by simp [hs.length];exact hi),getElem?_map,getElem?_cons_succ,e5];rfl
    ·rw [List.getElem?_append_right (by simpa using hi),List.getElem?_replicate] at e
     split at e<;>cases e
  ·cases i with
   |zero=>cases e
   |succ i=>
    rw [getElem?_cons_succ] at e
    by_cases hi:i<ds.length
    ·rw [List.getElem?_append_left (by simpa using hi),getElem?_map] at e
     obtain ⟨d2,e3,e4⟩:=Option.map_eq_some_iff.mp e
     cases e4
    ·rw [List.getElem?_append_right (by simpa using hi),List.getElem?_replicate] at e
     split at e<;>cases e
 have xe:∀ {G'},Ex (rs (fun b=>b=a) G) G'->Ext a G G':=fun e b o n x=>e b o (by rw [QS (D:=fun b=>b=a) n];exact x)
 refine b.ok r hw fun o m hq=>?_
 cases o with
 |rt d f=>
  intro x G' E L Dx0 N
  have Dx:=Dx0
  rw [rr] at Dx
  obtain ⟨hq1,m2,hm,hq2⟩:=hq
  refine h x d G' m2 hq2 (xe E) (L.mono (by omega)) Dx fun z=>?_
  rcases N (hq1 z) with h2|⟨p,xs,ds',h1,h2,c,g,f'⟩
  ·exact .inl h2
  have np:p≠a:=by
   rintro rfl
   rw [h1] at Dx0
   cases Dx0 with
   |lst g0 _=>exact (qT g0).1 (.inr rfl)
  refine .inr ⟨p,xs,ds',h1,h2,by rw [QS (D:=fun b=>b=a) np] at c;exact c,g,f'.up (jM fun b z=>?_)⟩
  rcases z with z|z
  ·exact .inl ((DD b).mpr z)
  ·exact .inr z
 |nx ρ=>
  obtain ⟨hq1,m2,hm,hq2⟩:=hq
  exact fun A τ G' r'=>h .non .none G' m2 hq2 (xe r'.r.ex) (r'.lf.mono (by omega)) .non fun z=>by rw [hq1] at z;cases z
 |bk ρ=>exact hq.elim
 |ct ρ=>exact hq.elim
end Pu
namespace Pu
open PySem L2 L3
open Bk (Lf Ext Dl Wk Dr)
def okW:QO:=fun o _=>match o with|.nx _=>True|.ct _=>True|_=>False
def qqy (K:Int):TE3:=o3 qW (c3 (.int 1)) (cb3 VP (qc (c3 (.int K)) (qc (cb3 jT (qc (v3 0) qh)) qh)))
theorem qlX {i:Nat} {τ:St3} {t:T} {G:Gp} {q:Q3} (h:τ[i]?=some (some t)):v3 i τ G q=q t G:=by unfold v3;rw [h]
def qqs (K:Int) (R:TS3):TS3:=qv (RU (zA (qc (qqy K) qh)) (gn3 1) (qv (qH (cb3 Bk.J1 (qc (v3 0) (qc (v3 1) qh))) (gn3 2)) R)) (qB (c3 (.bl true)))
theorem qez {R:TS3} (b:PwS 2 R) (N:List Str) (K:Int) (M:Nat) (hK:0<=K/\K<=60) (hN:N.length=M+3) (h:∀ k:Nat,k<=60->b.w ([.un,.sh (.int k),.un]++List.replicate M .un) 0 okW):∀ ts G q,SL ts G q->ts.length=1/\qqs K R { nx:=fun _ G'=>q .non G',rt:=q } (qk N ts) G:=by
 rintro ts G q ⟨a,ns,rfl,hG,hl,hq⟩
 refine ⟨rfl,?_⟩
 have s0:(qk N [T.ref a])[0]?=some (some (.ref a)):=by simp [qk]
 have gl:getL G a=some (ns.map T.int):=by unfold getL;rw [hG]
 simp only [qqs,qv,RU,zA,qqy,qc,qh,o3,c3,cb3,v3,s0,jT,gl,VP,qW,length_map]
 have cnt:((1+(if ((ns.length:Nat):Int)<K then ((ns.length:Nat):Int) else K)).toNat)<=61:=by split<;>omega
 refine ⟨⟨by split<;>omega,by split<;>omega⟩,?_⟩
 refine VG _ (fun _ τ G'=>G' a=some (.frz (ns.map T.int))/\τ[0]?=some (some (.ref a))/\τ.length=M+3) ⟨hG,s0,by simp [qk,hN]⟩ (fun _ _ _ _ _=>True.intro) ?_ ?_
 ·rintro i z τ G' nx hz ⟨gA,t0,tl⟩ hn
  obtain ⟨hi,rfl⟩:=TX hz
  have hi2:i<=60:=by omega
  have t1:(τ.set 1 (some (T.int (0+(i:Int)))))[0]?=some (some (.ref a)):=by rw [getElem?_set,if_neg (by omega)];exact t0
  have t2:(τ.set 1 (some (T.int (0+(i:Int)))))[1]?=some (some (T.int (0+(i:Int)))):=by rw [getElem?_set,if_pos rfl,if_pos (by omega)]
  show v3 0 (τ.set 1 (some (T.int (0+(i:Int))))) G' (fun x G1=>v3 1 (τ.set 1 (some (T.int (0+(i:Int))))) G1 fun y G2=>Bk.J1 [x,y] G2 fun z G3=>R _ ((τ.set 1 (some (T.int (0+(i:Int))))).set 2 (some z)) G3)
  rw [qlX t1,qlX t2]
  refine ⟨a,_,ns,rfl,gA,hl,by omega,by omega,fun p o c hp ho=>?_⟩
  have pa:a≠p:=by rintro rfl;rw [gA] at hp;cases hp
  have r:RL 2 p (some (some (.ref a)),M+3) (fun _=>False) G' (fun j=>if j=2 then some p else none) ((τ.set 1 (some (T.int (0+(i:Int))))).set 2 (some (.ref p))) ([.un,.sh (.int i),.un]++List.replicate M .un) (gu G' p (.lst [.int o,.int c,.int 0])) 0:=by
   refine ⟨⟨QN hp,fun b z=>z.elim,fun j q e=>?_,fun j q e=>?_,fun j k q e e'=>?_,by simp [tl],fun j d e=>?_,fun j ds e=>?_⟩,rfl,by rw [getElem?_set,if_pos rfl,if_pos (by simp;omega)],rfl,⟨o,c,0,qw,ho,by omega,by omega⟩,⟨by rw [getElem?_set,if_neg (by omega)];exact t1,by simp [tl]⟩⟩
   ·split at e
    ·cases e;exact hp
    ·cases e
   ·split at e
    ·cases e;rw [qw];simp
    ·cases e
   ·split at e
    ·split at e'
     ·rename_i h1 h2;rw [h1,h2]
     ·cases e'
    ·cases e
   ·match j,e with
    |0,e=>cases e
    |1,e=>
     cases e
     refine ⟨.int (0+(i:Int)),by rw [getElem?_set,if_neg (by omega)];exact t2,?_⟩
     rw [Int.zero_add];exact .int _
    |2,e=>cases e
    |j+3,e=>
     simp only [cons_append,List.nil_append,getElem?_cons_succ,List.getElem?_replicate] at e
     split at e<;>cases e
   ·match j,e with
    |0,e=>cases e
    |1,e=>cases e
    |2,e=>cases e
    |j+3,e=>
     simp only [cons_append,List.nil_append,getElem?_cons_succ,List.getElem?_replicate] at e
     split at e<;>cases e
  refine b.ok r (h i hi2) fun o' m ho'=>?_
  cases o' with
  |nx ρ'=>exact fun A τ' G2 r2=>hn _ _ ⟨r2.r.ex _ _ gA,r2.tz.1,r2.tz.2⟩
  |ct ρ'=>exact fun A τ' G2 r2=>hn _ _ ⟨r2.r.ex _ _ gA,r2.tz.1,r2.tz.2⟩
  |bk ρ'=>exact ho'.elim
  |rt d f=>exact ho'.elim
 ·rintro τ G' ⟨gA,t0,tl⟩
  exact hq G'
theorem qc1 {G:Gp} {ts:List T} (h:Dqs G ts []):ts=[]:=by cases h;rfl
theorem qoF {G:Gp} {ts:List T} {i:Int} (h:Dqs G ts [.int i]):ts=[.int i]:=by
 cases h with
 |cons a b=>cases b;cases a;rfl
theorem lfc {G:Gp} {a:Addr} {n c:Nat} (h:Lf G a ((n:Int)+(c:Int))):Lf G a ((n+c:Nat):Int):=by rw [Int.natCast_add];exact h
def qcm:DrD Bk.qE:=⟨fun ds n Q=>∃ m:Int,ds=[.int m]/\(1<=m/\m<1073741824)/\n<1000000000/\∀ d:Int,0<=d->d<m->Q (.int d) (n+1),false,
 fun ⟨m,h1,h2,h3,h4⟩ k=>⟨m,h1,h2,h3,fun d x y=>k _ _ (h4 d x y)⟩,fun {D G a n ts ds q Q} lf da hd hs ⟨m,h1,h2,h3,h4⟩ k=>by
 subst h1
 have:=qoF hs;subst this
 exact ⟨a,n,m,rfl,h2.1,h2.2,lf,by omega,fun d G' x y L E=>k _ _ G' (n+1) (h4 d x y) E (lfc (c:=1) L) (.int d) (fun z=>by cases z)⟩⟩
def qnM:DrD Bk.J0:=⟨fun ds n Q=>ds=[]/\n<1000000/\∀ w:Wk,w.Ok->Q (Pv.Wk.d w) (n+60),false,
 fun ⟨h1,h3,h4⟩ k=>⟨h1,h3,fun w x=>k _ _ (h4 w x)⟩,fun {D G a n ts ds q Q} lf da hd hs ⟨h1,h3,h4⟩ k=>by
 subst h1
 have:=qc1 hs;subst this
 exact ⟨a,n,rfl,lf,by omega,fun w G' x L E=>k _ _ G' (n+60) (h4 w x) E (lfc (c:=60) L) (Pv.qoY _ w) (fun z=>by cases z)⟩⟩
def qaJ:DrD Bk.jZ:=⟨fun ds n Q=>ds=[]/\n<100000/\∀ d:Dl,Dr d 16 16 32->d.dep<=2->Q (Pv.dlD d) (n+1000),false,
 fun ⟨h1,h3,h4⟩ k=>⟨h1,h3,fun d x y=>k _ _ (h4 d x y)⟩,fun {D G a n ts ds q Q} lf da hd hs ⟨h1,h3,h4⟩ k=>by
 subst h1
 have:=qc1 hs;subst this
 exact ⟨a,n,rfl,lf,by omega,fun d G' a1 a2 L E=>k _ _ G' (n+1000) (h4 d a1 a2) E (lfc (c:=1000) L) (Pv.qhC _ _) (fun z=>by cases z)⟩⟩
def qhi (n:Nat):FnD (Bk.jV (n+1)):=⟨fun ds=>match ds with|[d,e]=>cif (d=e/\Bk.DJ n d) (some (.bool true)) none|_=>none,false,fun {D G xs ds v q} hx hd hf k=>by
 split at hf
 ·unfold cif at hf
  split at hf
  ·rename_i c
   cases hf
   obtain ⟨rfl,c⟩:=c
   cases hx with
   |cons x b=>cases b with
    |cons y b=>
     cases b
     exact ⟨_,_,_,rfl,(x.up ET).dp,(y.up ET).dp,c,fun G' E=>k _ _ E (.bl true) (fun z=>by cases z)⟩
  ·cases hf
 ·cases hf⟩
theorem qds {n:Nat} {d:PyData} (h:Bk.DJ n d):(qhi n).f [d,d]=some (.bool true):=jd ⟨rfl,h⟩
theorem qjM {l:Nat} {t:TE3} {b:PuE t}:(eOf (l:=l) b).w=fun ρ n Q=>∃ d,b.f ρ=some d/\Q d n:=id rfl
theorem qlK {l:Nat} {t:TT3} {b:PuC t}:(cOf (l:=l) b).w=fun ρ n Q=>∃ d,b.f ρ=some d/\Q d n:=id rfl
theorem qlS {l:Nat} {t:TA3} {b:PuA t}:(aOf (l:=l) b).w=fun ρ n Q=>∃ d,b.f ρ=some d/\Q d n:=id rfl
theorem qnm {l:Nat} {t:TI3} {b:PuI t}:(iOf (l:=l) b).w=fun ρ n Q=>∃ d,b.f ρ=some d/\Q d n:=id rfl
theorem qp9 {l:Nat} {r:R3} {ta tb:TE3} {R:OpD r} {a:PwE l ta} {b:PwE l tb}:(eO R a b).w=fun ρ n Q=>a.w ρ n fun x n1=>b.w ρ n1 fun y n2=>∃ v,R.f x y=some v/\Q v n2:=id rfl
theorem qby {l:Nat} {ta:TE3} {tr:TA3} {a:PwE l ta} {r:PwA l tr}:(M9 a r).w=fun ρ n Q=>a.w ρ n fun x n1=>r.w ρ n1 fun xs n2=>Q (x::xs) n2:=id rfl
theorem qgr {l:Nat} {t:TA3} {b:PwA l t} {hn:Tru (Nat.ble b.k 1000)}:(qn4 b hn).w=fun ρ n Q=>b.w ρ n fun xs n1=>Q (.tuple xs) n1:=id rfl
theorem qnb {l:Nat} {r:List T->Gp->Q3->Prop} {t:TA3} {R:DrD r} {b:PwA l t}:(eDr R b).w=fun ρ n Q=>b.w ρ n fun xs n1=>R.W xs n1 Q:=id rfl
theorem qe0 {l:Nat} {t:TI3} {b:PuI t}:(iOf (l:=l) b).nm=b.nm:=id rfl
theorem qf2 {l:Nat} {t:TE3} {b:PuE t}:(eOf (l:=l) b).nw=b.nw:=id rfl
theorem qkw {l:Nat} {r:R3} {ta tb:TE3} {R:OpD r} {a:PwE l ta} {b:PwE l tb}:(eO R a b).nw=R.nw:=id rfl
theorem qcc {l:Nat} {t:TA3} {b:PwA l t} {hn:Tru (Nat.ble b.k 1000)}:(qn4 b hn).nw=false:=id rfl
theorem qeK {l:Nat} {r:List T->Gp->Q3->Prop} {t:TA3} {R:DrD r} {b:PwA l t}:(eDr R b).nw=R.nw:=id rfl
theorem qcD {l:Nat}:(qdZ (l:=l)).w=fun ρ n Q=>Q (.nx ρ) n:=id rfl
theorem qgy {l:Nat} {t u:TS3} {x:PwS l t} {y:PwS l u}:(qcS x y).w=fun ρ n Q=>x.w ρ n (sqw y.w Q):=id rfl
theorem qgs {b:Rho->Nat->QO->Prop} {Q:QO} {ρ:Rho} {n:Nat}:sqw b Q (.nx ρ) n=b ρ n Q:=id rfl
theorem qgI {b:Rho->Nat->QO->Prop} {Q:QO} {d:PyData} {f:Bool} {n:Nat}:sqw b Q (.rt d f) n=Q (.rt d f) n:=id rfl
theorem qkW {l:Nat} {c:TT3} {t u:TS3} {pc:PwC l c} {x:PwS l t} {y:PwS l u}:(wIf pc x y).w=fun ρ n Q=>pc.w ρ n fun k n1=>if k then x.w ρ n1 Q else y.w ρ n1 Q:=id rfl
theorem qeO {l:Nat} {t:TE3} {x:PwE l t}:(qnP x).w=fun ρ n Q=>x.w ρ n fun d n1=>Q (.rt d x.nw) n1:=id rfl
theorem qgC {l:Nat} {t:TE3} {x:PwE l t} {i:Nat} {m:List Bool} {hm:Tru (x.fv.all (mkb m))} {hl:Tru (!mkb m l&&(i != l&&i != 0))}:(qiB x i m hm hl).w=fun ρ n Q=>x.w ρ n fun d n1=>Q (.nx (qbv m x.nw i d ρ)) n1:=id rfl
theorem qcZ {l:Nat} {t:TE3} {g:TG3} {x:PwE l t} {pg:PuG g} {m:List Bool} {hm:Tru (x.fv.all (mkb m))} {hl:Tru (!mkb m l&&pg.tg.all (fun i=>i != l&&i != 0))}:(qmt x pg m hm hl).w=fun ρ n Q=>x.w ρ n fun d n1=>∃ bs,pg.f d=some bs/\Q (.nx (ZQ (dm m ρ) bs)) n1:=id rfl
theorem qgJ {l:Nat} {t:TA3} {x:PwA l t} {i j:Nat} {m:List Bool} {hm:Tru (x.fv.all (mkb m))} {hl:Tru (!mkb m l&&((i != l&&i != 0)&&(j != l&&j != 0)))}:(qp4 x i j m hm hl).w=fun ρ n Q=>x.w ρ n fun ds n1=>∃ o,qfM i j m ds ρ=some o/\Q o n1:=id rfl
theorem qfJ {l:Nat} {wi:TI3} {g:TG3} {tb:TS3} {pi:PwI l wi} {pg:PuG g} {pb:PwS l tb} {m:List Bool} {hm:Tru (pi.fv.all (mkb m))} {hl:Tru (!mkb m l&&pg.tg.all (fun i=>i != l&&i != 0))}:(qps pi pg pb m hm hl).w=fun ρ n Q=>pi.w ρ n fun ds n1=>qeq pg.f pb.w ds (if pi.nm then ρ else dm m ρ) n1 Q:=id rfl
theorem qct {ds:List PyData} {n:Nat} {Q:QD}:qcm.W ds n Q=(∃ m:Int,ds=[.int m]/\(1<=m/\m<1073741824)/\n<1000000000/\∀ d:Int,0<=d->d<m->Q (.int d) (n+1)):=id rfl
theorem qb6 {ds:List PyData} {n:Nat} {Q:QD}:qnM.W ds n Q=(ds=[]/\n<1000000/\∀ w:Wk,w.Ok->Q (Pv.Wk.d w) (n+60)):=id rfl
theorem SF {ds:List PyData} {n:Nat} {Q:QD}:qaJ.W ds n Q=(ds=[]/\n<100000/\∀ d:Dl,Dr d 16 16 32->d.dep<=2->Q (Pv.dlD d) (n+1000)):=id rfl
theorem qaI:qcm.nw=false:=id rfl
theorem qmM {w:Wm} {fr:Bool}:(dSp w fr).W=w.W:=id rfl
theorem qcJ {Q:QD} {d:PyData} {b:Bool} {n:Nat}:qop false Q (.rt d b) n=∃ m,n<=m/\Q d m:=propext ⟨fun h=>h.2,fun h=>⟨fun z=>(Bool.false_ne_true z).elim,h⟩⟩
theorem qfq {ρ:Rho} {n:Nat}:okW (.nx ρ) n=True:=id rfl
theorem qnk {α:Type} {v:α} {P:α->Prop}:(∃ d,some v=some d/\P d)=P v:=propext ⟨fun ⟨d,h1,h2⟩=>by cases h1;exact h2,fun h=>⟨v,rfl,h⟩⟩
theorem qgx {v:Int} {P:Int->Prop}:(∃ m:Int,[PyData.int v]=[.int m]/\P m)=P v:=propext ⟨fun ⟨d,h1,h2⟩=>by cases h1;exact h2,fun h=>⟨v,rfl,h⟩⟩
theorem qfw {m:List Bool} {nw:Bool} {i:Nat} {p:Int×Int} {ρ:Rho}:qbv m nw i (Pv.pD p) ρ=(dm m ρ).set i (.sh (Pv.pD p)):=qiA
theorem NK {l:Nat} {t u:TS3} {x:PwS l t} {y:PwS l u} {ρ:Rho} {n:Nat} {Q:QO} (h:∀ Y:Rho->Nat->QO->Prop,Y=y.w->x.w ρ n (sqw Y Q)):(qcS x y).w ρ n Q:=h _ rfl
structure Mn (bw:Rho->Nat->QO->Prop):Prop where
 h:∀ ρ n (Q Q':QO),bw ρ n Q->(∀ o m,Q o m->Q' o m)->bw ρ n Q'
theorem PwS.mn {l:Nat} {t:TS3} (b:PwS l t):Mn b.w:=⟨fun _ _ _ _ h k=>b.mono h k⟩
section
variable {l:Nat} {g:TG3} {tb:TS3}
theorem N0 {gf:PyData->Option (List (Nat×PyData))} {bw:Rho->Nat->QO->Prop} {α:Type} {f:α->PyData} (xs:List α) (mono:Mn bw) (I:Nat->Rho->Nat->Prop) {ρ:Rho} {n:Nat} {Q:QO} (h0:I 0 ρ n)
  (hs:∀ i x ρ n,xs[i]?=some x->I i ρ n->∃ bs,gf (f x)=some bs/\bw (ZQ ρ bs) n fun o m=>match o with|.nx ρ'=>I (i+1) ρ' m|.ct ρ'=>I (i+1) ρ' m|.bk ρ'=>Q (.nx ρ') m|.rt d b=>Q (.rt d b) m)
  (k:∀ ρ n,I xs.length ρ n->Q (.nx ρ) n):qeq gf bw (xs.map f) ρ n Q:=by
 have key:∀ (r:List α) (i:Nat) (ρ:Rho) (n:Nat),xs.drop i=r->i<=xs.length->I i ρ n->qeq gf bw (r.map f) ρ n Q:=by
  intro r
  induction r with
  |nil=>
   intro i ρ n e hi h
   have:i=xs.length:=by
    have:=congrArg List.length e
    simp at this;omega
   subst this
   exact k ρ n h
  |cons x r ih=>
   intro i ρ n e hi h
   have hl:i<xs.length:=by
    have:=congrArg List.length e
    simp at this;omega
   have e':=List.drop_eq_getElem_cons hl
   rw [e] at e'
   injection e' with e1 e2
   obtain ⟨bs,h1,h2⟩:=hs i x ρ n (by rw [getElem?_eq_getElem hl,e1]) h
   refine ⟨bs,h1,mono.h _ _ _ _ h2 fun o m h=>?_⟩
   cases o with
   |nx ρ'=>exact ih (i+1) ρ' m e2.symm hl h
   |ct ρ'=>exact ih (i+1) ρ' m e2.symm hl h
   |bk ρ'=>exact h
   |rt d b=>exact h
 exact key xs 0 ρ n (by simp) (Nat.zero_le _) h0
end
theorem qcW {α β:Type} {x:α} {f:α->Option β}:(some x).bind f=f x:=id rfl
theorem qf0 {α β:Type} {x:α} {f:α->β}:(some x).map f=some (f x):=id rfl
theorem qln {α:Type} {x:α} {r:List α}:(x::r).length=r.length+1:=id rfl
theorem qjl {α:Type}:([]:List α).length=0:=id rfl
theorem qmF {α:Type} {x y:α} {r:List α}:(x::r).set 0 y=y::r:=id rfl
theorem ql2 {α:Type} {x y:α} {r:List α} {i:Nat}:(x::r).set (i+1) y=x::r.set i y:=id rfl
theorem qmb {α:Type} {r:List α}:r++[]=r:=List.append_nil r
theorem ql5 {α:Type} {x:α} {r s:List α}:(x::r)++s=x::(r++s):=id rfl
theorem qnI {α:Type} {s:List α}:[]++s=s:=id rfl
theorem qkI {n:Nat}:0+n=n:=Nat.zero_add n
theorem qnl {p:Prop}:(True/\p)=p:=true_and p
theorem qjh {α:Type} {a b:α} {i:Decidable True}:@ite α True i a b=a:=if_pos trivial
theorem qlL {α:Type} {a b:α} {i:Decidable False}:@ite α False i a b=b:=if_neg not_false
theorem qnC:(false=true)=False:=Bool.false_eq_true
theorem qm6:(!true)=false:=id rfl
theorem qma:(!false)=true:=id rfl
theorem qng {i:Decidable True}:@decide True i=true:=decide_true i
theorem qky {i:Decidable False}:@decide False i=false:=decide_false i
theorem ai{a b:Prop}(x:a)(y:b):a/\b:=⟨x,y⟩
def pwA:=(ai (ai (ai (ai (ai (ai (ai @Pu.qjM @Pu.qlK) (ai @Pu.qlS (ai @Pu.qnm @Pu.qp9))) (ai (ai @Pu.qby (ai @Pu.qgr @Pu.qnb)) (ai @Pu.qe0 (ai @Pu.qf2 @Pu.qkw)))) (ai (ai (ai @Pu.qcc (ai @Pu.qeK @Pu.qcD)) (ai @Pu.qgy (ai @Pu.qgs @Pu.qgI))) (ai (ai @Pu.qkW (ai @Pu.qeO @Pu.qgC)) (ai @Pu.qcZ (ai @Pu.qgJ @Pu.qfJ))))) (ai (ai (ai (ai @Pu.qct @Pu.qb6) (ai @Pu.SF (ai @Pu.qaI @Pu.qmM))) (ai (ai @Pu.qcJ (ai @Pu.qfq @Pu.qgx)) (ai @Pu.qfw (ai @Pu.qmY @Pu.qqu)))) (ai (ai (ai @Pu.qgb (ai @Pu.qjO @Pu.qf5)) (ai @Pu.qfb (ai @Pu.qqB @Pu.qfm))) (ai (ai @Pu.qdr (ai @Pu.qfC @Pu.qgh)) (ai @Pu.qb7 (ai @Pu.ql9 @Pu.qgj)))))) (ai (ai (ai (ai (ai @Pu.qmX @Pu.qgR) (ai @Pu.qjg (ai @Pu.qcV @Pu.qcP))) (ai (ai @Pu.qgo (ai @Pu.qmH @Pu.qfX)) (ai @Pu.qm7 (ai @Pu.qla @Pu.qlo)))) (ai (ai (ai @Pu.qbV (ai @Pu.qbH @Pu.qcq)) (ai @Pu.qjm (ai @Pu.qgU @Pu.qe8))) (ai (ai @Pu.qeH (ai @Pu.qgd @Pu.qfV)) (ai @Pu.qbB (ai @Pu.qcT @Pu.qbz))))) (ai (ai (ai (ai @Pu.qkc @Pu.qnv) (ai @Pu.qjC (ai @Pu.qgf @Pu.qdh))) (ai (ai @Pu.qfD (ai @Pu.qeW @Pu.qcL)) (ai @Pu.qai (ai @Pu.qgO @Pu.qe3)))) (ai (ai (ai @Pu.qdp (ai @Pu.qbZ @Pu.qqq)) (ai @Pu.qeI (ai @Pu.qbF @Pu.qgQ))) (ai (ai @Pu.qcp (ai @Pu.qgA @Pu.qjH)) (ai @Pu.qgi (ai @Pu.qbL @Pu.qfF))))))) (ai (ai (ai (ai (ai (ai @Pu.qdw @Pu.qfH) (ai @Pu.qeS (ai @Pu.qgc @Pu.qkk))) (ai (ai @Pu.qcy (ai @Pu.qfj @Pu.qcB)) (ai @Pu.qle (ai @Pu.qcr @Pu.qbT)))) (ai (ai (ai @Pu.qaw (ai @Pu.qam @Pu.N7)) (ai @Pu.qfY (ai @Pu.qcj @Pu.qcE))) (ai (ai @Pu.qcR (ai @Pu.qcz @Pu.qgF)) (ai @Pu.qqz (ai @Pu.qp5 @Pu.qmI))))) (ai (ai (ai (ai @Pu.qjQ @Pu.qdi) (ai @Pu.qcF (ai @Pu.qfP @Pu.qkC))) (ai (ai @Pu.qm5 (ai @Pu.at0 @Pu.at1)) (ai @Pu.at2 (ai @Pu.at3 @Pu.eqS)))) (ai (ai (ai @Pu.eqI (ai @Pu.qjs @Pu.qnp)) (ai @Pu.qp1 (ai @Pu.qgn @Pu.qfk))) (ai (ai @Pu.qfg (ai @Pu.qcl @Pu.qfs)) (ai @Pu.qlw (ai @Pu.qnu @Pu.qm3)))))) (ai (ai (ai (ai (ai @Pu.qgm @Pu.qgD) (ai @Pu.qgX (ai @Pu.qgp @Pu.qce))) (ai (ai @Pu.qfW (ai @Pu.qf8 @Pu.qnN)) (ai @Pu.qnh (ai @Pu.qkD @Pu.qjE)))) (ai (ai (ai @Pu.qmC (ai @Pu.qiA @Pu.qfe)) (ai @Pu.qkZ (ai @Pu.qqr @Pu.qqe))) (ai (ai @Pu.qqj (ai @Pu.qjU @Pu.qmP)) (ai @Pu.qjb (ai @Pu.qk8 @Pu.qkA))))) (ai (ai (ai (ai @Pu.qp0 @Pu.qfn) (ai @Pu.qge (ai @Pu.qgg @Pu.qnk))) (ai (ai @Pu.qcW (ai @Pu.qf0 @Pu.qln)) (ai @Pu.qjl (ai @Pu.qmF @Pu.ql2)))) (ai (ai (ai @Pu.qmb (ai @Pu.ql5 @Pu.qnI)) (ai @Pu.qkI (ai @Pu.qnl @Pu.qjh))) (ai (ai @Pu.qlL (ai @Pu.qnC @Pu.qm6)) (ai @Pu.qma (ai @Pu.qng @Pu.qky))))))))
theorem NL {H:Gp} {xs:List T} {d:PyData} {ds:List PyData} (h:Dqs H xs (d::ds)):∃ x r,xs=x::r/\Dq H x d/\Dqs H r ds:=by
 cases h with
 |cons a b=>exact ⟨_,_,rfl,a,b⟩
theorem qa4 {H:Gp} {xs:List T} (h:Dqs H xs []):xs=[]:=by cases h;rfl
theorem qq9 {H:Gp} {x:T} {i:Int} (h:Dq H x (.int i)):x=.int i:=by cases h;rfl
theorem qrg {H:Gp} {x:T} {i:Str} (h:Dq H x (.str i)):x=.str i:=by cases h;rfl
theorem qft {H:Gp} {x:T} {ds:List PyData} (h:Dq H x (.tuple ds)):∃ xs,x=.tup xs/\Dqs H xs ds:=by
 cases h with
 |tup a=>exact ⟨_,rfl,a⟩
theorem XU {H:Gp} {xs:List T} {i:Int} {ds:List PyData} (h:Dqs H xs (.int i::ds)):∃ r,xs=.int i::r/\Dqs H r ds:=by
 obtain ⟨x,r,rfl,a,b⟩:=NL h
 exact ⟨r,by rw [qq9 a],b⟩
theorem qdo {H:Gp} {xs:List T} {i:Str} {ds:List PyData} (h:Dqs H xs (.str i::ds)):∃ r,xs=.str i::r/\Dqs H r ds:=by
 obtain ⟨x,r,rfl,a,b⟩:=NL h
 exact ⟨r,by rw [qrg a],b⟩
theorem qhx {H:Gp}:∀ (cs:List (List Int)) {xs:List T},Dqs H xs (cs.map Pv.qiX)->xs=cs.map Bk.qaA:=by
 intro cs
 induction cs with
 |nil=>intro xs h;exact qa4 h
 |cons r cs ih=>
  intro xs h
  obtain ⟨x,t,rfl,a,b⟩:=NL h
  obtain ⟨ys,rfl,a1⟩:=qft a
  rw [ih b,Dqs.ints a1];rfl
theorem qdF {H:Gp} (d:Dl):∀ {x:T},Dq H x (Pv.dlD d)->x=d.t:=by
 induction d with
 |skew r c b x y=>
  intro z h0
  obtain ⟨_,rfl,h1⟩:=qft h0
  obtain ⟨_,rfl,h2⟩:=qdo h1
  obtain ⟨_,rfl,h3⟩:=XU h2
  obtain ⟨_,rfl,h4⟩:=XU h3
  obtain ⟨_,rfl,h5⟩:=XU h4
  obtain ⟨_,rfl,h6⟩:=XU h5
  obtain ⟨_,rfl,h7⟩:=XU h6
  rw [qa4 h7];rfl
 |rests r c b p=>
  intro z h0
  obtain ⟨_,rfl,h1⟩:=qft h0
  obtain ⟨_,rfl,h2⟩:=qdo h1
  obtain ⟨_,rfl,h3⟩:=XU h2
  obtain ⟨_,rfl,h4⟩:=XU h3
  obtain ⟨_,rfl,h5⟩:=XU h4
  obtain ⟨_,rfl,h6⟩:=XU h5
  rw [qa4 h6];rfl
 |bits hh l ms=>
  intro z h0
  obtain ⟨_,rfl,h1⟩:=qft h0
  obtain ⟨_,rfl,h2⟩:=qdo h1
  obtain ⟨_,rfl,h3⟩:=XU h2
  obtain ⟨_,rfl,h4⟩:=XU h3
  obtain ⟨_,_,rfl,a0,h5⟩:=NL h4
  obtain ⟨_,rfl,a1⟩:=qft a0
  rw [qa4 h5,Dqs.ints a1];rfl
 |table b cells=>
  intro z h0
  obtain ⟨_,rfl,h1⟩:=qft h0
  obtain ⟨_,rfl,h2⟩:=qdo h1
  obtain ⟨_,rfl,h3⟩:=XU h2
  obtain ⟨_,_,rfl,a0,h4⟩:=NL h3
  obtain ⟨_,rfl,a1⟩:=qft a0
  rw [qa4 h4,qhx cells a1];rfl
 |joined d e ih1 ih2=>
  intro z h0
  obtain ⟨_,rfl,h1⟩:=qft h0
  obtain ⟨_,rfl,h2⟩:=qdo h1
  obtain ⟨_,_,rfl,a0,h3⟩:=NL h2
  obtain ⟨_,_,rfl,b0,h4⟩:=NL h3
  rw [qa4 h4,ih1 a0,ih2 b0];rfl
theorem qdq:∀ (a b:Int),PyData.int a=PyData.int b->a=b:=fun _ _ h=>by injection h
theorem qhy:∀ (a b:List Int),Pv.qiX a=Pv.qiX b->a=b:=fun a b h=>by
 unfold Pv.qiX at h
 injection h with h
 exact (List.map_inj_right qdq).mp h
theorem LN:∀ (d e:Dl),Pv.dlD d=Pv.dlD e->d=e
 |.skew ..,.skew ..,h=>by simp [Pv.dlD] at h;simp [h]
 |.rests ..,.rests ..,h=>by simp [Pv.dlD] at h;simp [h]
 |.bits _ _ ms,.bits _ _ ns,h=>by
  simp only [Pv.dlD,PyData.tuple.injEq,List.cons.injEq,PyData.int.injEq,and_true,true_and,Int.natCast_inj] at h
  have:=(List.map_inj_right qdq).mp h.2.2
  simp [h.1,h.2.1,this]
 |.table _ cs,.table _ es,h=>by
  simp only [Pv.dlD,PyData.tuple.injEq,List.cons.injEq,PyData.int.injEq,and_true,true_and] at h
  have:=(List.map_inj_right qhy).mp h.2
  simp [h.1,this]
 |.joined d e,.joined d' e',h=>by
  simp only [Pv.dlD,PyData.tuple.injEq,List.cons.injEq,and_true,true_and] at h
  rw [LN d d' h.1,LN e e' h.2]
 |.skew ..,.rests ..,h=>by simp [Pv.dlD] at h
 |.skew ..,.bits ..,h=>by simp [Pv.dlD] at h
 |.skew ..,.table ..,h=>by simp [Pv.dlD] at h
 |.skew ..,.joined ..,h=>by simp [Pv.dlD] at h
 |.rests ..,.skew ..,h=>by simp [Pv.dlD] at h
 |.rests ..,.bits ..,h=>by simp [Pv.dlD] at h
 |.rests ..,.table ..,h=>by simp [Pv.dlD] at h
 |.rests ..,.joined ..,h=>by simp [Pv.dlD] at h
 |.bits ..,.skew ..,h=>by simp [Pv.dlD] at h
 |.bits ..,.rests ..,h=>by simp [Pv.dlD] at h
 |.bits ..,.table ..,h=>by simp [Pv.dlD] at h
 |.bits ..,.joined ..,h=>by simp [Pv.dlD] at h
 |.table ..,.skew ..,h=>by simp [Pv.dlD] at h
 |.table ..,.rests ..,h=>by simp [Pv.dlD] at h
 |.table ..,.bits ..,h=>by simp [Pv.dlD] at h
 |.table ..,.joined ..,h=>by simp only [Pv.dlD,PyData.tuple.injEq,List.cons.injEq,PyData.str.injEq] at h;exact absurd h.1 (by decide)
 |.joined ..,.skew ..,h=>by simp [Pv.dlD] at h
 |.joined ..,.rests ..,h=>by simp [Pv.dlD] at h
 |.joined ..,.bits ..,h=>by simp [Pv.dlD] at h
 |.joined ..,.table ..,h=>by simp only [Pv.dlD,PyData.tuple.injEq,List.cons.injEq,PyData.str.injEq] at h;exact absurd h.1 (by decide)
def the (S:PyData->Prop):Option PyData:=@dite _ (∃ v,S v) (Classical.propDecidable _) (fun h=>some (Classical.choose h)) fun _=>none
theorem CA {S:PyData->Prop} {v:PyData} (h:the S=some v):S v:=by
 unfold the at h
 split at h
 ·rename_i e
  cases h
  exact Classical.choose_spec e
 ·cases h
theorem qc4 {S:PyData->Prop} {v:PyData} (h:S v) (u:∀ w,S w->w=v):the S=some v:=by
 unfold the
 rw [dif_pos ⟨v,h⟩]
 exact congrArg some (u _ (Classical.choose_spec (⟨v,h⟩:∃ v,S v)))
def siz (d:Dl):PyData:=.tuple [.int d.R,.int d.C,.int d.B]
theorem qgT (G:Gp) (d:Dl):Dq G (Bk.XX d) (siz d):=.tup (.cons (.int _) (.cons (.int _) (.cons (.int _) .nil)))
def SzR (n:Nat) (ds:List PyData) (v:PyData):Prop:=∃ d:Dl,ds=[Pv.dlD d]/\d.dep<=n/\d.Ok/\v=siz d
def fSz (n:Nat):FnD (Bk.jh (n+1)):=⟨fun ds=>the (SzR n ds),false,fun {D G xs ds v q} hx hd hf k=>by
 obtain ⟨d,rfl,h1,h2,rfl⟩:=CA hf
 cases hx with
 |cons a b=>
  cases b
  have:=qdF d a;subst this
  exact ⟨d,rfl,h1,h2,k _ _ Ex.refl (qgT _ d) (fun z=>by cases z)⟩⟩
def qn8 (n:Nat):FnD (Bk.zt (n+1)):=⟨fun ds=>the (SzR n ds),false,fun {D G xs ds v q} hx hd hf k=>by
 obtain ⟨d,rfl,h1,h2,rfl⟩:=CA hf
 cases hx with
 |cons a b=>
  cases b
  have:=qdF d a;subst this
  exact ⟨d,rfl,h1,h2,fun G' E=>k _ _ E (qgT _ d) (fun z=>by cases z)⟩⟩
theorem qck {n:Nat} {d:Dl} (h1:d.dep<=n) (h2:d.Ok):the (SzR n [Pv.dlD d])=some (siz d):=qc4 ⟨d,rfl,h1,h2,rfl⟩ fun w ⟨e,a,_,_,b⟩=>by
 injection a with a
 rw [b,LN d e a]
theorem qjW {n:Nat}:(fSz n).f=fun ds=>the (SzR n ds):=id rfl
theorem KZ {n:Nat}:(qn8 n).f=fun ds=>the (SzR n ds):=id rfl
def BkR (n:Nat) (ds:List PyData) (v:PyData):Prop:=∃ (d:Dl) (i j:Int),ds=[Pv.dlD d,.tuple [.int i,.int j]]/\d.dep<=n/\d.Ok/\Bk.Inn d i j/\v=.int (d.bank i j)
def fBk (n:Nat):FnD (Bk.qbl n):=⟨fun ds=>the (BkR n ds),false,fun {D G xs ds v q} hx hd hf k=>by
 obtain ⟨d,i,j,rfl,h1,h2,h3,rfl⟩:=CA hf
 cases hx with
 |cons a b=>cases b with
  |cons c b=>
   cases b
   have:=qdF d a;subst this
   cases c with
   |tup hs=>cases hs with
    |cons x hs=>cases hs with
     |cons y hs=>
      cases hs;cases x;cases y
      exact ⟨d,i,j,rfl,h1,h2,h3,fun G' E=>k _ _ E (.int _) (fun z=>by cases z)⟩⟩
theorem qpO {n:Nat} {d:Dl} {i j:Int} (h1:d.dep<=n) (h2:d.Ok) (h3:Bk.Inn d i j):the (BkR n [Pv.dlD d,.tuple [.int i,.int j]])=some (.int (d.bank i j)):=qc4 ⟨d,i,j,rfl,h1,h2,h3,rfl⟩ fun w ⟨e,i',j',a,_,_,_,b⟩=>by
 simp only [List.cons.injEq,PyData.tuple.injEq,PyData.int.injEq,and_true] at a
 rw [b,LN d e a.1,a.2.1,a.2.2]
def LbR (n:Nat) (ds:List PyData) (v:PyData):Prop:=∃ (d:Dl) (i j:Int),ds=[Pv.dlD d,.int i,.int j]/\d.dep<=n/\d.Ok/\Bk.Inn d i j/\v=.int (d.bank i j)
def qql (n:Nat):FnD (Bk.Q4 (n+1)):=⟨fun ds=>the (LbR n ds),false,fun {D G xs ds v q} hx hd hf k=>by
 obtain ⟨d,i,j,rfl,h1,h2,h3,rfl⟩:=CA hf
 cases hx with
 |cons a b=>cases b with
  |cons x b=>cases b with
   |cons y b=>
    cases b
    have:=qdF d a;subst this
    cases x;cases y
    exact ⟨d,i,j,rfl,h1,h2,h3,fun G' E=>k _ _ E (.int _) (fun z=>by cases z)⟩⟩
theorem qoG {n:Nat} {d:Dl} {i j:Int} (h1:d.dep<=n) (h2:d.Ok) (h3:Bk.Inn d i j):the (LbR n [Pv.dlD d,.int i,.int j])=some (.int (d.bank i j)):=qc4 ⟨d,i,j,rfl,h1,h2,h3,rfl⟩ fun w ⟨e,i',j',a,_,_,_,b⟩=>by
 simp only [List.cons.injEq,PyData.int.injEq,and_true] at a
 rw [b,LN d e a.1,a.2.1,a.2.2]
theorem qlF {n:Nat}:(qql n).f=fun ds=>the (LbR n ds):=id rfl
end Pu
namespace Pu
open PySem L2 L3
theorem qaK {a m:Int} {n:Nat} (h:m∈ZN a n):a<=m/\m<a+n:=by
 unfold ZN at h
 obtain ⟨i,hi,rfl⟩:=mem_map.mp h
 have:=mem_range.mp hi
 omega
theorem qo8 {xs:List PyData} {lo hi:Option Int}:slD (.list xs) lo hi=some (.list (ZO xs lo hi)):=id rfl
theorem qkS {xs ys:List PyData} (h:xs.length+ys.length<=16777216):qi0 (.list xs) (.list ys)=some (.list (xs++ys)):=jd (by rw [sizeLine_eq];exact h)
theorem qco {xs ys:List PyData} (h:xs.length+ys.length<=16777216):qjI (.list xs) (.list ys)=some (.list (xs++ys)):=jd (by rw [sizeLine_eq];exact h)
def fBi (n:Nat):FnD (Bk.JM (n+1)):=fBk n
theorem qoM {n:Nat}:(fBi n).f=fun ds=>the (BkR n ds):=id rfl
end Pu
namespace Pv
open PySem L2 L3 Pu
open Bk (Wk jE ji JG lnD lnA Un2 Fst faO jN jR VD)
theorem VS {lo:Int} {n i:Nat} {x:Int} (h:(ZN lo n)[i]?=some x):i<n/\x=lo+i:=by
 unfold ZN at h
 rw [getElem?_map] at h
 obtain ⟨k,e1,e2⟩:=Option.map_eq_some_iff.mp h
 obtain ⟨hl,hk⟩:=List.getElem?_eq_some_iff.mp e1
 simp at hl hk
 subst hk
 exact ⟨hl,e2.symm⟩
theorem JZ (lo:Int) (n:Nat):(ZN lo n).length=n:=by simp [ZN]
theorem qbU {lo:Int} {n i:Nat} (h:i<n):(ZN lo n)[i]?=some (lo+i):=by simp [ZN,h]
theorem CT {d a:Int} {m:Nat} (hd:-1000<=d/\d<=1000) (ha:-1000<=a/\a<=1000) (hm:m<=10000):zU [.int d,.int a,.int m]=some (.list ((jE d a m).map pD)):=by
 rw [qc0]
 try simp only [Pu.pwA,X0]
 rw [ZY (ds:=(ZN 0 m).map PyData.int) (fs:=(jE d a m).map pD)]
 ·try simp only [Pu.pwA]
 ·try simp (disch:=omega) only [Pu.pwA,qcH,Int.toNat_natCast]
 ·have:jE d a m=(ZN 0 m).map fun i=>(i*d,i*a):=by simp [jE,ZN,map_map,Function.comp_def]
  rw [this,map_map]
  refine QL fun i hi=>?_
  try simp (disch:=omega) only [Pu.pwA,YU,qjx,Function.comp_def,pD]
 ·simp [jE];omega
def Big:Wk->Prop
 |.line k m=>k<4/\m<=1000
 |.block h w=>h<=1000/\w<=1000
 |.step d a m=>(-1000<=d/\d<=1000)/\(-1000<=a/\a<=1000)/\m<=1000
 |.cells ps=>ps.length<=1000
theorem SE {w:Wk} (ok:Big w):jf [Wk.d w]=some (.list (w.pc.map pD)):=by
 cases w with
 |cells ps=>
  rw [YM]
  try simp only [Pu.pwA,jX,Wk.d,eq_self,Wk.pc]
 |block h v=>
  obtain ⟨h1,h2⟩:=ok
  rw [YM]
  try simp only [Pu.pwA,jX,Wk.d,eq_self,L3.UP,Wk.pc]
  rw [qh7 (ds:=(ZN 0 h).map PyData.int) (fs:=(ji h v).map pD)]
  ·try simp only [Pu.pwA]
  ·try simp (disch:=omega) only [Pu.pwA,qcH,Int.toNat_natCast]
  ·have:(ji h v).map pD=(ZN 0 h).flatMap fun p=>(ZN 0 v).map fun q=>pD (p,q):=by
    simp only [ji,ZN,List.map_flatMap,map_map,List.flatMap_map,Function.comp_def,Int.zero_add]
   rw [this]
   refine qeE fun p hp=>?_
   try simp (disch:=omega) only [Pu.pwA,qju,qcH,Int.toNat_natCast]
   rw [QL (k:=fun q=>pD (p,q)) fun q hq=>?_]
   ·try simp only [Pu.pwA]
   ·try simp only [Pu.pwA,YU,pD]
  ·have:=Nat.mul_le_mul h1 h2
   rw [length_map,Bk.EV];omega
 |step d a m=>
  obtain ⟨h1,h2,h3⟩:=ok
  rw [YM]
  try simp only [Pu.pwA,jX,Wk.d,eq_self,L3.EJ,L3.DL,Wk.pc,CT h1 h2 (show m<=10000 by omega)]
 |line k m=>
  obtain ⟨h1,h2⟩:=ok
  have key:∀ (s:Str) (d a:Int),¬ s=Str.ofString "cells" -> ¬ s=Str.ofString "block" -> ¬ s=Str.ofString "step" -> (-1000<=d/\d<=1000)->(-1000<=a/\a<=1000)->(jU DG s).bind tD=some (.tuple [.int d,.int a])->jf [.tuple [.str s,.int (m:Int)]]=some (.list ((jE d a m).map pD)):=by
   intro s d a n1 n2 n3 hd ha e
   rw [YM]
   try simp only [Pu.pwA,jX,n1,n2,n3,e,CT (d:=d) (a:=a) (m:=m) hd ha (by omega)]
  have:(k=0\/k=1\/k=2\/k=3):=by omega
  rcases this with rfl|rfl|rfl|rfl
  ·exact key "row" 0 1 L3.KS L3.LV L3.NG (by decide) (by decide) rfl
  ·exact key "column" 1 0 L3.RJ L3.RO L3.RY (by decide) (by decide) rfl
  ·exact key "slant" 1 1 L3.R0 L3.R8 L3.KB (by decide) (by decide) rfl
  ·exact key "back" 1 (-1) L3.TQ L3.TB L3.LQ (by decide) (by decide) rfl
def faD (ns:List Int):PyData:=match faO ns with|some (i,j)=>.tuple [.int i,.int j]|none=>.none
theorem qq5 {ns:List Int} {x:PyData} (hl:ns.length<=1000000) (h1:qhe [x]=some (.int ns.length)) (h2:∀ i,ixD x (.int i)=L2.atI (ns.map PyData.int) i):ze [x]=some (faD ns):=by
 rw [R7]
 have at':∀ i:Nat,i<ns.length->ixD x (.int (0+(i:Int)))=some (.int ((ns[i]?).getD 0)):=fun i hi=>by
  rw [h2,Int.zero_add,atN (by simpa using hi),getElem?_map,getElem?_eq_getElem hi];rfl
 have at2:∀ i j:Nat,i+1+j<ns.length->ixD x (.int (0+(i:Int)+1+(j:Int)))=some (.int ((ns[i+1+j]?).getD 0)):=fun i j hi=>by
  rw [h2,show (0+(i:Int)+1+(j:Int))=((i+1+j:Nat):Int) by omega,atN (by simpa using hi),getElem?_map,getElem?_eq_getElem hi];rfl
 have ne':∀ {a b:Nat},a<ns.length->b<ns.length->ns[a]?≠ns[b]?->(ns[a]?).getD 0≠(ns[b]?).getD 0:=fun {a b} ha hb hn e=>by
  rw [getElem?_eq_getElem ha,getElem?_eq_getElem hb] at hn e
  exact hn (congrArg some e)
 try simp (disch:=omega) only [Pu.pwA,QR,h1,qcH,Int.toNat_natCast]
 have tn:∀ i:Nat,((ns.length:Int)-(0+(i:Int)+1)).toNat=ns.length-(i+1):=fun i=>by omega
 by_cases hu:Un2 ns ns.length
 ·refine MG (Q:=fun o=>WP false o=_) (ZN 0 ns.length) (fun _ ρ=>∃ s1 s2,ρ=[.sh x,s1,s2]) ⟨_,_,rfl⟩ ?_ ?_
  ·rintro i z ρ hz ⟨s1,s2,rfl⟩
   obtain ⟨hi,rfl⟩:=VS hz
   try simp (disch:=omega) only [Pu.pwA,h1,qlc,tn]
   refine KD (Q:=fun o=>Nx o _) _ (fun _ ρ=>∃ s3,ρ=[.sh x,.sh (.int (0+(i:Int))),s3]) ⟨_,rfl⟩ ?_ ?_
   ·rintro j z ρ hz ⟨s3,rfl⟩
    obtain ⟨hj,rfl⟩:=VS hz
    have hj2:i+1+j<ns.length:=by omega
    have:=ne' hi hj2 (hu i _ hi (by omega) hj2)
    try simp only [Pu.pwA,at' i hi,at2 i j hj2,this]
    exact ⟨_,rfl⟩
   ·rintro ρ ⟨s3,rfl⟩
    try simp only [Pu.pwA]
    exact ⟨_,_,rfl⟩
  ·rintro ρ ⟨s1,s2,rfl⟩
   try simp only [Pu.pwA,faD,jR hu]
 ·obtain ⟨i,j,F⟩:=VD hu
  have hi:i<ns.length:=Nat.lt_trans F.ij F.jl
  have jl:=F.jl
  have ij:=F.ij
  refine qif (Q:=fun o=>WP false o=_) (ZN 0 ns.length) i (0+(i:Int)) (.tuple [.int i,.int j]) false (qbU hi) (fun _ ρ=>∃ s1 s2,ρ=[.sh x,s1,s2]) ⟨_,_,rfl⟩ ?_ ?_ ?_
  ·rintro k z ρ hk hz ⟨s1,s2,rfl⟩
   obtain ⟨hk2,rfl⟩:=VS hz
   try simp (disch:=omega) only [Pu.pwA,h1,qlc,tn]
   refine KD (Q:=fun o=>Nx o _) _ (fun _ ρ=>∃ s3,ρ=[.sh x,.sh (.int (0+(k:Int))),s3]) ⟨_,rfl⟩ ?_ ?_
   ·rintro l z ρ hz ⟨s3,rfl⟩
    obtain ⟨hj,rfl⟩:=VS hz
    have hj2:k+1+l<ns.length:=by omega
    have:=ne' hk2 hj2 (F.un k _ hk (by omega) hj2)
    try simp only [Pu.pwA,at' k hk2,at2 k l hj2,this]
    exact ⟨_,rfl⟩
   ·rintro ρ ⟨s3,rfl⟩
    try simp only [Pu.pwA]
    exact ⟨_,_,rfl⟩
  ·rintro ρ ⟨s1,s2,rfl⟩
   try simp (disch:=omega) only [Pu.pwA,h1,qlc,tn]
   refine XG (Q:=fun o=>o=_) _ (j-(i+1)) (0+(i:Int)+1+((j-(i+1):Nat):Int)) (.tuple [.int i,.int j]) false (qbU (by omega)) (fun _ ρ=>∃ s3,ρ=[.sh x,.sh (.int (0+(i:Int))),s3]) ⟨_,rfl⟩ ?_ ?_ rfl
   ·rintro l z ρ hl hz ⟨s3,rfl⟩
    obtain ⟨hj,rfl⟩:=VS hz
    have hj2:i+1+l<ns.length:=by omega
    have:=ne' hi hj2 (F.nb _ (by omega) (by omega))
    try simp only [Pu.pwA,at' i hi,at2 i l hj2,this]
    exact ⟨_,rfl⟩
   ·rintro ρ ⟨s3,rfl⟩
    have hj2:i+1+(j-(i+1))<ns.length:=by omega
    have ej:i+1+(j-(i+1))=j:=by omega
    have e2:(ns[i]?).getD 0=(ns[i+1+(j-(i+1))]?).getD 0:=by rw [ej,F.eq]
    try simp only [Pu.pwA,at' i hi,at2 i _ hj2,e2]
    rw [show (0+(i:Int))=i by omega,show ((i:Int)+1+((j-(i+1):Nat):Int))=j by omega]
  ·try simp only [Pu.pwA,faD,jN F]
theorem qk0 {ns:List Int} (hl:ns.length<=1000000):ze [.list (ns.map PyData.int)]=some (faD ns):=qq5 hl (by simp [qhe]) fun _=>rfl
end Pv
namespace Pv
open PySem L2 L3 Pu
open Bk (Wk Dl jE ji JG lnD lnA Un2 Fst faO jN jR VD)
theorem qbw {w:Wk} (ok:w.Ok):Big w:=by
 cases w with
 |line k m=>obtain ⟨h1,h2,h3⟩:=ok;exact ⟨h1,by omega⟩
 |block h v=>obtain ⟨h1,h2,h3,h4,h5⟩:=ok;exact ⟨by omega,by omega⟩
 |step d a m=>obtain ⟨h1,h2,h3,h4⟩:=ok;exact ⟨by omega,by omega,by omega⟩
 |cells ps=>have h:=ok.2.1;show ps.length<=1000;omega
theorem SM {w:Wk} (ok:Big w):w.pc.length<=1000000:=by
 cases w with
 |line k m=>simp only [Wk.pc,jE,length_map,length_range];have:=ok.2;omega
 |block h v=>simp only [Wk.pc,Bk.EV];exact Nat.mul_le_mul ok.1 ok.2
 |step d a m=>simp only [Wk.pc,jE,length_map,length_range];have:=ok.2.2;omega
 |cells ps=>have:ps.length<=1000:=ok;simp only [Wk.pc];omega
def unB (ns:List Int):Bool:=(faO ns).isNone
theorem qho {ns:List Int}:unB ns=true↔Un2 ns ns.length:=by
 constructor
 ·intro h
  apply Classical.byContradiction
  intro hn
  obtain ⟨i,j,F⟩:=VD hn
  unfold unB at h
  rw [jN F] at h
  cases h
 ·intro h
  unfold unB
  rw [jR h]
  rfl
def dn (cs:List (Int×Int)):List Int:=cs.map fun p=>p.1
def al (cs:List (Int×Int)):List Int:=cs.map fun p=>p.2
def stI (R C:Int) (cs:List (Int×Int)):List (Int×Int):=(ZN (-(mn (dn cs))) (R-mx (dn cs) - -(mn (dn cs))).toNat).flatMap fun i=>(ZN (-(mn (al cs))) (C-mx (al cs) - -(mn (al cs))).toNat).map fun j=>(i,j)
theorem qaj {α β:Type} (xs:List α) (ys:List β) {γ:Type} (f:α->β->γ):(xs.flatMap fun a=>ys.map fun b=>f a b).length=xs.length*ys.length:=by
 induction xs with
 |nil=>simp
 |cons a r ih=>simp only [List.flatMap_cons,length_append,length_map,ih,length_cons,Nat.succ_mul];omega
structure Cb (cs:List (Int×Int)):Prop where
 ne:cs≠[]
 b:∀ p∈cs,(-1000000<=p.1/\p.1<=1000000)/\(-1000000<=p.2/\p.2<=1000000)
theorem Cb.lim {cs:List (Int×Int)} (h:Cb cs):(-1000000<=mn (dn cs)/\mn (dn cs)<=mx (dn cs)/\mx (dn cs)<=1000000)/\(-1000000<=mn (al cs)/\mn (al cs)<=mx (al cs)/\mx (al cs)<=1000000):=by
 have n1:dn cs≠[]:=by simp [dn,h.ne]
 have n2:al cs≠[]:=by simp [al,h.ne]
 have m1:=qab n1;have m2:=qag n1;have m3:=qab n2;have m4:=qag n2
 have l1:=qaX m2;have l2:=qaX m4
 have b1:∀ x∈dn cs,-1000000<=x/\x<=1000000:=fun x hx=>by
  obtain ⟨p,hp,rfl⟩:=mem_map.mp hx
  exact (h.b p hp).1
 have b2:∀ x∈al cs,-1000000<=x/\x<=1000000:=fun x hx=>by
  obtain ⟨p,hp,rfl⟩:=mem_map.mp hx
  exact (h.b p hp).2
 have:=b1 _ m1;have:=b1 _ m2;have:=b2 _ m3;have:=b2 _ m4
 omega
theorem qdx {R C:Int} {cs:List (Int×Int)} (h:Cb cs) (hR:R<=4096) (hC:C<=4096):(stI R C cs).length<=16777216:=by
 obtain ⟨⟨h1,h2,h3⟩,⟨h4,h5,h6⟩⟩:=h.lim
 unfold stI
 rw [qaj,JZ,JZ]
 have a:(R-mx (dn cs) - -(mn (dn cs))).toNat<=4096:=by omega
 have b:(C-mx (al cs) - -(mn (al cs))).toNat<=4096:=by omega
 exact Nat.le_trans (Nat.mul_le_mul a b) (by decide)
end Pv
namespace Pv
open PySem L2 L3 Pu
open Bk (pop qbb J4 DE X8 CC Dl zI VW QX UA)
end Pv
namespace Pv
open PySem L2 L3 Pu
open Bk (pop qbb J4 DE X8 CC Dl)
end Pv
namespace Pv
open PySem L2 L3 Pu
open Bk (pop qbb J4 DE Dl)
end Pv
namespace Hd
open PySem L2 L3 PySem.W
def oF (x:Str) (st:Stmt) (pm cd:Value):Obj:=⟨.type "function",none,.func (PySem.W.fnOf x x (YB st) (jQ st) (qi st) .none .none .none pm none cd .none),#[]⟩
def oG (x:Str) (st:Stmt):Obj:=⟨.none,none,.func { name:=x,qualname:=x,params:=YB st,body:=.stmts (jQ st),scope:=qi st,globals:=0,closure:=[],defaults:=.none,kwdefaults:=.none },#[]⟩
def oC (vs:List Value):Obj:=⟨.type "code",none,.fields vs.toArray,#[]⟩
def oT (vs:List Value):Obj:=⟨.type "tuple",none,.seq vs.toArray 0,#[]⟩
def eD (P:Params):Value×Value->DictEntry
 | (.str x t,v)=>⟨PyData.keyHash P x,.str x t,v⟩
 | (u,v)=>⟨0,u,v⟩
def oD (P:Params) (n:Nat) (es:List (Value×Value)):Obj:=⟨.type "dict",none,.dict (es.map (eD P)).toArray n,#[]⟩
def oK (x:Str) (t l n m:Nat) (a b:Addr) (u v z:Value) (e y q:Nat):Obj:=oC [.str x t,.str x (t+1),.str "/claim/cut.py" (t+2),.int l 0,.int n 0,.int 0 0,.int 0 0,.int 3 0,.ref a,.bool true,.int m 0,.ref b,u,v,z,.ref e,.int y 0,.int l 0,.str "/claim/cut.py" q]
def nmV:List Str->Nat->List Value
 |[],_=>[]
 |x::r,t=>.str x t::nmV r (t+1)
def oN (xs:List Str) (t:Nat):Obj:=oT (nmV xs t)
abbrev nd (o:Obj) (l r:PySem.W.BT):PySem.W.BT:=.node o l r
abbrev lf (o:Obj):PySem.W.BT:=.node o .nil .nil
theorem zx {K:PySem.W.Frag} (x:Str) (st:Stmt) (f:Addr) (pm cd:Value) (l:K.lookup f=some (oF x st pm cd)) (c:PySem.W.codeIn K cd x=true) (k:PySem.W.keepIn K (.ref f)=true) :
  Fun K x x st f (PySem.W.fnOf x x (YB st) (jQ st) (qi st) .none .none .none pm none cd .none):=qnO l c k
theorem zw {K:PySem.W.Frag} {h:Heap} {mg:Str->Option Value} (X:K.In h) (G:h.Ns mainGlobals mg) (n:Str) (v:Value) (e:PySem.W.nsIn K mainGlobals n=some (some v)):mg n=some v:=PySem.W.mg_of X G e
theorem UJ {K:PySem.W.Frag} {h:Heap} {mg:Str->Option Value} (X:K.In h) (G:h.Ns mainGlobals mg) (n:Str) (e:PySem.W.nsIn K mainGlobals n=some none):mg n=none:=PySem.W.mg_none_of X G e
theorem head {l:OpenLaw} {q:Program} {loose:List Str} {K:Params->Frag} {as:List Addr} {d:DefRec} {N:Nat} {k:Nat} {x:Str} (ha:∀ P,as=(K P).map (·.1))
  (ok:l.wellSaid=true)
  (left:LeftO l.prog q loose (fun s=>xlAt q [] s&&recOk [] s) (fun s=>as.map s.heap.get?) (fun w=>(K w.params).map fun p=>some p.2) N)
  (hdef:defOf q l.name=some (d,[])) (hp:l.prog.theDef l.name=some (d.params,d.body,d.scope)) (hk:kwWritten? d.params.kwonlyargs d.params.kw_defaults=some [])
  (hwr:(!l.row.writes||l.row.records.isEmpty)=true) (ok2:(chainsOk q&&opensWell l.prog&&(frees l.row.toRowW&&l.row.within.isEmpty))=true) (hb:l.prog.bare) (hw:l.row.toRowW.promised)
  (hn:l.most=some 63) (hdf:d.params.defaults=[]) (hr:Room k callerA) (hK:∀ w:World,WE (K w.params)=true)
  (F:∀ (w:World) (mg:Str->Option Value) (fa:Addr) (h:Heap),(K w.params).In h->h.Ns mainGlobals mg->mg d.name=some (.ref fa) ->
   ∃ fd:FuncData,(∀ (s:Shared) (u:Value),BindsTo s fd ⟨[u],[]⟩ [(x,u)])/\∀ base:Heap,(K w.params).In base->base.Ns mainGlobals mg->FnOk l.prog w (K w.params) mg base CX0 k fa fd [x] (lSp (K w.params) SL)):l.Holds:=by
 refine holds_law ok fun said=>?_
 exact holds_open (q:=q) (loose:=loose) (Xt:=fun s=>xlAt q [] s&&recOk [] s) (XP:=XL q []) (Yf:=Hook.obs (kHook K as ha)) (Ya:=Hook.val (kHook K as ha)) (YP:=Hook.says (kHook K as ha)) (N:=N) left
  (Hook.of (kHook K as ha)) (Hook.keeps (kHook K as ha)) (fun s e=>xl_of s (Bool.and_eq_true_iff.mp e).1) XL.keeps hdef hp hk (fun s e=>recFacts_of (Bool.and_eq_true_iff.mp e).2) hwr said ok2 hb hw
  (L3.qoA (l:=l) (k:=k) (x:=x) hn hdf hr (fun w h Y=>kIn_of Y) hK F)
end Hd
namespace K61
open PySem L2 L3 Bk
def top (i : Nat) : Stmt := PySem.Challenge.pw_bankwalk_k61_lanes_of_walks.main.body.getD i (.Pass ⟨0,0,0,0⟩)
variable {P:Program} {w:World} {K:PySem.W.Frag} {mg:Str->Option Value} {base:Heap} {f:Addr} {fd:FuncData} {k:Nat} {sp:Sp3}
abbrev QC:Stmt:=top 1
abbrev YC:List Str:=["thing"]
abbrev EG:List Str:=["thing"]
theorem LH:FnScope YC EG (qi QC):=⟨rfl,rfl,rfl,by decide +kernel,rfl,by decide +kernel,by decide +kernel⟩
theorem KK (F:Fun K "is_number" "is_number" QC f fd) (bd:zd K fd EG []) (hm:mg "is_number" = some (.ref f))  (m_isinstance:mg "isinstance" = none) (m_bool:mg "bool" = none) (m_int:mg "int" = none)
  (read:Rd sp 1 (Bk.JQ) YC):Fn3 P w K mg base (k+1) "is_number" sp:=
 qA (t3:=(Bk.JQ)) F LH bd hm (fun cdv A outer s H E hr=>(ql (qp (JP (VJ (qb 0) rfl m_isinstance rfl m_int PyProof.Rows.boot_int) (DQ (qf6 (VJ (qb 0) rfl m_isinstance rfl m_bool PyProof.Rows.boot_bool))))))) read
abbrev JE:Stmt:=top 2
abbrev JI:List Str:=["thing"]
abbrev RE:List Str:=["thing"]
theorem qaL:FnScope JI RE (qi JE):=⟨rfl,rfl,rfl,by decide +kernel,rfl,by decide +kernel,by decide +kernel⟩
theorem qaM {S_is_number:Sp3} (F:Fun K "is_pair" "is_pair" JE f fd) (bd:zd K fd RE []) (hm:mg "is_pair" = some (.ref f)) (zq:Fn3 P w K mg base k "is_number" S_is_number) (m_len:mg "len" = none) (m_isinstance:mg "isinstance" = none) (m_tuple:mg "tuple" = none)
  (read:Rd sp 1 (Bk.EO S_is_number) JI):Fn3 P w K mg base (k+1) "is_pair" sp:=
 qA (t3:=(Bk.EO S_is_number)) F qaL bd hm (fun cdv A outer s H E hr=>(ql (qp (JP (VJ (qb 0) rfl m_isinstance rfl m_tuple PyProof.Rows.boot_tuple) (JP (QM (qR hr.units) qz (qI zp je rfl m_len PySem.boot_len (qa (qb 0) qe)) qd (qu _)) (JP (qg zq hr rfl (qa (qs (qb 0) qd) qe)) (DQ (qg zq hr rfl (qa (qs (qb 0) qd) qe))))))))) read
abbrev jq:Stmt:=top 3
abbrev JU:List Str:=["things","k","l"]
abbrev JY:List Str:=["things"]
theorem Z4:FnScope JU JY (qi jq):=⟨rfl,rfl,rfl,by decide +kernel,rfl,by decide +kernel,by decide +kernel⟩
theorem R5 (F:Fun K "first_alike" "first_alike" jq f fd) (bd:zd K fd JY []) (hm:mg "first_alike" = some (.ref f))  (m_len:mg "len" = none) (m_range:mg "range" = none)
  (read:Rd sp 1 (Bk.QV) JU):Fn3 P w K mg base (k+1) "first_alike" sp:=
 qA (t3:=(Bk.QV)) F Z4 bd hm (fun cdv A outer s H E hr=>(qf (Y9 PassesOwn.never rfl (qP rfl m_range (qa (qI zp je rfl m_len PySem.boot_len (qa (qb 0) qe)) qe) (h1:=by intro _ _ _ h;simpa [qc,qh] using h)) (qr (i:=1) (Z4.nd)) (ql (Y9 PassesOwn.never rfl (CU rfl m_range (qa (qx (qb 1) qd) (qa (qI zp je rfl m_len PySem.boot_len (qa (qb 0) qe)) qe)) (h1:=by intro _ _ _ h;simpa [qc,qh] using h)) (qr (i:=2) (Z4.nd)) (ql (zl (qC (qR hr.units) qz (qs (qb 0) (qb 1)) (qs (qb 0) (qb 2)) (qu _)) (ql (qp (qy (qa (qb 1) (qa (qb 2) qe))))) qJ))))) (ql (qp CM)))) read
abbrev JB:Stmt:=top 8
abbrev C5:List Str:=["dealing","kind","rows","columns","banks","other_rows","other_columns","other_banks"]
abbrev RQ:List Str:=["dealing"]
theorem jB:FnScope C5 RQ (qi JB):=⟨rfl,rfl,rfl,by decide +kernel,rfl,by decide +kernel,by decide +kernel⟩
theorem WY {S_size_of:Sp3} (F:Fun K "size_of" "size_of" JB f fd) (bd:zd K fd RQ []) (hm:mg "size_of" = some (.ref f)) (F_size_of:Fn3 P w K mg base k "size_of" S_size_of) (m_len:mg "len" = none)
  (read:Rd sp 1 (Bk.EL S_size_of) C5):Fn3 P w K mg base (k+1) "size_of" sp:=
 qA (t3:=(Bk.EL S_size_of)) F jB bd hm (fun cdv A outer s H E hr=>(qf (qK 1 jB.nd (qs (qb 0) qd)) (qf (zl (qC (qR hr.units) qz (qb 1) qG (qu _)) (ql (qp (qy (qa (N4 qd (qs (qb 0) qd)) (qa (N4 qd (qs (qb 0) qd)) (qa (N4 qd (qI zp je rfl m_len PySem.boot_len (qa (qs (qb 0) qd) qe))) qe)))))) qJ) (qf (zl (qC (qR hr.units) qz (qb 1) qG (qu _)) (ql (qp (qy (qa (qI zp je rfl m_len PySem.boot_len (qa (qs (qb 0) qd) qe)) (qa (qI zp je rfl m_len PySem.boot_len (qa (qs (qs (qb 0) qd) qd) qe)) (qa (qs (qb 0) qd) qe)))))) qJ) (qf (zl (qC (qR hr.units) qz (qb 1) qG (qu _)) (qf (jy (qg F_size_of hr rfl (qa (qs (qb 0) qd) qe)) (zG rfl (qo (qr (i:=2) (jB.nd)) (qo (qr (i:=3) (jB.nd)) (qo (qr (i:=4) (jB.nd)) zF))))) (qf (jy (qg F_size_of hr rfl (qa (qs (qb 0) qd) qe)) (zG rfl (qo (qr (i:=5) (jB.nd)) (qo (qr (i:=6) (jB.nd)) (qo (qr (i:=7) (jB.nd)) zF))))) (ql (qp (qy (qa (zm (qb 2) (qb 5)) (qa (zm (qb 3) (qb 6)) (qa (zm (qb 4) (qb 7)) qe)))))))) qJ) (ql (qp (qy (qa (qs (qb 0) qd) (qa (qs (qb 0) qd) (qa (qs (qb 0) qd) qe))))))))))) read
abbrev QA:Stmt:=top 9
abbrev U5:List Str:=["dealing","word","rows","columns","banks"]
abbrev EH:List Str:=["dealing","word"]
theorem ZX:FnScope U5 EH (qi QA):=⟨rfl,rfl,rfl,by decide +kernel,rfl,by decide +kernel,by decide +kernel⟩
theorem VM {S_size_of:Sp3} (F:Fun K "number_of" "number_of" QA f fd) (bd:zd K fd EH []) (hm:mg "number_of" = some (.ref f)) (F_size_of:Fn3 P w K mg base k "size_of" S_size_of) 
  (read:Rd sp 2 (Bk.YE S_size_of) U5):Fn3 P w K mg base (k+1) "number_of" sp:=
 qA (t3:=(Bk.YE S_size_of)) F ZX bd hm (fun cdv A outer s H E hr=>(qf (jy (qg F_size_of hr rfl (qa (qb 0) qe)) (zG rfl (qo (qr (i:=2) (ZX.nd)) (qo (qr (i:=3) (ZX.nd)) (qo (qr (i:=4) (ZX.nd)) zF))))) (ql (qp (qx (zm (qs (qb 1) qd) (qb 3)) (qs (qb 1) qd)))))) read
abbrev JC:Stmt:=top 10
abbrev Y4:List Str:=["dealing","thing","rows","columns","banks"]
abbrev RN:List Str:=["dealing","thing"]
theorem VU:FnScope Y4 RN (qi JC):=⟨rfl,rfl,rfl,by decide +kernel,rfl,by decide +kernel,by decide +kernel⟩
theorem qbg {S_is_pair:Sp3} {S_size_of:Sp3} (F:Fun K "is_word" "is_word" JC f fd) (bd:zd K fd RN []) (hm:mg "is_word" = some (.ref f)) (zD:Fn3 P w K mg base k "is_pair" S_is_pair) (F_size_of:Fn3 P w K mg base k "size_of" S_size_of) 
  (read:Rd sp 2 (Bk.ER S_is_pair S_size_of) Y4):Fn3 P w K mg base (k+1) "is_word" sp:=
 qA (t3:=(Bk.ER S_is_pair S_size_of)) F VU bd hm (fun cdv A outer s H E hr=>(qf (zl (qad (XJ (qg zD hr rfl (qa (qb 1) qe)))) (ql (qp qcs)) qJ) (qf (jy (qg F_size_of hr rfl (qa (qb 0) qe)) (zG rfl (qo (qr (i:=2) (VU.nd)) (qo (qr (i:=3) (VU.nd)) (qo (qr (i:=4) (VU.nd)) zF))))) (ql (qp (JP (qax qhH jz TV jz qd (qs (qb 1) qd) (qb 2)) (DQ (qax qhH jz TV jz qd (qs (qb 1) qd) (qb 3))))))))) read
abbrev zQ:Stmt:=top 11
abbrev Q7:List Str:=["number","mask","common","many"]
abbrev Q1:List Str:=["number","mask"]
theorem zN:FnScope Q7 Q1 (qi zQ):=⟨rfl,rfl,rfl,by decide +kernel,rfl,by decide +kernel,by decide +kernel⟩
theorem XT (F:Fun K "odd_in_common" "odd_in_common" zQ f fd) (bd:zd K fd Q1 []) (hm:mg "odd_in_common" = some (.ref f))  
  (read:Rd sp 2 (Bk.jJ) Q7):Fn3 P w K mg base (k+1) "odd_in_common" sp:=
 qA (t3:=(Bk.jJ)) F zN bd hm (fun cdv A outer s H E hr=>(qf (qK 2 zN.nd (KI (qb 0) (qb 1))) (qf (qK 3 zN.nd qd) (qf (T4 PassesOwn.never (qC qbr jz (qb 2) qd (qu _)) (qf (qb2 3 zN.nd (KI (qb 2) qd)) (ql (qK 2 zN.nd (qjY (qb 2) qd))))) (ql (qp (QM (qR hr.units) qz (KI (qb 3) qd) qd (qu _)))))))) read
abbrev QE:Stmt:=top 12
abbrev RR:List Str:=["masks","number"]
abbrev U3:List Str:=["masks","number"]
theorem KW:FnScope RR U3 (qi QE):=⟨rfl,rfl,rfl,by decide +kernel,rfl,by decide +kernel,by decide +kernel⟩
theorem KU {S_odd_in_common:Sp3} (F:Fun K "bits_bank" "bits_bank" QE f fd) (bd:zd K fd U3 []) (hm:mg "bits_bank" = some (.ref f)) (F_odd_in_common:Fn3 P w K mg base k "odd_in_common" S_odd_in_common) (m_enumerate:mg "enumerate" = none) (m_sum:mg "sum" = none)
  (read:Rd sp 2 (Bk.YG S_odd_in_common) RR):Fn3 P w K mg base (k+1) "bits_bank" sp:=
 qA (t3:=(Bk.YG S_odd_in_common)) F KW bd hm (fun cdv A outer s H E hr=>(ql (qp (qI (EX rfl) qbW rfl m_sum PyProof.Rows.boot_sum (qa (JF ["t","mask","number"] [none,none,some 1] rfl (qbP rfl m_enumerate (qa (qb 0) qe)) (fun _ _ _=>(zG rfl (qo (jgn 0) (qo (jgn 1) zF)))) (fun _ _ _=>LX (XJ (qg F_odd_in_common hr rfl (qa (qb 2) (qa (qb 1) qe))))) (fun _ _ _=>(N4 qd (qb 0))) (by kernel_rfl) (by kernel_rfl)) qe))))) read
abbrev Y8:Stmt:=top 13
abbrev TN:List Str:=["word","rows","columns","i","j"]
abbrev KC:List Str:=["word","rows","columns"]
theorem RA:FnScope TN KC (qi Y8):=⟨rfl,rfl,rfl,by decide +kernel,rfl,by decide +kernel,by decide +kernel⟩
theorem qda (F:Fun K "parted" "parted" Y8 f fd) (bd:zd K fd KC []) (hm:mg "parted" = some (.ref f))  
  (read:Rd sp 3 (Bk.XZ) TN):Fn3 P w K mg base (k+1) "parted" sp:=
 qA (t3:=(Bk.XZ)) F RA bd hm (fun cdv A outer s H E hr=>(qf (jy (qb 0) (zG rfl (qo (qr (i:=3) (RA.nd)) (qo (qr (i:=4) (RA.nd)) zF)))) (ql (qp (qy (qa (qy (qa (UO (qb 3) (qb 1)) (qa (UO (qb 4) (qb 2)) qe))) (qa (qy (qa (j0 (qb 3) (qb 1)) (qa (j0 (qb 4) (qb 2)) qe))) qe))))))) read
abbrev jo:Stmt:=top 14
abbrev JX:List Str:=["one","other","word","rows","columns","banks","upper","lower"]
abbrev YO:List Str:=["one","other","word"]
theorem zS:FnScope JX YO (qi jo):=⟨rfl,rfl,rfl,by decide +kernel,rfl,by decide +kernel,by decide +kernel⟩
theorem Z6 {S_size_of:Sp3} {S_parted:Sp3} {S_bank_in:Sp3} (F:Fun K "joined_bank" "joined_bank" jo f fd) (bd:zd K fd YO []) (hm:mg "joined_bank" = some (.ref f)) (F_size_of:Fn3 P w K mg base k "size_of" S_size_of) (F_parted:Fn3 P w K mg base k "parted" S_parted) (F_bank_in:Fn3 P w K mg base k "bank_in" S_bank_in) 
  (read:Rd sp 3 (Bk.QU S_size_of S_parted S_bank_in) JX):Fn3 P w K mg base (k+1) "joined_bank" sp:=
 qA (t3:=(Bk.QU S_size_of S_parted S_bank_in)) F zS bd hm (fun cdv A outer s H E hr=>(qf (jy (qg F_size_of hr rfl (qa (qb 1) qe)) (zG rfl (qo (qr (i:=3) (zS.nd)) (qo (qr (i:=4) (zS.nd)) (qo (qr (i:=5) (zS.nd)) zF))))) (qf (jy (qg F_parted hr rfl (qa (qb 2) (qa (qb 3) (qa (qb 4) qe)))) (zG rfl (qo (qr (i:=6) (zS.nd)) (qo (qr (i:=7) (zS.nd)) zF)))) (ql (qp (qx (zm (qg F_bank_in hr rfl (qa (qb 0) (qa (qb 6) qe))) (qb 5)) (qg F_bank_in hr rfl (qa (qb 1) (qa (qb 7) qe))))))))) read
abbrev JA:Stmt:=top 15
abbrev RI:List Str:=["dealing","word","kind"]
abbrev RB:List Str:=["dealing","word"]
theorem SD:FnScope RI RB (qi JA):=⟨rfl,rfl,rfl,by decide +kernel,rfl,by decide +kernel,by decide +kernel⟩
theorem WI {S_number_of:Sp3} {S_bits_bank:Sp3} {S_joined_bank:Sp3} (F:Fun K "bank_in" "bank_in" JA f fd) (bd:zd K fd RB []) (hm:mg "bank_in" = some (.ref f)) (F_number_of:Fn3 P w K mg base k "number_of" S_number_of) (F_bits_bank:Fn3 P w K mg base k "bits_bank" S_bits_bank) (F_joined_bank:Fn3 P w K mg base k "joined_bank" S_joined_bank) 
  (read:Rd sp 2 (Bk.DK S_number_of S_bits_bank S_joined_bank) RI):Fn3 P w K mg base (k+1) "bank_in" sp:=
 qA (t3:=(Bk.DK S_number_of S_bits_bank S_joined_bank)) F SD bd hm (fun cdv A outer s H E hr=>(qf (qK 2 SD.nd (qs (qb 0) qd)) (qf (zl (qC (qR hr.units) qz (qb 2) qG (qu _)) (ql (qp (j0 (qx (zm (qs (qb 0) qd) (qs (qb 1) qd)) (zm (qs (qb 0) qd) (qs (qb 1) qd))) (qs (qb 0) qd)))) qJ) (qf (zl (qC (qR hr.units) qz (qb 2) qG (qu _)) (ql (qp (j0 (qg F_number_of hr rfl (qa (qb 0) (qa (qb 1) qe))) (qs (qb 0) qd)))) qJ) (qf (zl (qC (qR hr.units) qz (qb 2) qG (qu _)) (ql (qp (qg F_bits_bank hr rfl (qa (qs (qb 0) qd) (qa (qg F_number_of hr rfl (qa (qb 0) (qa (qb 1) qe))) qe))))) qJ) (qf (zl (qC (qR hr.units) qz (qb 2) qG (qu _)) (ql (qp (qs (qs (qs (qb 0) qd) (qs (qb 1) qd)) (qs (qb 1) qd)))) qJ) (ql (qp (qg F_joined_bank hr rfl (qa (qs (qb 0) qd) (qa (qs (qb 0) qd) (qa (qb 1) qe)))))))))))) read
abbrev Y7:Stmt:=top 18
abbrev qaz:List Str:=["down","along","many"]
abbrev S5:List Str:=["down","along","many"]
theorem qb8:FnScope qaz S5 (qi Y7):=⟨rfl,rfl,rfl,by decide +kernel,rfl,by decide +kernel,by decide +kernel⟩
theorem qb3 (F:Fun K "strung" "strung" Y7 f fd) (bd:zd K fd S5 []) (hm:mg "strung" = some (.ref f))  (m_range:mg "range" = none)
  (read:Rd sp 3 (Bk.X9) qaz):Fn3 P w K mg base (k+1) "strung" sp:=
 qA (t3:=(Bk.X9)) F qb8 bd hm (fun cdv A outer s H E hr=>(ql (qp (JF ["t","down","along"] [none,some 0,some 1] rfl (qP rfl m_range (qa (qb 2) qe) (h1:=by intro _ _ _ h;simpa [qc,qh] using h)) (fun _ _ _=>(jgn 0)) (fun _ _ _=>jj) (fun _ _ _=>(qy (qa (zm (qb 0) (qb 1)) (qa (zm (qb 0) (qb 2)) qe)))) (by kernel_rfl) (by kernel_rfl))))) read
abbrev ZH:Stmt:=top 19
abbrev SC:List Str:=["walk","kind","down","along"]
abbrev W0:List Str:=["walk"]
theorem J8:FnScope SC W0 (qi ZH):=⟨rfl,rfl,rfl,by decide +kernel,rfl,by decide +kernel,by decide +kernel⟩
theorem MI {S_strung:Sp3} (F:Fun K "cells_of" "cells_of" ZH f fd) (bd:zd K fd W0 []) (hm:mg "cells_of" = some (.ref f)) (zU:Fn3 P w K mg base k "strung" S_strung) (m_list:mg "list" = none) (m_range:mg "range" = none) (m_STRIDES:Tb K mg w "STRIDES" DG)
  (read:Rd sp 1 (Bk.UF S_strung) SC):Fn3 P w K mg base (k+1) "cells_of" sp:=
 qA (t3:=(Bk.UF S_strung)) F J8 bd hm (fun cdv A outer s H E hr=>(qf (qK 1 J8.nd (qs (qb 0) qd)) (qf (zl (qC (qR hr.units) qz (qb 1) qG (qu _)) (ql (qp (zi XC qar rfl m_list PyProof.Rows.boot_list (qa (qs (qb 0) qd) qe)))) qJ) (qf (zl (qC (qR hr.units) qz (qb 1) qG (qu _)) (ql (qp (qmd ["p","q","walk"] [none,none,some 0] rfl (qP rfl m_range (qa (qs (qb 0) qd) qe) (h1:=by intro _ _ _ h;simpa [qc,qh] using h)) (fun _ _ _=>(jgn 0)) (fun _ _ _=>jj) (fun _ _ _=>(qP rfl m_range (qa (qs (qb 2) qd) qe) (h1:=by intro _ _ _ h;simpa [qc,qh] using h))) (fun _ _ _=>(jgn 1)) (fun _ _ _=>jj) (fun _ _ _=>(qy (qa (qb 0) (qa (qb 1) qe)))) (by kernel_rfl) (by kernel_rfl)))) qJ) (qf (zl (qC (qR hr.units) qz (qb 1) qG (qu _)) (ql (qp (qg zU hr rfl (qa (qs (qb 0) qd) (qa (qs (qb 0) qd) (qa (qs (qb 0) qd) qe)))))) qJ) (qf (jy (qhA m_STRIDES rfl (qb 1) (fun _ _=>rfl)) (zG rfl (qo (qr (i:=2) (J8.nd)) (qo (qr (i:=3) (J8.nd)) zF)))) (ql (qp (qg zU hr rfl (qa (qb 2) (qa (qb 3) (qa (qs (qb 0) qd) qe)))))))))))) read
abbrev JK:Stmt:=top 20
abbrev EQ:List Str:=["walk","start"]
abbrev C2:List Str:=["walk","start"]
theorem qaQ:FnScope EQ C2 (qi JK):=⟨rfl,rfl,rfl,by decide +kernel,rfl,by decide +kernel,by decide +kernel⟩
theorem qaO {S_cells_of:Sp3} (F:Fun K "shifted" "shifted" JK f fd) (bd:zd K fd C2 []) (hm:mg "shifted" = some (.ref f)) (jf:Fn3 P w K mg base k "cells_of" S_cells_of) 
  (read:Rd sp 2 (Bk.EN S_cells_of) EQ):Fn3 P w K mg base (k+1) "shifted" sp:=
 qA (t3:=(Bk.EN S_cells_of)) F qaQ bd hm (fun cdv A outer s H E hr=>(ql (qp (JF ["p","q","start"] [none,none,some 1] rfl (UL (qg jf hr rfl (qa (qb 0) qe))) (fun _ _ _=>(zG rfl (qo (jgn 0) (qo (jgn 1) zF)))) (fun _ _ _=>jj) (fun _ _ _=>(qy (qa (qx (qs (qb 2) qd) (qb 0)) (qa (qx (qs (qb 2) qd) (qb 1)) qe)))) (by kernel_rfl) (by kernel_rfl))))) read
abbrev ZG:Stmt:=top 21
abbrev VZ:List Str:=["dealing","walk","thing"]
abbrev WW:List Str:=["dealing","walk","thing"]
theorem MV:FnScope VZ WW (qi ZG):=⟨rfl,rfl,rfl,by decide +kernel,rfl,by decide +kernel,by decide +kernel⟩
theorem NC {S_shifted:Sp3} {S_is_word:Sp3} {S_is_pair:Sp3} (F:Fun K "is_start" "is_start" ZG f fd) (bd:zd K fd WW []) (hm:mg "is_start" = some (.ref f)) (zy:Fn3 P w K mg base k "shifted" S_shifted) (j8:Fn3 P w K mg base k "is_word" S_is_word) (zD:Fn3 P w K mg base k "is_pair" S_is_pair) (m_all:mg "all" = none)
  (read:Rd sp 3 (Bk.VV S_shifted S_is_word S_is_pair) VZ):Fn3 P w K mg base (k+1) "is_start" sp:=
 qA (t3:=(Bk.VV S_shifted S_is_word S_is_pair)) F MV bd hm (fun cdv A outer s H E hr=>(ql (qp (JP (qg zD hr rfl (qa (qb 2) qe)) (DQ (qI (UR rfl) qcM rfl m_all PyProof.Rows.boot_all (qa (JF ["word","dealing"] [none,some 0] rfl (UL (qg zy hr rfl (qa (qb 1) (qa (qb 2) qe)))) (fun _ _ _=>(jgn 0)) (fun _ _ _=>jj) (fun _ _ _=>(qg j8 hr rfl (qa (qb 1) (qa (qb 0) qe)))) (by kernel_rfl) (by kernel_rfl)) qe))))))) read
abbrev Q2:Stmt:=top 22
abbrev V7:List Str:=["dealing","walk","start"]
abbrev W9:List Str:=["dealing","walk","start"]
theorem MM:FnScope V7 W9 (qi Q2):=⟨rfl,rfl,rfl,by decide +kernel,rfl,by decide +kernel,by decide +kernel⟩
theorem MT {S_is_start:Sp3} {S_shifted:Sp3} (F:Fun K "words_of" "words_of" Q2 f fd) (bd:zd K fd W9 []) (hm:mg "words_of" = some (.ref f)) (jC:Fn3 P w K mg base k "is_start" S_is_start) (zy:Fn3 P w K mg base k "shifted" S_shifted) 
  (read:Rd sp 3 (Bk.UC S_is_start S_shifted) V7):Fn3 P w K mg base (k+1) "words_of" sp:=
 qA (t3:=(Bk.UC S_is_start S_shifted)) F MM bd hm (fun cdv A outer s H E hr=>(qf (zl (qad (XJ (qg jC hr rfl (qa (qb 0) (qa (qb 1) (qa (qb 2) qe)))))) qdO qJ) (ql (qp (qg zy hr rfl (qa (qb 1) (qa (qb 2) qe))))))) read
abbrev jL:Stmt:=top 24
abbrev j6:List Str:=["dealing","walk","start"]
abbrev VI:List Str:=["dealing","walk","start"]
theorem TU:FnScope j6 VI (qi jL):=⟨rfl,rfl,rfl,by decide +kernel,rfl,by decide +kernel,by decide +kernel⟩
theorem TD {S_words_of:Sp3} {S_bank_in:Sp3} (F:Fun K "banks_from" "banks_from" jL f fd) (bd:zd K fd VI []) (hm:mg "banks_from" = some (.ref f)) (jA:Fn3 P w K mg base k "words_of" S_words_of) (F_bank_in:Fn3 P w K mg base k "bank_in" S_bank_in) 
  (read:Rd sp 3 (Bk.ZR S_words_of S_bank_in) j6):Fn3 P w K mg base (k+1) "banks_from" sp:=
 qA (t3:=(Bk.ZR S_words_of S_bank_in)) F TU bd hm (fun cdv A outer s H E hr=>(ql (qp (JF ["word","dealing"] [none,some 0] rfl (UL (qg jA hr rfl (qa (qb 0) (qa (qb 1) (qa (qb 2) qe))))) (fun _ _ _=>(jgn 0)) (fun _ _ _=>jj) (fun _ _ _=>(qg F_bank_in hr rfl (qa (qb 1) (qa (qb 0) qe)))) (by kernel_rfl) (by kernel_rfl))))) read
abbrev QG:Stmt:=top 26
abbrev QZ:List Str:=["banks","lanes"]
abbrev UU:List Str:=["banks"]
theorem VC:FnScope QZ UU (qi QG):=⟨rfl,rfl,rfl,by decide +kernel,rfl,by decide +kernel,by decide +kernel⟩
def YL:TS3:=(qv (qH (c3 (.int 2)) (gn3 1)) (qv (XM (tb3 (o3 (iB fun i j=>decide (i<j)) (v3 1) (v3 0))) (qH (o3 (iC ZF (·*·)) (v3 1) (c3 (.int 2))) (gn3 1))) (qB (v3 1))))
theorem LD (F:Fun K "lanes_for" "lanes_for" QG f fd) (bd:zd K fd UU []) (hm:mg "lanes_for" = some (.ref f))  
  (read:Rd sp 1 (YL) QZ):Fn3 P w K mg base (k+1) "lanes_for" sp:=
 qA (t3:=(YL)) F VC bd hm (fun cdv A outer s H E hr=>(qf (qK 1 VC.nd qd) (qf (T4 PassesOwn.never (qC TV jz (qb 1) (qb 0) (qu _)) (ql (qK 1 VC.nd (zm (qb 1) qd)))) (ql (qp (qb 1)))))) read
abbrev ZI:Stmt:=top 27
abbrev V8:List Str:=["dealing","walk","start","asked","rows","columns","banks"]
abbrev W7:List Str:=["dealing","walk","start"]
theorem ZJ:FnScope V8 W7 (qi ZI):=⟨rfl,rfl,rfl,by decide +kernel,rfl,by decide +kernel,by decide +kernel⟩
def V6 (S_banks_from:Sp3) (S_first_alike:Sp3) (S_size_of:Sp3) (S_lanes_for:Sp3):TS3:=(qv (qH (cb3 S_banks_from (qc (v3 0) (qc (v3 1) (qc (v3 2) qh)))) (gn3 3)) (qv (qV (tb3 (o3 (YV true) (cb3 S_first_alike (qc (v3 3) qh)) (c3 .non))) (qB (c3 .non)) qt) (qv (qH (cb3 S_size_of (qc (v3 0) qh)) (qM 3 (qj (gn3 4) (qj (gn3 5) (qj (gn3 6) qL))))) (qB (cb3 qF (qc (o3 qW (v3 3) (lc3 (zA (qc (cb3 S_lanes_for (qc (v3 6) qh)) qh)) (gn3 0) (tb3 (o3 (in3 true) (v3 0) (v3 1))) (v3 0) [none,some 3])) qh))))))
theorem M8 {S_banks_from:Sp3} {S_first_alike:Sp3} {S_size_of:Sp3} {S_lanes_for:Sp3} (F:Fun K "lanes_of" "lanes_of" ZI f fd) (bd:zd K fd W7 []) (hm:mg "lanes_of" = some (.ref f)) (zK:Fn3 P w K mg base k "banks_from" S_banks_from) (ze:Fn3 P w K mg base k "first_alike" S_first_alike) (F_size_of:Fn3 P w K mg base k "size_of" S_size_of) (ja:Fn3 P w K mg base k "lanes_for" S_lanes_for) (m_range:mg "range" = none) (m_tuple:mg "tuple" = none)
  (read:Rd sp 3 (V6 S_banks_from S_first_alike S_size_of S_lanes_for) V8):Fn3 P w K mg base (k+1) "lanes_of" sp:=
 qA (t3:=(V6 S_banks_from S_first_alike S_size_of S_lanes_for)) F ZJ bd hm (fun cdv A outer s H E hr=>(qf (qK 3 ZJ.nd (qg zK hr rfl (qa (qb 0) (qa (qb 1) (qa (qb 2) qe))))) (qf (zl (qC qg7 qep (qg ze hr rfl (qa (qb 3) qe)) CM (qu _)) (ql (qp CM)) qJ) (qf (jy (qg F_size_of hr rfl (qa (qb 0) qe)) (zG rfl (qo (qr (i:=4) (ZJ.nd)) (qo (qr (i:=5) (ZJ.nd)) (qo (qr (i:=6) (ZJ.nd)) zF))))) (ql (qp (zi q0 jr rfl m_tuple PyProof.Rows.boot_tuple (qa (qx (qb 3) (JF ["lane","asked"] [none,some 3] rfl (qP rfl m_range (qa (qg ja hr rfl (qa (qb 6) qe)) qe) (h1:=by intro _ _ _ h;simpa [qc,qh] using h)) (fun _ _ _=>(jgn 0)) (fun _ _ _=>LX (qC XR qdd (qb 0) (qb 1) (by with_unfolding_all rfl))) (fun _ _ _=>(qb 0)) (by kernel_rfl) (by kernel_rfl))) qe)))))))) read
abbrev JH:Stmt:=top 29
abbrev C8:List Str:=["_law_cell","_law_k","_law_m"]
abbrev CD:List Str:=["_law_cell","_law_k"]
theorem SW:FnScope C8 CD (qi JH):=⟨rfl,rfl,rfl,by decide +kernel,rfl,by decide +kernel,by decide +kernel⟩
theorem qaP (F:Fun K "_law_mix" "_law_mix" JH f fd) (bd:zd K fd CD []) (hm:mg "_law_mix" = some (.ref f))  
  (read:Rd sp 2 (Bk.EK) C8):Fn3 P w K mg base (k+1) "_law_mix" sp:=
 qA (t3:=(Bk.EK)) F SW bd hm (fun cdv A outer s H E hr=>(qf (qK 2 SW.nd (j0 (zm (qx (qx (j0 (qb 0) qd) (zm (zm (qb 1) (qb 1)) qd)) qd) qd) qd)) (ql (qp (j0 (zm (qb 2) (qb 2)) qd))))) read
abbrev ZL:Stmt:=top 30
abbrev WJ:List Str:=["_law_script","_law_k","_law_cell","_law_own"]
abbrev WM:List Str:=["_law_script","_law_k"]
theorem UW:FnScope WJ WM (qi ZL):=⟨rfl,rfl,rfl,by decide +kernel,rfl,by decide +kernel,by decide +kernel⟩
theorem MZ (F:Fun K "_law_left" "_law_left" ZL f fd) (bd:zd K fd WM []) (hm:mg "_law_left" = some (.ref f))  (m_len:mg "len" = none) (m_abs:mg "abs" = none)
  (read:Rd sp 2 (Bk.V9) WJ):Fn3 P w K mg base (k+1) "_law_left" sp:=
 qA (t3:=(Bk.V9)) F UW bd hm (fun cdv A outer s H E hr=>(qf (qK 2 UW.nd (qlt (qC TV jz (qb 1) (qI zp je rfl m_len PySem.boot_len (qa (qb 0) qe)) (qu _)) (qs (qb 0) (qb 1)) qd)) (qf (qK 3 UW.nd (qlt (qC qj6 jz (qI qaf qc3 rfl m_abs PyProof.Rows.boot_abs (qa (qb 2) qe)) (qj3 qd qd) (qu _)) (qI qaf qc3 rfl m_abs PyProof.Rows.boot_abs (qa (qb 2) qe)) qd)) (ql (qp (jp (qa (qb 3) (qa (qx (qb 2) (zm qd (qb 1))) (qa qd qe))))))))) read
abbrev ZM:Stmt:=top 31
abbrev D9:List Str:=["_law_left_here","_law_many_here","_law_digit"]
abbrev WC:List Str:=["_law_left_here","_law_many_here"]
theorem CO:FnScope D9 WC (qi ZM):=⟨rfl,rfl,rfl,by decide +kernel,rfl,by decide +kernel,by decide +kernel⟩
theorem NT {S_law_mix:Sp3} (F:Fun K "_law_pick" "_law_pick" ZM f fd) (bd:zd K fd WC []) (hm:mg "_law_pick" = some (.ref f)) (F_law_mix:Fn3 P w K mg base k "_law_mix" S_law_mix) 
  (read:Rd sp 2 (Bk.VY S_law_mix) D9):Fn3 P w K mg base (k+1) "_law_pick" sp:=
 qA (t3:=(Bk.VY S_law_mix)) F CO bd hm (fun cdv A outer s H E hr=>(qf (jy (qx (qs (qb 0) qd) qd) (qeP (qb 0) qd)) (qf (zl (qC qbr jz (qs (qb 0) qd) qd (qu _)) (qf (qK 2 CO.nd (j0 (qs (qb 0) qd) (qb 1))) (qf (jy (UO (qs (qb 0) qd) (qb 1)) (qeP (qb 0) qd)) (ql (qp (qb 2))))) qJ) (ql (qp (j0 (UO (qg F_law_mix hr rfl (qa (qg F_law_mix hr rfl (qa (qs (qb 0) qd) (qa (qs (qb 0) qd) qe))) (qa (qx (qs (qb 0) qd) qd) qe))) qd) (qb 1))))))) read
abbrev QH:Stmt:=top 32
abbrev U7:List Str:=["_law_left_here","_law_wide","_law_rows","_law_columns"]
abbrev UX:List Str:=["_law_left_here"]
theorem Y6:FnScope U7 UX (qi QH):=⟨rfl,rfl,rfl,by decide +kernel,rfl,by decide +kernel,by decide +kernel⟩
theorem K9 {S_law_pick:Sp3} (F:Fun K "_law_sides" "_law_sides" QH f fd) (bd:zd K fd UX []) (hm:mg "_law_sides" = some (.ref f)) (F_law_pick:Fn3 P w K mg base k "_law_pick" S_law_pick) 
  (read:Rd sp 1 (Bk.JW S_law_pick) U7):Fn3 P w K mg base (k+1) "_law_sides" sp:=
 qA (t3:=(Bk.JW S_law_pick)) F Y6 bd hm (fun cdv A outer s H E hr=>(qf (qK 1 Y6.nd (qs (jp (qa qd (qa qd (qa qd (qa qd qe))))) (qg F_law_pick hr rfl (qa (qb 0) (qa qd qe))))) (qf (UM (i:=2) (j:=3) rfl Y6.nd rfl rfl (by decide) rfl rfl (qa (qx qd (qg F_law_pick hr rfl (qa (qb 0) (qa (qb 1) qe)))) (qa (qx qd (qg F_law_pick hr rfl (qa (qb 0) (qa (qb 1) qe)))) qe))) (ql (qp (qs (jp (qa (qy (qa (qb 2) (qa (qb 3) qe))) (qa (qy (qa (qb 2) (qa (qb 3) qe))) (qa (qy (qa (qb 2) (qa (qb 3) qe))) (qa (qy (qa (qb 2) (qa (qb 2) qe))) qe))))) (qg F_law_pick hr rfl (qa (qb 0) (qa qd qe))))))))) read
abbrev JO:Stmt:=top 33
abbrev C4:List Str:=["_law_one","_law_other"]
abbrev C1:List Str:=["_law_one","_law_other"]
theorem SB:FnScope C4 C1 (qi JO):=⟨rfl,rfl,rfl,by decide +kernel,rfl,by decide +kernel,by decide +kernel⟩
theorem qbk (F:Fun K "_law_gcd" "_law_gcd" JO f fd) (bd:zd K fd C1 []) (hm:mg "_law_gcd" = some (.ref f))  
  (read:Rd sp 2 (Bk.DU) C4):Fn3 P w K mg base (k+1) "_law_gcd" sp:=
 qA (t3:=(Bk.DU)) F SB bd hm (fun cdv A outer s H E hr=>(qf (T4 PassesOwn.never (qC qbr jz (qb 1) qd (qu _)) (ql (UM (i:=0) (j:=1) rfl SB.nd rfl rfl (by decide) rfl rfl (qa (qb 1) (qa (j0 (qb 0) (qb 1)) qe))))) (ql (qp (qb 0))))) read
abbrev Q5:Stmt:=top 34
abbrev D7:List Str:=["_law_left_here","_law_rows","_law_columns","_law_banks","_law_wide"]
abbrev W2:List Str:=["_law_left_here"]
theorem ZK:FnScope D7 W2 (qi Q5):=⟨rfl,rfl,rfl,by decide +kernel,rfl,by decide +kernel,by decide +kernel⟩
theorem NI {S_law_sides:Sp3} {S_law_pick:Sp3} (F:Fun K "_law_skew" "_law_skew" Q5 f fd) (bd:zd K fd W2 []) (hm:mg "_law_skew" = some (.ref f)) (F_law_sides:Fn3 P w K mg base k "_law_sides" S_law_sides) (F_law_pick:Fn3 P w K mg base k "_law_pick" S_law_pick) 
  (read:Rd sp 1 (Bk.V4 S_law_sides S_law_pick) D7):Fn3 P w K mg base (k+1) "_law_skew" sp:=
 qA (t3:=(Bk.V4 S_law_sides S_law_pick)) F ZK bd hm (fun cdv A outer s H E hr=>(qf (jy (qg F_law_sides hr rfl (qa (qb 0) qe)) (zG rfl (qo (qr (i:=1) (ZK.nd)) (qo (qr (i:=2) (ZK.nd)) zF)))) (qf (qK 3 ZK.nd (qx qd (qg F_law_pick hr rfl (qa (qb 0) (qa (qs (jp (qa qd (qa qd (qa qd (qa qd qe))))) (qg F_law_pick hr rfl (qa (qb 0) (qa qd qe)))) qe))))) (qf (qK 4 ZK.nd (qs (jp (qa (qb 3) (qa qd (qa qd qe)))) (qg F_law_pick hr rfl (qa (qb 0) (qa qd qe))))) (ql (qp (qy (qa qG (qa (qb 1) (qa (qb 2) (qa (qb 3) (qa (qg F_law_pick hr rfl (qa (qb 0) (qa (qb 4) qe))) (qa (qg F_law_pick hr rfl (qa (qb 0) (qa (qb 4) qe))) qe))))))))))))) read
abbrev QI:Stmt:=top 35
abbrev U9:List Str:=["_law_left_here","_law_rows","_law_columns","_law_banks","_law_places","_law_turn"]
abbrev UV:List Str:=["_law_left_here"]
theorem zZ:FnScope U9 UV (qi QI):=⟨rfl,rfl,rfl,by decide +kernel,rfl,by decide +kernel,by decide +kernel⟩
theorem LB {S_law_sides:Sp3} {S_law_pick:Sp3} {S_law_gcd:Sp3} (F:Fun K "_law_rests" "_law_rests" QI f fd) (bd:zd K fd UV []) (hm:mg "_law_rests" = some (.ref f)) (F_law_sides:Fn3 P w K mg base k "_law_sides" S_law_sides) (F_law_pick:Fn3 P w K mg base k "_law_pick" S_law_pick) (F_law_gcd:Fn3 P w K mg base k "_law_gcd" S_law_gcd) (m_range:mg "range" = none)
  (read:Rd sp 1 (Bk.YN S_law_sides S_law_pick S_law_gcd) U9):Fn3 P w K mg base (k+1) "_law_rests" sp:=
 qA (t3:=(Bk.YN S_law_sides S_law_pick S_law_gcd)) F zZ bd hm (fun cdv A outer s H E hr=>(qf (jy (qg F_law_sides hr rfl (qa (qb 0) qe)) (zG rfl (qo (qr (i:=1) (zZ.nd)) (qo (qr (i:=2) (zZ.nd)) zF)))) (qf (qK 3 zZ.nd (qx qd (qg F_law_pick hr rfl (qa (qb 0) (qa (qs (jp (qa qd (qa qd (qa qd qe)))) (qg F_law_pick hr rfl (qa (qb 0) (qa qd qe)))) qe))))) (qf (qK 4 zZ.nd (qx (XB (UO (zm (XB (qb 1)) (qb 2)) (qb 3))) (qg F_law_pick hr rfl (qa (qb 0) (qa qd qe))))) (qf (Y9 PassesOwn.never rfl (qP rfl m_range (qa qd qe) (h1:=by intro _ _ _ h;simpa [qc,qh] using h)) (qr (i:=5) (zZ.nd)) (ql (zl (qC qbr jz (qg F_law_gcd hr rfl (qa (qb 3) (qa (qb 4) qe))) qd (qu _)) (ql (qK 4 zZ.nd (qx (qb 4) qd))) qJ))) (ql (qp (qy (qa qG (qa (qb 1) (qa (qb 2) (qa (qb 3) (qa (qb 4) qe))))))))))))) read
abbrev ZC:Stmt:=top 36
abbrev SQ:List Str:=["_law_left_here","_law_most","_law_high","_law_low","_law_masks","_law_wide"]
abbrev WL:List Str:=["_law_left_here","_law_most"]
theorem JT:FnScope SQ WL (qi ZC):=⟨rfl,rfl,rfl,by decide +kernel,rfl,by decide +kernel,by decide +kernel⟩
theorem NP {S_law_pick:Sp3} (F:Fun K "_law_bits" "_law_bits" ZC f fd) (bd:zd K fd WL []) (hm:mg "_law_bits" = some (.ref f)) (F_law_pick:Fn3 P w K mg base k "_law_pick" S_law_pick) (m_range:mg "range" = none) (m_tuple:mg "tuple" = none)
  (read:Rd sp 2 (Bk.VO S_law_pick) SQ):Fn3 P w K mg base (k+1) "_law_bits" sp:=
 qA (t3:=(Bk.VO S_law_pick)) F JT bd hm (fun cdv A outer s H E hr=>(qf (UM (i:=2) (j:=3) rfl JT.nd rfl rfl (by decide) rfl rfl (qa (qg F_law_pick hr rfl (qa (qb 0) (qa (qx (qb 1) qd) qe))) (qa (qg F_law_pick hr rfl (qa (qb 0) (qa (qx (qb 1) qd) qe))) qe))) (qf (DO 4 ["_law_t","_law_left_here"] [none,some 0] rfl JT.nd (qP rfl m_range (qa (qg F_law_pick hr rfl (qa (qb 0) (qa qd qe))) qe) (h1:=by intro _ _ _ h;simpa [qc,qh] using h)) (fun _ _ _=>(jgn 0)) (fun _ _ _=>jj) (fun _ _ _=>(qg F_law_pick hr rfl (qa (qb 1) (qa qd qe)))) (by kernel_rfl) (by kernel_rfl) rfl rfl) (qf (qK 5 JT.nd (qs (jp (qa qd (qa qd (qa qd (qa qd (qa qd (qa qd (qa qd (qa qd (qa qd qe)))))))))) (qx (qb 2) (qb 3)))) (ql (qp (qy (qa qG (qa (qb 2) (qa (qb 3) (qa (zi q0 jr rfl m_tuple PyProof.Rows.boot_tuple (qa (JF ["_law_mask","_law_wide"] [none,some 5] rfl (UL (qb 4)) (fun _ _ _=>(jgn 0)) (fun _ _ _=>jj) (fun _ _ _=>(j0 (qb 0) (qb 1))) (by kernel_rfl) (by kernel_rfl)) qe)) qe))))))))))) read
abbrev QF:Stmt:=top 37
abbrev RF:List Str:=["_law_left_here","_law_rows","_law_columns","_law_banks","_law_cells_here"]
abbrev EI:List Str:=["_law_left_here"]
theorem j4:FnScope RF EI (qi QF):=⟨rfl,rfl,rfl,by decide +kernel,rfl,by decide +kernel,by decide +kernel⟩
theorem LO {S_law_sides:Sp3} {S_law_pick:Sp3} (F:Fun K "_law_table" "_law_table" QF f fd) (bd:zd K fd EI []) (hm:mg "_law_table" = some (.ref f)) (F_law_sides:Fn3 P w K mg base k "_law_sides" S_law_sides) (F_law_pick:Fn3 P w K mg base k "_law_pick" S_law_pick) (m_range:mg "range" = none) (m_tuple:mg "tuple" = none)
  (read:Rd sp 1 (Bk.J6 S_law_sides S_law_pick) RF):Fn3 P w K mg base (k+1) "_law_table" sp:=
 qA (t3:=(Bk.J6 S_law_sides S_law_pick)) F j4 bd hm (fun cdv A outer s H E hr=>(qf (jy (qg F_law_sides hr rfl (qa (qb 0) qe)) (zG rfl (qo (qr (i:=1) (j4.nd)) (qo (qr (i:=2) (j4.nd)) zF)))) (qf (qK 3 j4.nd (qx qd (qg F_law_pick hr rfl (qa (qb 0) (qa (qs (jp (qa qd (qa qd (qa qd qe)))) (qg F_law_pick hr rfl (qa (qb 0) (qa qd qe)))) qe))))) (qf (DO 4 ["_law_i","_law_left_here","_law_banks","_law_columns"] [none,some 0,some 3,some 2] rfl j4.nd (qP rfl m_range (qa (qb 1) qe) (h1:=by intro _ _ _ h;simpa [qc,qh] using h)) (fun _ _ _=>(jgn 0)) (fun _ _ _=>jj) (fun _ _ _=>(zi q0 jr rfl m_tuple PyProof.Rows.boot_tuple (qa (JF ["_law_j","_law_left_here","_law_banks"] [none,some 1,some 2] rfl (qP rfl m_range (qa (qb 3) qe) (h1:=by intro _ _ _ h;simpa [qc,qh] using h)) (fun _ _ _=>(jgn 0)) (fun _ _ _=>jj) (fun _ _ _=>(qg F_law_pick hr rfl (qa (qb 1) (qa (qb 2) qe)))) (by kernel_rfl) (by kernel_rfl)) qe))) (by kernel_rfl) (by kernel_rfl) rfl rfl) (ql (qp (qy (qa qG (qa (qb 3) (qa (zi q0 jr rfl m_tuple PyProof.Rows.boot_tuple (qa (qb 4) qe)) qe)))))))))) read
abbrev j9:Stmt:=top 38
abbrev CH:List Str:=["_law_left_here","_law_rows","_law_columns","_law_banks","_law_way","_law_high","_law_low","_law_masks","_law_wide","_law_places","_law_turn","_law_cells_here"]
abbrev EC:List Str:=["_law_left_here"]
theorem qX:FnScope CH EC (qi j9):=⟨rfl,rfl,rfl,by decide +kernel,rfl,by decide +kernel,by decide +kernel⟩
theorem K6 {S_law_pick:Sp3} {S_law_gcd:Sp3} (F:Fun K "_law_small" "_law_small" j9 f fd) (bd:zd K fd EC []) (hm:mg "_law_small" = some (.ref f)) (F_law_pick:Fn3 P w K mg base k "_law_pick" S_law_pick) (F_law_gcd:Fn3 P w K mg base k "_law_gcd" S_law_gcd) (m_range:mg "range" = none) (m_tuple:mg "tuple" = none)
  (read:Rd sp 1 (Bk.YD S_law_pick S_law_gcd) CH):Fn3 P w K mg base (k+1) "_law_small" sp:=
 qA (t3:=(Bk.YD S_law_pick S_law_gcd)) F qX bd hm (fun cdv A outer s H E hr=>(qf (jy (qy (qa (qx qd (qg F_law_pick hr rfl (qa (qb 0) (qa qd qe)))) (qa (qx qd (qg F_law_pick hr rfl (qa (qb 0) (qa qd qe)))) (qa (qx qd (qg F_law_pick hr rfl (qa (qb 0) (qa qd qe)))) qe)))) (zG rfl (qo (qr (i:=1) (qX.nd)) (qo (qr (i:=2) (qX.nd)) (qo (qr (i:=3) (qX.nd)) zF))))) (qf (qK 4 qX.nd (qg F_law_pick hr rfl (qa (qb 0) (qa qd qe)))) (qf (zl (qC (qR hr.units) qz (qb 4) qd (qu _)) (ql (qp (qy (qa qG (qa (qb 1) (qa (qb 2) (qa (qb 3) (qa (qg F_law_pick hr rfl (qa (qb 0) (qa (qb 3) qe))) (qa (qg F_law_pick hr rfl (qa (qb 0) (qa qd qe))) qe))))))))) qJ) (qf (zl (qC (qR hr.units) qz (qb 4) qd (qu _)) (qf (UM (i:=5) (j:=6) rfl qX.nd rfl rfl (by decide) rfl rfl (qa (qg F_law_pick hr rfl (qa (qb 0) (qa qd qe))) (qa (qg F_law_pick hr rfl (qa (qb 0) (qa qd qe))) qe))) (qf (DO 7 ["_law_t","_law_left_here"] [none,some 0] rfl qX.nd (qP rfl m_range (qa (qg F_law_pick hr rfl (qa (qb 0) (qa qd qe))) qe) (h1:=by intro _ _ _ h;simpa [qc,qh] using h)) (fun _ _ _=>(jgn 0)) (fun _ _ _=>jj) (fun _ _ _=>(qg F_law_pick hr rfl (qa (qb 1) (qa qd qe)))) (by kernel_rfl) (by kernel_rfl) rfl rfl) (qf (qK 8 qX.nd (qs (jp (qa qd (qa qd (qa qd (qa qd (qa qd qe)))))) (qx (qb 5) (qb 6)))) (ql (qp (qy (qa qG (qa (qb 5) (qa (qb 6) (qa (zi q0 jr rfl m_tuple PyProof.Rows.boot_tuple (qa (JF ["_law_mask","_law_wide"] [none,some 8] rfl (UL (qb 7)) (fun _ _ _=>(jgn 0)) (fun _ _ _=>jj) (fun _ _ _=>(j0 (qb 0) (qb 1))) (by kernel_rfl) (by kernel_rfl)) qe)) qe)))))))))) qJ) (qf (zl (qC (qR hr.units) qz (qb 4) qd (qu _)) (qf (qK 9 qX.nd (qx (XB (UO (zm (XB (qb 1)) (qb 2)) (qb 3))) (qg F_law_pick hr rfl (qa (qb 0) (qa qd qe))))) (qf (Y9 PassesOwn.never rfl (qP rfl m_range (qa qd qe) (h1:=by intro _ _ _ h;simpa [qc,qh] using h)) (qr (i:=10) (qX.nd)) (ql (zl (qC qbr jz (qg F_law_gcd hr rfl (qa (qb 3) (qa (qb 9) qe))) qd (qu _)) (ql (qK 9 qX.nd (qx (qb 9) qd))) qJ))) (ql (qp (qy (qa qG (qa (qb 1) (qa (qb 2) (qa (qb 3) (qa (qb 9) qe)))))))))) qJ) (qf (DO 11 ["_law_i","_law_left_here","_law_banks","_law_columns"] [none,some 0,some 3,some 2] rfl qX.nd (qP rfl m_range (qa (qb 1) qe) (h1:=by intro _ _ _ h;simpa [qc,qh] using h)) (fun _ _ _=>(jgn 0)) (fun _ _ _=>jj) (fun _ _ _=>(zi q0 jr rfl m_tuple PyProof.Rows.boot_tuple (qa (JF ["_law_j","_law_left_here","_law_banks"] [none,some 1,some 2] rfl (qP rfl m_range (qa (qb 3) qe) (h1:=by intro _ _ _ h;simpa [qc,qh] using h)) (fun _ _ _=>(jgn 0)) (fun _ _ _=>jj) (fun _ _ _=>(qg F_law_pick hr rfl (qa (qb 1) (qa (qb 2) qe)))) (by kernel_rfl) (by kernel_rfl)) qe))) (by kernel_rfl) (by kernel_rfl) rfl rfl) (ql (qp (qy (qa qG (qa (qb 3) (qa (zi q0 jr rfl m_tuple PyProof.Rows.boot_tuple (qa (qb 11) qe)) qe))))))))))))) read
abbrev js:Stmt:=top 39
abbrev YI:List Str:=["_law_left_here","_law_way","_law_inner","_law_some"]
abbrev YA:List Str:=["_law_left_here"]
theorem jY:FnScope YI YA (qi js):=⟨rfl,rfl,rfl,by decide +kernel,rfl,by decide +kernel,by decide +kernel⟩
theorem RW {S_law_pick:Sp3} {S_law_skew:Sp3} {S_law_rests:Sp3} {S_law_bits:Sp3} {S_law_table:Sp3} {S_law_small:Sp3} (F:Fun K "_law_dealing" "_law_dealing" js f fd) (bd:zd K fd YA []) (hm:mg "_law_dealing" = some (.ref f)) (F_law_pick:Fn3 P w K mg base k "_law_pick" S_law_pick) (F_law_skew:Fn3 P w K mg base k "_law_skew" S_law_skew) (F_law_rests:Fn3 P w K mg base k "_law_rests" S_law_rests) (F_law_bits:Fn3 P w K mg base k "_law_bits" S_law_bits) (F_law_table:Fn3 P w K mg base k "_law_table" S_law_table) (F_law_small:Fn3 P w K mg base k "_law_small" S_law_small) 
  (read:Rd sp 1 (Bk.QW S_law_pick S_law_skew S_law_rests S_law_bits S_law_table S_law_small) YI):Fn3 P w K mg base (k+1) "_law_dealing" sp:=
 qA (t3:=(Bk.QW S_law_pick S_law_skew S_law_rests S_law_bits S_law_table S_law_small)) F jY bd hm (fun cdv A outer s H E hr=>(qf (qK 1 jY.nd (qg F_law_pick hr rfl (qa (qb 0) (qa qd qe)))) (qf (zl (qC TV jz (qb 1) qd (qu _)) (ql (qp (qg F_law_skew hr rfl (qa (qb 0) qe)))) qJ) (qf (zl (qC (qR hr.units) qz (qb 1) qd (qu _)) (ql (qp (qg F_law_rests hr rfl (qa (qb 0) qe)))) qJ) (qf (zl (qC (qR hr.units) qz (qb 1) qd (qu _)) (ql (qp (qg F_law_bits hr rfl (qa (qb 0) (qa qd qe))))) qJ) (qf (zl (qC (qR hr.units) qz (qb 1) qd (qu _)) (ql (qp (qg F_law_table hr rfl (qa (qb 0) qe)))) qJ) (qf (zl (qC (qR hr.units) qz (qb 1) qd (qu _)) (qf (qK 2 jY.nd (qy (qa qG (qa (qy (qa qG (qa (qx qd (qg F_law_pick hr rfl (qa (qb 0) (qa qd qe)))) (qa qd (qa qd (qa qd (qa qd qe))))))) (qa (qy (qa qG (qa qd (qa (qy (qa (qy (qa qd (qa qd qe))) qe)) qe)))) qe))))) (qf (qK 3 jY.nd (jp (qa (qy (qa qG (qa (qb 2) (qa (qg F_law_small hr rfl (qa (qb 0) qe)) qe)))) (qa (qy (qa qG (qa (qg F_law_small hr rfl (qa (qb 0) qe)) (qa (qb 2) qe)))) qe)))) (qf (CJ (CL (qb 3) (qa (qy (qa qG (qa (qy (qa qG (qa qd (qa qd (qa qd (qa qd (qa qd qe))))))) (qa (qy (qa qG (qa qd (qa qd (qa qd (qa qd qe)))))) qe)))) qe))) (qf (CJ (CL (qb 3) (qa (qy (qa qG (qa (qy (qa qG (qa qd (qa qd (qa qd (qa qd qe)))))) (qa (qy (qa qG (qa qd (qa qd (qa qd (qa qd (qa qd qe))))))) qe)))) qe))) (ql (qp (qs (qb 3) (qg F_law_pick hr rfl (qa (qb 0) (qa qd qe)))))))))) qJ) (ql (qp (qy (qa qG (qa (qg F_law_small hr rfl (qa (qb 0) qe)) (qa (qg F_law_small hr rfl (qa (qb 0) qe)) qe))))))))))))) read
abbrev Q8:Stmt:=top 40
abbrev SK:List Str:=["_law_dealing_here","_law_two","_law_one","_law_other"]
abbrev D8:List Str:=["_law_dealing_here"]
theorem EA:FnScope SK D8 (qi Q8):=⟨rfl,rfl,rfl,by decide +kernel,rfl,by decide +kernel,by decide +kernel⟩
theorem US {S_law_size:Sp3} (F:Fun K "_law_size" "_law_size" Q8 f fd) (bd:zd K fd D8 []) (hm:mg "_law_size" = some (.ref f)) (F_law_size:Fn3 P w K mg base k "_law_size" S_law_size) (m_len:mg "len" = none) (m_zip:mg "zip" = none) (m_tuple:mg "tuple" = none)
  (read:Rd sp 1 (Bk.VQ S_law_size) SK):Fn3 P w K mg base (k+1) "_law_size" sp:=
 qA (t3:=(Bk.VQ S_law_size)) F EA bd hm (fun cdv A outer s H E hr=>(qf (zl (qC qbN qdd (qs (qb 0) qd) (qy (qa qG (qa qG qe))) (by with_unfolding_all rfl)) (ql (qp (DT (qb 0) (U8 qd) (U8 qd)))) qJ) (qf (zl (qC (qR hr.units) qz (qs (qb 0) qd) qG (qu _)) (qf (qK 1 EA.nd (jp (qa qd (qa qd (qa qd (qa qd (qa qd (qa qd (qa qd (qa qd (qa qd (qa qd qe)))))))))))) (ql (qp (qy (qa (qs (qb 1) (qs (qb 0) qd)) (qa (qs (qb 1) (qs (qb 0) qd)) (qa (qs (qb 1) (qI zp je rfl m_len PySem.boot_len (qa (qs (qb 0) qd) qe))) qe))))))) qJ) (qf (zl (qC (qR hr.units) qz (qs (qb 0) qd) qG (qu _)) (ql (qp (qy (qa (qI zp je rfl m_len PySem.boot_len (qa (qs (qb 0) qd) qe)) (qa (qI zp je rfl m_len PySem.boot_len (qa (qs (qs (qb 0) qd) qd) qe)) (qa (qs (qb 0) qd) qe)))))) qJ) (qf (UM (i:=2) (j:=3) rfl EA.nd rfl rfl (by decide) rfl rfl (qa (qg F_law_size hr rfl (qa (qs (qb 0) qd) qe)) (qa (qg F_law_size hr rfl (qa (qs (qb 0) qd) qe)) qe))) (ql (qp (zi q0 jr rfl m_tuple PyProof.Rows.boot_tuple (qa (JF ["_law_x","_law_y"] [none,none] rfl (qeU rfl m_zip (qa (qb 2) (qa (qb 3) qe))) (fun _ _ _=>(zG rfl (qo (jgn 0) (qo (jgn 1) zF)))) (fun _ _ _=>jj) (fun _ _ _=>(zm (qb 0) (qb 1))) (by kernel_rfl) (by kernel_rfl)) qe))))))))) read
abbrev JL:Stmt:=top 41
abbrev CQ:List Str:=["_law_number","_law_found","_law_t"]
abbrev RC:List Str:=["_law_number"]
theorem UB:FnScope CQ RC (qi JL):=⟨rfl,rfl,rfl,by decide +kernel,rfl,by decide +kernel,by decide +kernel⟩
theorem qaN (F:Fun K "_law_odd" "_law_odd" JL f fd) (bd:zd K fd RC []) (hm:mg "_law_odd" = some (.ref f))  (m_range:mg "range" = none)
  (read:Rd sp 1 (Bk.EW) CQ):Fn3 P w K mg base (k+1) "_law_odd" sp:=
 qA (t3:=(Bk.EW)) F UB bd hm (fun cdv A outer s H E hr=>(qf (qK 1 UB.nd qcs) (qf (Y9 PassesOwn.never rfl (qP rfl m_range (qa qd qe) (h1:=by intro _ _ _ h;simpa [qc,qh] using h)) (qr (i:=2) (UB.nd)) (ql (qK 1 UB.nd (QM (qal hr.units) T7 (qb 1) (QM (qR hr.units) qz (j0 (UO (qb 0) (qs (jp (qa qd (qa qd (qa qd (qa qd (qa qd (qa qd (qa qd (qa qd (qa qd qe)))))))))) (qb 2))) qd) qd (qu _)) (qu _))))) (ql (qp (qb 1)))))) read
abbrev ZD:Stmt:=top 42
abbrev SG:List Str:=["_law_dealing_here","_law_i","_law_j","_law_rows","_law_columns","_law_banks","_law_some","_law_high","_law_wide","_law_more"]
abbrev WS:List Str:=["_law_dealing_here","_law_i","_law_j"]
theorem zX:FnScope SG WS (qi ZD):=⟨rfl,rfl,rfl,by decide +kernel,rfl,by decide +kernel,by decide +kernel⟩
theorem UT {S_law_size:Sp3} {S_law_odd:Sp3} {S_law_bank:Sp3} (F:Fun K "_law_bank" "_law_bank" ZD f fd) (bd:zd K fd WS []) (hm:mg "_law_bank" = some (.ref f)) (F_law_size:Fn3 P w K mg base k "_law_size" S_law_size) (F_law_odd:Fn3 P w K mg base k "_law_odd" S_law_odd) (F_law_bank:Fn3 P w K mg base k "_law_bank" S_law_bank) (m_enumerate:mg "enumerate" = none) (m_sum:mg "sum" = none)
  (read:Rd sp 3 (Bk.UE S_law_size S_law_odd S_law_bank) SG):Fn3 P w K mg base (k+1) "_law_bank" sp:=
 qA (t3:=(Bk.UE S_law_size S_law_odd S_law_bank)) F zX bd hm (fun cdv A outer s H E hr=>(qf (jy (qg F_law_size hr rfl (qa (qb 0) qe)) (zG rfl (qo (qr (i:=3) (zX.nd)) (qo (qr (i:=4) (zX.nd)) (qo (qr (i:=5) (zX.nd)) zF))))) (qf (zl (qC (qR hr.units) qz (qs (qb 0) qd) qG (qu _)) (ql (qp (j0 (qx (zm (qs (qb 0) qd) (qb 1)) (zm (qs (qb 0) qd) (qb 2))) (qb 5)))) qJ) (qf (zl (qC (qR hr.units) qz (qs (qb 0) qd) qG (qu _)) (ql (qp (j0 (qx (zm (qb 1) (qb 4)) (qb 2)) (qb 5)))) qJ) (qf (zl (qC (qR hr.units) qz (qs (qb 0) qd) qG (qu _)) (qf (DO 6 ["_law_t","_law_mask","_law_j","_law_i","_law_columns"] [none,none,some 2,some 1,some 4] rfl zX.nd (qbP rfl m_enumerate (qa (qs (qb 0) qd) qe)) (fun _ _ _=>(zG rfl (qo (jgn 0) (qo (jgn 1) zF)))) (fun _ _ _=>LX (XJ (qg F_law_odd hr rfl (qa (KI (qx (zm (qb 3) (qb 4)) (qb 2)) (qb 1)) qe)))) (fun _ _ _=>(qs (jp (qa qd (qa qd (qa qd (qa qd (qa qd qe)))))) (qb 0))) (by kernel_rfl) (by kernel_rfl) rfl rfl) (ql (qp (qI (EX rfl) qbW rfl m_sum PyProof.Rows.boot_sum (qa (qb 6) qe))))) qJ) (qf (zl (qC (qR hr.units) qz (qs (qb 0) qd) qG (qu _)) (ql (qp (qs (qs (qs (qb 0) qd) (qb 1)) (qb 2)))) qJ) (qf (jy (qg F_law_size hr rfl (qa (qs (qb 0) qd) qe)) (zG rfl (qo (qr (i:=7) (zX.nd)) (qo (qr (i:=8) (zX.nd)) (qo (qr (i:=9) (zX.nd)) zF))))) (ql (qp (qx (zm (qg F_law_bank hr rfl (qa (qs (qb 0) qd) (qa (UO (qb 1) (qb 7)) (qa (UO (qb 2) (qb 8)) qe)))) (qb 9)) (qg F_law_bank hr rfl (qa (qs (qb 0) qd) (qa (j0 (qb 1) (qb 7)) (qa (j0 (qb 2) (qb 8)) qe)))))))))))))) read
abbrev QY:Stmt:=top 43
abbrev WX:List Str:=["_law_left_here"]
abbrev WN:List Str:=["_law_left_here"]
theorem NA:FnScope WX WN (qi QY):=⟨rfl,rfl,rfl,by decide +kernel,rfl,by decide +kernel,by decide +kernel⟩
theorem MJ {S_law_pick:Sp3} (F:Fun K "_law_many" "_law_many" QY f fd) (bd:zd K fd WN []) (hm:mg "_law_many" = some (.ref f)) (F_law_pick:Fn3 P w K mg base k "_law_pick" S_law_pick) 
  (read:Rd sp 1 (Bk.VR S_law_pick) WX):Fn3 P w K mg base (k+1) "_law_many" sp:=
 qA (t3:=(Bk.VR S_law_pick)) F NA bd hm (fun cdv A outer s H E hr=>(ql (qp (qx qd (qg F_law_pick hr rfl (qa (qb 0) (qa (qs (jp (qa qd (qa qd (qa qd (qa qd (qa qd (qa qd (qa qd (qa qd qe))))))))) (qg F_law_pick hr rfl (qa (qb 0) (qa qd qe)))) qe))))))) read
abbrev Q6:Stmt:=top 44
abbrev D0:List Str:=["_law_left_here","_law_way","_law_lying","_law_high","_law_wide","_law_down","_law_along","_law_pairs","_law_far","_law_turn","_law_pair"]
abbrev WD:List Str:=["_law_left_here"]
theorem z9:FnScope D0 WD (qi Q6):=⟨rfl,rfl,rfl,by decide +kernel,rfl,by decide +kernel,by decide +kernel⟩
theorem NN {S_law_pick:Sp3} {S_law_many:Sp3} (F:Fun K "_law_walk" "_law_walk" Q6 f fd) (bd:zd K fd WD []) (hm:mg "_law_walk" = some (.ref f)) (F_law_pick:Fn3 P w K mg base k "_law_pick" S_law_pick) (F_law_many:Fn3 P w K mg base k "_law_many" S_law_many) (m_int:mg "int" = none) (m_range:mg "range" = none) (m_tuple:mg "tuple" = none)
  (read:Rd sp 1 (Bk.V2 S_law_pick S_law_many) D0):Fn3 P w K mg base (k+1) "_law_walk" sp:=
 qA (t3:=(Bk.V2 S_law_pick S_law_many)) F z9 bd hm (fun cdv A outer s H E hr=>(qf (qK 1 z9.nd (qg F_law_pick hr rfl (qa (qb 0) (qa qd qe)))) (qf (zl (qC TV jz (qb 1) qd (qu _)) (ql (qp (qy (qa (qs (jp (qa qG (qa qG (qa qG (qa qG qe))))) (qb 1)) (qa (qg F_law_many hr rfl (qa (qb 0) qe)) qe))))) qJ) (qf (zl (qC TV jz (qb 1) qd (qu _)) (qf (UM (i:=2) (j:=3) rfl z9.nd rfl rfl (by decide) rfl rfl (qa (qg F_law_pick hr rfl (qa (qb 0) (qa qd qe))) (qa (qx qd (qg F_law_pick hr rfl (qa (qb 0) (qa qd qe)))) qe))) (qf (qK 4 z9.nd (qx qd (qg F_law_pick hr rfl (qa (qb 0) (qa (UO qd (qb 3)) qe))))) (ql (qp (qs (jp (qa (qy (qa qG (qa (qb 3) (qa (qb 4) qe)))) (qa (qy (qa qG (qa (qb 4) (qa (qb 3) qe)))) qe))) (qb 2)))))) qJ) (qf (zl (qC TV jz (qb 1) qd (qu _)) (qf (UM (i:=5) (j:=6) rfl z9.nd rfl rfl (by decide) rfl rfl (qa (SU (qg F_law_pick hr rfl (qa (qb 0) (qa qd qe))) qd) (qa (SU (qg F_law_pick hr rfl (qa (qb 0) (qa qd qe))) qd) qe))) (qf (zl (qC (qR hr.units) qz (qg F_law_pick hr rfl (qa (qb 0) (qa qd qe))) qd (qu _)) (ql (qp (qy (qa qG (qa (zm qd (qb 5)) (qa (qx (zm qd (qb 6)) (zi CV NU rfl m_int PyProof.Rows.boot_int (qa (JP (QM (qR hr.units) qz (qb 5) qd (qu _)) (DQ (QM (qR hr.units) qz (qb 6) qd (qu _)))) qe))) (qa (qx qd (qg F_law_pick hr rfl (qa (qb 0) (qa qd qe)))) qe))))))) qJ) (ql (qp (qy (qa qG (qa (qb 5) (qa (qx (qb 6) (zi CV NU rfl m_int PyProof.Rows.boot_int (qa (JP (QM (qR hr.units) qz (qb 5) qd (qu _)) (DQ (QM (qR hr.units) qz (qb 6) qd (qu _)))) qe))) (qa (qg F_law_many hr rfl (qa (qb 0) qe)) qe))))))))) qJ) (qf (UM (i:=7) (j:=8) rfl z9.nd rfl rfl (by decide) rfl rfl (qa (jp qe) (qa (qx qd (zm qd (zi CV NU rfl m_int PyProof.Rows.boot_int (qa (QM (qR hr.units) qz (qg F_law_pick hr rfl (qa (qb 0) (qa qd qe))) qd (qu _)) qe)))) qe))) (qf (Y9 PassesOwn.never rfl (qP rfl m_range (qa (qg F_law_many hr rfl (qa (qb 0) qe)) qe) (h1:=by intro _ _ _ h;simpa [qc,qh] using h)) (qr (i:=9) (z9.nd)) (qf (qK 10 z9.nd (qy (qa (zm (qb 8) (SU (qg F_law_pick hr rfl (qa (qb 0) (qa qd qe))) qd)) (qa (zm (qb 8) (SU (qg F_law_pick hr rfl (qa (qb 0) (qa qd qe))) qd)) qe)))) (ql (zl (qC (qcC hr.units) qhG (qb 10) (qb 7) (by with_unfolding_all rfl)) (ql (CJ (CL (qb 7) (qa (qb 10) qe)))) qJ)))) (ql (qp (qy (qa qG (qa (zi q0 jr rfl m_tuple PyProof.Rows.boot_tuple (qa (qb 7) qe)) qe)))))))))))) read
abbrev j5:Stmt:=top 45
abbrev JV:List Str:=["_law_walk_here","_law_found","_law_p","_law_down","_law_along"]
abbrev U1:List Str:=["_law_walk_here"]
theorem j3:FnScope JV U1 (qi j5):=⟨rfl,rfl,rfl,by decide +kernel,rfl,by decide +kernel,by decide +kernel⟩
theorem L0 (F:Fun K "_law_cells" "_law_cells" j5 f fd) (bd:zd K fd U1 []) (hm:mg "_law_cells" = some (.ref f))  (m_list:mg "list" = none) (m_range:mg "range" = none)
  (read:Rd sp 1 (Bk.YF) JV):Fn3 P w K mg base (k+1) "_law_cells" sp:=
 qA (t3:=(Bk.YF)) F j3 bd hm (fun cdv A outer s H E hr=>(qf (zl (qC (qR hr.units) qz (qs (qb 0) qd) qG (qu _)) (ql (qp (zi XC qar rfl m_list PyProof.Rows.boot_list (qa (qs (qb 0) qd) qe)))) qJ) (qf (zl (qC (qR hr.units) qz (qs (qb 0) qd) qG (qu _)) (qf (qK 1 j3.nd (jp qe)) (qf (Y9 PassesOwn.never rfl (qP rfl m_range (qa (qs (qb 0) qd) qe) (h1:=by intro _ _ _ h;simpa [qc,qh] using h)) (qr (i:=2) (j3.nd)) (ql (CJ (K5 (qb 1) (qa (JF ["_law_q","_law_p"] [none,some 2] rfl (qP rfl m_range (qa (qs (qb 0) qd) qe) (h1:=by intro _ _ _ h;simpa [qc,qh] using h)) (fun _ _ _=>(jgn 0)) (fun _ _ _=>jj) (fun _ _ _=>(qy (qa (qb 1) (qa (qb 0) qe)))) (by kernel_rfl) (by kernel_rfl)) qe))))) (ql (qp (qb 1))))) qJ) (qf (jy (qhr (C9 (qy (qa qd (qa qd qe))) (C9 (qy (qa qd (qa qd qe))) (C9 (qy (qa qd (qa qd qe))) (C9 (qy (qa qd (qa (XB qd) qe))) (C9 (DT (qb 0) (U8 qd) (U8 qd)) qkn))))) (qs (qb 0) qd)) (zG rfl (qo (qr (i:=3) (j3.nd)) (qo (qr (i:=4) (j3.nd)) zF)))) (ql (qp (JF ["_law_t","_law_down","_law_along"] [none,some 3,some 4] rfl (qP rfl m_range (qa (qs (qb 0) (XB qd)) qe) (h1:=by intro _ _ _ h;simpa [qc,qh] using h)) (fun _ _ _=>(jgn 0)) (fun _ _ _=>jj) (fun _ _ _=>(qy (qa (zm (qb 0) (qb 1)) (qa (zm (qb 0) (qb 2)) qe)))) (by kernel_rfl) (by kernel_rfl)))))))) read
abbrev jP:Stmt:=top 46
abbrev ZW:List Str:=["_law_dealing_here","_law_walk_here","_law_rows","_law_columns","_law_banks","_law_cells_here","_law_downs","_law_alongs","_law_found","_law_i"]
abbrev Y5:List Str:=["_law_dealing_here","_law_walk_here"]
theorem zo:FnScope ZW Y5 (qi jP):=⟨rfl,rfl,rfl,by decide +kernel,rfl,by decide +kernel,by decide +kernel⟩
theorem KH {S_law_size:Sp3} {S_law_cells:Sp3} (F:Fun K "_law_starts" "_law_starts" jP f fd) (bd:zd K fd Y5 []) (hm:mg "_law_starts" = some (.ref f)) (F_law_size:Fn3 P w K mg base k "_law_size" S_law_size) (qY:Fn3 P w K mg base k "_law_cells" S_law_cells) (m_min:mg "min" = none) (m_max:mg "max" = none) (m_range:mg "range" = none)
  (read:Rd sp 2 (Bk.ZS S_law_size S_law_cells) ZW):Fn3 P w K mg base (k+1) "_law_starts" sp:=
 qA (t3:=(Bk.ZS S_law_size S_law_cells)) F zo bd hm (fun cdv A outer s H E hr=>(qf (jy (qg F_law_size hr rfl (qa (qb 0) qe)) (zG rfl (qo (qr (i:=2) (zo.nd)) (qo (qr (i:=3) (zo.nd)) (qo (qr (i:=4) (zo.nd)) zF))))) (qf (qK 5 zo.nd (qg qY hr rfl (qa (qb 1) qe))) (qf (UM (i:=6) (j:=7) rfl zo.nd rfl rfl (by decide) rfl rfl (qa (JF ["_law_p","_law_q"] [none,none] rfl (UL (qb 5)) (fun _ _ _=>(zG rfl (qo (jgn 0) (qo (jgn 1) zF)))) (fun _ _ _=>jj) (fun _ _ _=>(qb 0)) (by kernel_rfl) (by kernel_rfl)) (qa (JF ["_law_p","_law_q"] [none,none] rfl (UL (qb 5)) (fun _ _ _=>(zG rfl (qo (jgn 0) (qo (jgn 1) zF)))) (fun _ _ _=>jj) (fun _ _ _=>(qb 1)) (by kernel_rfl) (by kernel_rfl)) qe))) (qf (qK 8 zo.nd (jp qe)) (qf (Y9 PassesOwn.never rfl (CU rfl m_range (qa (XB (qI (L9 rfl) qak rfl m_min PyProof.Rows.boot_min (qa (qb 6) qe))) (qa (SU (qb 2) (qI (K1 rfl) qaq rfl m_max PyProof.Rows.boot_max (qa (qb 6) qe))) qe)) (h1:=by intro _ _ _ h;simpa [qc,qh] using h)) (qr (i:=9) (zo.nd)) (ql (CJ (K5 (qb 8) (qa (JF ["_law_j","_law_i"] [none,some 9] rfl (CU rfl m_range (qa (XB (qI (L9 rfl) qak rfl m_min PyProof.Rows.boot_min (qa (qb 7) qe))) (qa (SU (qb 3) (qI (K1 rfl) qaq rfl m_max PyProof.Rows.boot_max (qa (qb 7) qe))) qe)) (h1:=by intro _ _ _ h;simpa [qc,qh] using h)) (fun _ _ _=>(jgn 0)) (fun _ _ _=>jj) (fun _ _ _=>(qy (qa (qb 1) (qa (qb 0) qe)))) (by kernel_rfl) (by kernel_rfl)) qe))))) (ql (qp (qb 8))))))))) read
abbrev Q9:Stmt:=top 47
abbrev V5:List Str:=["_law_dealing_here","_law_walk_here","_law_start"]
abbrev WV:List Str:=["_law_dealing_here","_law_walk_here","_law_start"]
theorem NE:FnScope V5 WV (qi Q9):=⟨rfl,rfl,rfl,by decide +kernel,rfl,by decide +kernel,by decide +kernel⟩
theorem MX {S_law_cells:Sp3} {S_law_bank:Sp3} (F:Fun K "_law_from" "_law_from" Q9 f fd) (bd:zd K fd WV []) (hm:mg "_law_from" = some (.ref f)) (qY:Fn3 P w K mg base k "_law_cells" S_law_cells) (F_law_bank:Fn3 P w K mg base k "_law_bank" S_law_bank) 
  (read:Rd sp 3 (Bk.VT S_law_cells S_law_bank) V5):Fn3 P w K mg base (k+1) "_law_from" sp:=
 qA (t3:=(Bk.VT S_law_cells S_law_bank)) F NE bd hm (fun cdv A outer s H E hr=>(ql (qp (JF ["_law_p","_law_q","_law_dealing_here","_law_start"] [none,none,some 0,some 2] rfl (UL (qg qY hr rfl (qa (qb 1) qe))) (fun _ _ _=>(zG rfl (qo (jgn 0) (qo (jgn 1) zF)))) (fun _ _ _=>jj) (fun _ _ _=>(qg F_law_bank hr rfl (qa (qb 2) (qa (qx (qs (qb 3) qd) (qb 0)) (qa (qx (qs (qb 3) qd) (qb 1)) qe))))) (by kernel_rfl) (by kernel_rfl))))) read
abbrev Q0:Stmt:=top 48
abbrev SN:List Str:=["_law_found","_law_due_here"]
abbrev W4:List Str:=["_law_found","_law_due_here"]
theorem NQ:FnScope SN W4 (qi Q0):=⟨rfl,rfl,rfl,by decide +kernel,rfl,by decide +kernel,by decide +kernel⟩
theorem J9 {S_law_same:Sp3} (F:Fun K "_law_same" "_law_same" Q0 f fd) (bd:zd K fd W4 []) (hm:mg "_law_same" = some (.ref f)) (F_law_same:Fn3 P w K mg base k "_law_same" S_law_same) (m_isinstance:mg "isinstance" = none) (m_list:mg "list" = none) (m_tuple:mg "tuple" = none) (m_zip:mg "zip" = none) (m_all:mg "all" = none) (m_len:mg "len" = none) (m_str:mg "str" = none) (m_bool:mg "bool" = none) (m_int:mg "int" = none)
  (read:Rd sp 2 (Bk.WH S_law_same) SN):Fn3 P w K mg base (k+1) "_law_same" sp:=
 qA (t3:=(Bk.WH S_law_same)) F NQ bd hm (fun cdv A outer s H E hr=>(qf (zl (XJ (qbK (qb 1) rfl m_isinstance rfl m_list PyProof.Rows.boot_list rfl m_tuple PyProof.Rows.boot_tuple)) (qf (zl (jpt (qd3 (qC (qal hr.units) T7 (VJ (qb 0) rfl m_isinstance rfl m_list PyProof.Rows.boot_list) (VJ (qb 1) rfl m_isinstance rfl m_list PyProof.Rows.boot_list) (qu _)) (qay (qC (qal hr.units) T7 (VJ (qb 0) rfl m_isinstance rfl m_tuple PyProof.Rows.boot_tuple) (VJ (qb 1) rfl m_isinstance rfl m_tuple PyProof.Rows.boot_tuple) (qu _))))) (ql (qp qcs)) qJ) (ql (qp (JP (QM (qR hr.units) qz (qI zp je rfl m_len PySem.boot_len (qa (qb 0) qe)) (qI zp je rfl m_len PySem.boot_len (qa (qb 1) qe)) (qu _)) (DQ (qI (UR rfl) qcM rfl m_all PyProof.Rows.boot_all (qa (JF ["_law_one","_law_other"] [none,none] rfl (qeU rfl m_zip (qa (qb 0) (qa (qb 1) qe))) (fun _ _ _=>(zG rfl (qo (jgn 0) (qo (jgn 1) zF)))) (fun _ _ _=>jj) (fun _ _ _=>(qg F_law_same hr rfl (qa (qb 0) (qa (qb 1) qe)))) (by kernel_rfl) (by kernel_rfl)) qe))))))) qJ) (qf (zl (jpt (qd3 (qC qbS NR (qb 1) CM (qu _)) (qay (XJ (qbK (qb 1) rfl m_isinstance rfl m_str PyProof.Rows.boot_str rfl m_bool PyProof.Rows.boot_bool))))) (ql (qp (JP (QM (qR hr.units) qz (qb 0) (qb 1) (qu _)) (JP (QM (qR hr.units) qz (VJ (qb 0) rfl m_isinstance rfl m_bool PyProof.Rows.boot_bool) (VJ (qb 1) rfl m_isinstance rfl m_bool PyProof.Rows.boot_bool) (qu _)) (DQ (QM (qR hr.units) qz (QM qbS NR (qb 0) CM (qu _)) (QM qbS NR (qb 1) CM (qu _)) (qu _))))))) qJ) (ql (qp (JP (VJ (qb 0) rfl m_isinstance rfl m_int PyProof.Rows.boot_int) (JP (qf6 (VJ (qb 0) rfl m_isinstance rfl m_bool PyProof.Rows.boot_bool)) (DQ (QM (qR hr.units) qz (qb 0) (qb 1) (qu _)))))))))) read
abbrev zC:Stmt:=top 49
abbrev zP:List Str:=["_law_left_here","_law_turn","_law_dealing_here","_law_walk_here","_law_some","_law_start","_law_wanted"]
abbrev QK:List Str:=["_law_left_here"]
theorem zg:FnScope zP QK (qi zC):=⟨rfl,rfl,rfl,by decide +kernel,rfl,by decide +kernel,by decide +kernel⟩
def jt (S_law_dealing:Sp3) (S_law_walk:Sp3) (S_law_starts:Sp3) (S_law_size:Sp3) (S_law_pick:Sp3) (S_law_from:Sp3):TS3:=(qv (RU (zA (qc (c3 (.int 12)) qh)) (gn3 1) (qv (j7 2 3 (qc (cb3 S_law_dealing (qc (v3 0) qh)) (qc (cb3 S_law_walk (qc (v3 0) qh)) qh))) (qv (qH (cb3 S_law_starts (qc (v3 2) (qc (v3 3) qh))) (gn3 4)) (qV (UH (tb3 (o3 (qZ true) (v3 4) (zV qh))) (tb3 (o3 (iB fun i j=>decide (i<=j)) (o3 ix3 (cb3 S_law_size (qc (v3 2) qh)) (c3 (.int 2))) (c3 (.int 16))))) (qv (qH (o3 ix3 (v3 4) (cb3 S_law_pick (qc (v3 0) (qc (cb3 jT (qc (v3 4) qh)) qh)))) (gn3 5)) (qv (qH (cb3 S_law_from (qc (v3 2) (qc (v3 3) (qc (v3 5) qh)))) (gn3 6)) (qV (or3 (tb3 (o3 (qZ false) (qeb (v3 6)) (cb3 jT (qc (v3 6) qh)))) (tb3 (o3 (iB fun i j=>decide (j<i)) (v3 1) (c3 (.int 8))))) (qB (qU (qc (v3 2) (qc (v3 3) (qc (v3 5) qh))))) qt))) qt)))) (qB (qU (qc (qU (qc (c3 (.str "skew")) (qc (c3 (.int 4)) (qc (c3 (.int 4)) (qc (c3 (.int 4)) (qc (c3 (.int 1)) (qc (c3 (.int 1)) qh))))))) (qc (qU (qc (c3 (.str "row")) (qc (c3 (.int 4)) qh))) (qc (qU (qc (cb3 S_law_pick (qc (v3 0) (qc (c3 (.int 4)) qh))) (qc (c3 (.int 0)) qh))) qh))))))
theorem WG {S_law_dealing:Sp3} {S_law_walk:Sp3} {S_law_starts:Sp3} {S_law_size:Sp3} {S_law_pick:Sp3} {S_law_from:Sp3} (F:Fun K "_law_clear_case" "_law_clear_case" zC f fd) (bd:zd K fd QK []) (hm:mg "_law_clear_case" = some (.ref f)) (F_law_dealing:Fn3 P w K mg base k "_law_dealing" S_law_dealing) (F_law_walk:Fn3 P w K mg base k "_law_walk" S_law_walk) (qS:Fn3 P w K mg base k "_law_starts" S_law_starts) (F_law_size:Fn3 P w K mg base k "_law_size" S_law_size) (F_law_pick:Fn3 P w K mg base k "_law_pick" S_law_pick) (zh:Fn3 P w K mg base k "_law_from" S_law_from) (m_range:mg "range" = none) (m_len:mg "len" = none) (m_set:mg "set" = none)
  (read:Rd sp 1 (jt S_law_dealing S_law_walk S_law_starts S_law_size S_law_pick S_law_from) zP):Fn3 P w K mg base (k+1) "_law_clear_case" sp:=
 qA (t3:=(jt S_law_dealing S_law_walk S_law_starts S_law_size S_law_pick S_law_from)) F zg bd hm (fun cdv A outer s H E hr=>(qf (Y9 PassesOwn.never rfl (qP rfl m_range (qa qd qe) (h1:=by intro _ _ _ h;simpa [qc,qh] using h)) (qr (i:=1) (zg.nd)) (qf (UM (i:=2) (j:=3) rfl zg.nd rfl rfl (by decide) rfl rfl (qa (qg F_law_dealing hr rfl (qa (qb 0) qe)) (qa (qg F_law_walk hr rfl (qa (qb 0) qe)) qe))) (qf (qK 4 zg.nd (qg qS hr rfl (qa (qb 2) (qa (qb 3) qe)))) (ql (zl (jpt (qjd (qC (qal hr.units) T7 (qb 4) (jp qe) (qu _)) (qir (qC qhH jz (qs (qg F_law_size hr rfl (qa (qb 2) qe)) qd) qd (qu _))))) (qf (qK 5 zg.nd (qs (qb 4) (qg F_law_pick hr rfl (qa (qb 0) (qa (qI zp je rfl m_len PySem.boot_len (qa (qb 4) qe)) qe))))) (qf (qK 6 zg.nd (qg zh hr rfl (qa (qb 2) (qa (qb 3) (qa (qb 5) qe))))) (ql (zl (jpt (qd3 (qC (qR hr.units) qz (KQ rfl rfl m_len rfl m_set (qb 6)) (qI zp je rfl m_len PySem.boot_len (qa (qb 6) qe)) (qu _)) (qay (qC qbr jz (qb 1) qd (qu _))))) (ql (qp (qy (qa (qb 2) (qa (qb 3) (qa (qb 5) qe)))))) qJ)))) qJ))))) (ql (qp (qy (qa (qy (qa qG (qa qd (qa qd (qa qd (qa qd (qa qd qe))))))) (qa (qy (qa qG (qa qd qe))) (qa (qy (qa (qg F_law_pick hr rfl (qa (qb 0) (qa qd qe))) (qa qd qe))) qe)))))))) read
abbrev Z9:Stmt:=top 50
abbrev DW:List Str:=["_law_dealing_here","_law_walk_here","_law_start","_law_wanted","_law_lanes"]
abbrev C7:List Str:=["_law_dealing_here","_law_walk_here","_law_start"]
theorem WR:FnScope DW C7 (qi Z9):=⟨rfl,rfl,rfl,by decide +kernel,rfl,by decide +kernel,by decide +kernel⟩
def DA (S_law_from:Sp3) (S_law_size:Sp3):TS3:=(qv (qH (cb3 S_law_from (qc (v3 0) (qc (v3 1) (qc (v3 2) qh)))) (gn3 3)) (qv (qV (tb3 (o3 (iB fun i j=>decide (i<j)) (qeb (v3 3)) (cb3 jT (qc (v3 3) qh)))) (qB (c3 .non)) qt) (qv (qH (o3 ix3 (lc3 (UG (qU (qc (c3 (.int 2)) (qc (c3 (.int 4)) (qc (c3 (.int 8)) (qc (c3 (.int 16)) qh)))))) (gn3 0) (tb3 (o3 (iB fun i j=>decide (j<=i)) (v3 0) (o3 ix3 (cb3 S_law_size (qc (v3 1) qh)) (c3 (.int 2))))) (v3 0) [none,some 0]) (c3 (.int 0))) (gn3 4)) (qB (cb3 qF (qc (o3 qW (v3 3) (lc3 (zA (qc (v3 4) qh)) (gn3 0) (tb3 (o3 (in3 true) (v3 0) (v3 1))) (v3 0) [none,some 3])) qh))))))
theorem qbn {S_law_from:Sp3} {S_law_size:Sp3} (F:Fun K "_law_due" "_law_due" Z9 f fd) (bd:zd K fd C7 []) (hm:mg "_law_due" = some (.ref f)) (zh:Fn3 P w K mg base k "_law_from" S_law_from) (F_law_size:Fn3 P w K mg base k "_law_size" S_law_size) (m_len:mg "len" = none) (m_set:mg "set" = none) (m_range:mg "range" = none) (m_tuple:mg "tuple" = none)
  (read:Rd sp 3 (DA S_law_from S_law_size) DW):Fn3 P w K mg base (k+1) "_law_due" sp:=
 qA (t3:=(DA S_law_from S_law_size)) F WR bd hm (fun cdv A outer s H E hr=>(qf (qK 3 WR.nd (qg zh hr rfl (qa (qb 0) (qa (qb 1) (qa (qb 2) qe))))) (qf (zl (qC TV jz (KQ rfl rfl m_len rfl m_set (qb 3)) (qI zp je rfl m_len PySem.boot_len (qa (qb 3) qe)) (qu _)) (ql (qp CM)) qJ) (qf (qK 4 WR.nd (qs (JF ["_law_many_here","_law_dealing_here"] [none,some 0] rfl (UL (qy (qa qd (qa qd (qa qd (qa qd qe)))))) (fun _ _ _=>(jgn 0)) (fun _ _ _=>LX (qC qj6 jz (qb 0) (qs (qg F_law_size hr rfl (qa (qb 1) qe)) qd) (qu _))) (fun _ _ _=>(qb 0)) (by kernel_rfl) (by kernel_rfl)) qd)) (ql (qp (zi q0 jr rfl m_tuple PyProof.Rows.boot_tuple (qa (qx (qb 3) (JF ["_law_lane","_law_wanted"] [none,some 3] rfl (qP rfl m_range (qa (qb 4) qe) (h1:=by intro _ _ _ h;simpa [qc,qh] using h)) (fun _ _ _=>(jgn 0)) (fun _ _ _=>LX (qC XR qdd (qb 0) (qb 1) (by with_unfolding_all rfl))) (fun _ _ _=>(qb 0)) (by kernel_rfl) (by kernel_rfl))) qe)))))))) read
abbrev VF:Stmt:=top 51
abbrev qbY:List Str:=["_law_script","_law_k","_law_left_here","_law_dealing_here","_law_walk_here","_law_start","_law_some","_law_at","_law_one","_law_due_here"]
abbrev qkB:List Str:=["_law_script"]
theorem UQ:FnScope qbY qkB (qi VF):=⟨rfl,rfl,rfl,by decide +kernel,rfl,by decide +kernel,by decide +kernel⟩
def qic (S_law_left:Sp3) (S_law_clear_case:Sp3) (S_law_starts:Sp3) (S_law_pick:Sp3) (S_law_due:Sp3) (S_lanes_of:Sp3) (S_law_same:Sp3):TS3:=(qv (RU (zA (qc (o3 qW (c3 (.int 1)) (cb3 VP (qc (c3 (.int 6)) (qc (cb3 jT (qc (v3 0) qh)) qh)))) qh)) (gn3 1) (qv (qH (cb3 S_law_left (qc (v3 0) (qc (v3 1) qh))) (gn3 2)) (qv (qH (cb3 S_law_clear_case (qc (v3 2) qh)) (qM 3 (qj (gn3 3) (qj (gn3 4) (qj (gn3 5) qL))))) (qv (qH (cb3 S_law_starts (qc (v3 3) (qc (v3 4) qh))) (gn3 6)) (qv (qH (cb3 S_law_pick (qc (v3 2) (qc (cb3 jT (qc (v3 6) qh)) qh))) (gn3 7)) (RU (UG (o3 qW (zV (qc (v3 5) qh)) (Z8 (o3 qW (Z8 (v3 6) (sp3 (v3 7)) np3) (Z8 (v3 6) np3 (sp3 (v3 7)))) np3 (sp3 (c3 (.int 12)))))) (gn3 8) (qv (qH (cb3 S_law_due (qc (v3 3) (qc (v3 4) (qc (v3 8) qh)))) (gn3 9)) (qV (or3 (YT (tb3 (cb3 S_law_same (qc (cb3 S_lanes_of (qc (v3 3) (qc (v3 4) (qc (v3 8) qh)))) (qc (v3 9) qh))))) (YT (tb3 (cb3 S_law_same (qc (cb3 S_lanes_of (qc (v3 3) (qc (v3 4) (qc (v3 8) qh)))) (qc (v3 9) qh)))))) (qB (c3 (.bl false))) qt)))))))) (qB (c3 (.bl true))))
theorem qmr {S_law_left:Sp3} {S_law_clear_case:Sp3} {S_law_starts:Sp3} {S_law_pick:Sp3} {S_law_due:Sp3} {S_lanes_of:Sp3} {S_law_same:Sp3} (F:Fun K "law" "law" VF f fd) (F_law_left:Fn3 P w K mg base k "_law_left" S_law_left) (F_law_clear_case:Fn3 P w K mg base k "_law_clear_case" S_law_clear_case) (qS:Fn3 P w K mg base k "_law_starts" S_law_starts) (F_law_pick:Fn3 P w K mg base k "_law_pick" S_law_pick) (jI:Fn3 P w K mg base k "_law_due" S_law_due) (zz:Fn3 P w K mg base k "lanes_of" S_lanes_of) (F_law_same:Fn3 P w K mg base k "_law_same" S_law_same) (m_len:mg "len" = none) (m_min:mg "min" = none) (m_range:mg "range" = none)
  (read:Rd sp 1 (qic S_law_left S_law_clear_case S_law_starts S_law_pick S_law_due S_lanes_of S_law_same) qbY):FnOk P w K mg base CX0 (k+1) f fd qkB (lSp K sp):=
 qem (t3:=(qic S_law_left S_law_clear_case S_law_starts S_law_pick S_law_due S_lanes_of S_law_same)) F UQ (fun cdv A outer s H E hr=>(qf (Y9 PassesOwn.never rfl (qP rfl m_range (qa (qx qd (qI (qc9 rfl) qhR rfl m_min PyProof.Rows.boot_min (qa qd (qa (qI zp je rfl m_len PySem.boot_len (qa (qb 0) qe)) qe)))) qe) (h1:=by intro _ _ _ h;simpa [qc,qh] using h)) (qr (i:=1) (UQ.nd)) (qf (qK 2 UQ.nd (qg F_law_left hr rfl (qa (qb 0) (qa (qb 1) qe)))) (qf (jy (qg F_law_clear_case hr rfl (qa (qb 2) qe)) (zG rfl (qo (qr (i:=3) (UQ.nd)) (qo (qr (i:=4) (UQ.nd)) (qo (qr (i:=5) (UQ.nd)) zF))))) (qf (qK 6 UQ.nd (qg qS hr rfl (qa (qb 3) (qa (qb 4) qe)))) (qf (qK 7 UQ.nd (qg F_law_pick hr rfl (qa (qb 2) (qa (qI zp je rfl m_len PySem.boot_len (qa (qb 6) qe)) qe)))) (ql (Y9 PassesOwn.never rfl (UL (qx (jp (qa (qb 5) qe)) (DT (qx (DT (qb 6) (U8 (qb 7)) MU) (DT (qb 6) MU (U8 (qb 7)))) MU (U8 qd)))) (qr (i:=8) (UQ.nd)) (qf (qK 9 UQ.nd (qg jI hr rfl (qa (qb 3) (qa (qb 4) (qa (qb 8) qe))))) (ql (zl (jpt (qd3 (qad (XJ (qg F_law_same hr rfl (qa (qg zz hr rfl (qa (qb 3) (qa (qb 4) (qa (qb 8) qe)))) (qa (qb 9) qe))))) (qay (qad (XJ (qg F_law_same hr rfl (qa (qg zz hr rfl (qa (qb 3) (qa (qb 4) (qa (qb 8) qe)))) (qa (qb 9) qe)))))))) (ql (qp qcs)) qJ)))))))))) (ql (qp qcs)))) read
end K61
namespace K61
open PySem L2 L3 Pu
def JR:PuS (Bk.JQ):=(C6 (KR (qnQ (fun t=>jn t "int") (bV 0)) (qi2 (qnQ (fun t=>jn t "bool") (bV 0)))))
def zq:List PyData->Option PyData:=Pu.run JR.f 1 1 1000000000 false
theorem LP:Rd (PSp zq false) 1 (Bk.JQ) YC:=jm JR YC 1 1000000000 false
theorem LU {x0:PyData}:zq [x0]=WP false (JR.f 1000000000 [.sh x0]):=id rfl
def DH:PuS (Bk.EO (PSp zq false)):=(C6 (KR (qnQ (fun t=>jn t "tuple") (bV 0)) (KR (bO (qdz false) (za qe4 (qm (bV 0) zk)) (jH 2)) (KR (za (QB zq false) (qm (bO U0 (bV 0) (jH 0)) zk)) (za (QB zq false) (qm (bO U0 (bV 0) (jH 1)) zk))))))
def zD:List PyData->Option PyData:=Pu.run DH.f 1 1 1000000000 false
theorem qbi:Rd (PSp zD false) 1 (Bk.EO (PSp zq false)) JI:=jm DH JI 1 1000000000 false
theorem qa8 {x0:PyData}:zD [x0]=WP false (DH.f 1000000000 [.sh x0]):=id rfl
def DB:PuS (Bk.ER (PSp zD false) (Bk.jh 3)):=(DY (sIf (qk6 (bTb (za (QB zD false) (qm (bV 1) zk)))) (C6 (bBl false)) CI) (DY (qbj (za (fSz 2) (qm (bV 0) zk)) (qaY 3 (jW (gN 2) (jW (gN 3) (jW (gN 4) qbp)))) [true] ⟨rfl⟩) (C6 (KR (bCh (opB fun i j=>decide (i<=j)) (opB fun i j=>decide (i<j)) (jH 0) (bO U0 (bV 1) (jH 0)) (bV 2)) (bCh (opB fun i j=>decide (i<=j)) (opB fun i j=>decide (i<j)) (jH 0) (bO U0 (bV 1) (jH 1)) (bV 3))))))
def j8:List PyData->Option PyData:=Pu.run DB.f 2 5 1000000000 false
theorem qbe:Rd (PSp j8 false) 2 (Bk.ER (PSp zD false) (Bk.jh 3)) Y4:=jm DB Y4 2 1000000000 false
theorem qbc {x0 x1:PyData}:j8 [x0,x1]=WP false (DB.f 1000000000 [.sh x0,.sh x1,.un,.un,.un]):=id rfl
def DC:PuS (Bk.EN (PSp Pv.jf true)):=(C6 (bLc (qdA (za (QB Pv.jf true) (qm (bV 0) zk))) (qaY 2 (jW (gN 0) (jW (gN 1) qbp))) bTt (MA (qm (bO MQ (bO U0 (bV 2) (jH 0)) (bV 0)) (qm (bO MQ (bO U0 (bV 2) (jH 1)) (bV 1)) zk)) ⟨rfl⟩) [none,none,some 1] ⟨rfl⟩))
def zy:List PyData->Option PyData:=Pu.run DC.f 2 2 1000000000 true
theorem qbq:Rd (PSp zy true) 2 (Bk.EN (PSp Pv.jf true)) EQ:=jm DC EQ 2 1000000000 true
theorem qba {x0 x1:PyData}:zy [x0,x1]=WP true (DC.f 1000000000 [.sh x0,.sh x1]):=id rfl
def VX:PuS (Bk.VV (PSp zy true) (PSp j8 false) (PSp zD false)):=(C6 (KR (za (QB zD false) (qm (bV 2) zk)) (za qqw (qm (bLc (qdA (za (QB zy true) (qm (bV 1) (qm (bV 2) zk)))) (gN 0) bTt (za (QB j8 false) (qm (bV 1) (qm (bV 0) zk))) [none,some 0] ⟨rfl⟩) zk))))
def jC:List PyData->Option PyData:=Pu.run VX.f 3 3 1000000000 false
theorem M6:Rd (PSp jC false) 3 (Bk.VV (PSp zy true) (PSp j8 false) (PSp zD false)) VZ:=jm VX VZ 3 1000000000 false
theorem NB {x0 x1 x2:PyData}:jC [x0,x1,x2]=WP false (VX.f 1000000000 [.sh x0,.sh x1,.sh x2]):=id rfl
def V1:PuS (Bk.UC (PSp jC false) (PSp zy true)):=(DY (sIf (qk6 (bTb (za (QB jC false) (qm (bV 0) (qm (bV 1) (qm (bV 2) zk)))))) qq0 CI) (C6 (za (QB zy true) (qm (bV 1) (qm (bV 2) zk)))))
def jA:List PyData->Option PyData:=Pu.run V1.f 3 3 1000000000 true
theorem NF:Rd (PSp jA true) 3 (Bk.UC (PSp jC false) (PSp zy true)) V7:=jm V1 V7 3 1000000000 true
theorem MH {x0 x1 x2:PyData}:jA [x0,x1,x2]=WP true (V1.f 1000000000 [.sh x0,.sh x1,.sh x2]):=id rfl
def ZT:PuS (Bk.ZR (PSp jA true) (Bk.JM 3)):=(C6 (bLc (qdA (za (QB jA true) (qm (bV 0) (qm (bV 1) (qm (bV 2) zk))))) (gN 0) bTt (za (fBi 2) (qm (bV 1) (qm (bV 0) zk))) [none,some 0] ⟨rfl⟩))
def zK:List PyData->Option PyData:=Pu.run ZT.f 3 3 1000000000 true
theorem S7:Rd (PSp zK true) 3 (Bk.ZR (PSp jA true) (Bk.JM 3)) j6:=jm ZT j6 3 1000000000 true
theorem S6 {x0 x1 x2:PyData}:zK [x0,x1,x2]=WP true (ZT.f 1000000000 [.sh x0,.sh x1,.sh x2]):=id rfl
def J5:PuS (K61.YL):=(DY (qdy (jH 2) 1 [] ⟨rfl⟩) (DY (sWh (bTb (bO (opB fun i j=>decide (i<j)) (bV 1) (bV 0))) (qdy (bO (opC ZF (·*·)) (bV 1) (jH 2)) 1 [false,true] ⟨rfl⟩)) (qdY 1)))
def ja:List PyData->Option PyData:=Pu.run J5.f 1 2 1000000000 false
theorem LA:Rd (PSp ja false) 1 (K61.YL) QZ:=jm J5 QZ 1 1000000000 false
theorem LZ {x0:PyData}:ja [x0]=WP false (J5.f 1000000000 [.sh x0,.un]):=id rfl
def JJ:PuS (K61.V6 (PSp zK true) (PSp Pv.ze false) (Bk.jh 3) (PSp ja false)):=(DY (qdy (za (QB zK true) (qm (bV 0) (qm (bV 1) (qm (bV 2) zk)))) 3 [true,true,true] ⟨rfl⟩) (DY (sIf (bTb (bO (qnt true) (za (QB Pv.ze false) (qm (bV 3) zk)) qiZ)) (C6 qiZ) CI) (DY (qbj (za (fSz 2) (qm (bV 0) zk)) (qaY 3 (jW (gN 4) (jW (gN 5) (jW (gN 6) qbp)))) [true] ⟨rfl⟩) (C6 (za qn5 (qm (bO qaD (bV 3) (bLc (M3 (qm (za (QB ja false) (qm (bV 6) zk)) zk)) (gN 0) (bTb (bO (qoD true) (bV 0) (bV 1))) (bV 0) [none,some 3] ⟨rfl⟩)) zk))))))
def zz:List PyData->Option PyData:=Pu.run JJ.f 3 7 1000000000 false
theorem MO:Rd (PSp zz false) 3 (K61.V6 (PSp zK true) (PSp Pv.ze false) (Bk.jh 3) (PSp ja false)) V8:=jm JJ V8 3 1000000000 false
theorem NM {x0 x1 x2:PyData}:zz [x0,x1,x2]=WP false (JJ.f 1000000000 [.sh x0,.sh x1,.sh x2,.un,.un,.un,.un]):=id rfl
def jb:PuS (Bk.YF):=(DY (sIf (bTb (bO (qdz false) (bO U0 (bV 0) (jH 0)) (qfl "cells"))) (C6 (za qn1 (qm (bO U0 (bV 0) (jH 1)) zk))) CI) (DY (sIf (bTb (bO (qdz false) (bO U0 (bV 0) (jH 0)) (qfl "block"))) (DY (qdy (qiV zk ⟨rfl⟩) 1 [] ⟨rfl⟩) (DY (qmo (M3 (qm (bO U0 (bV 0) (jH 1)) zk)) (gN 2) (qpE (bLc (M3 (qm (bO U0 (bV 0) (jH 2)) zk)) (gN 0) bTt (MA (qm (bV 1) (qm (bV 0) zk)) ⟨rfl⟩) [none,some 2] ⟨rfl⟩) 1 [true,false,true] ⟨rfl⟩) [true] ⟨rfl⟩) (qdY 1))) CI) (DY (qbj (qk5 ["row","column","slant","back","step"] (qm (MA (qm (jH 0) (qm (jH 1) zk)) ⟨rfl⟩) (qm (MA (qm (jH 1) (qm (jH 0) zk)) ⟨rfl⟩) (qm (MA (qm (jH 1) (qm (jH 1) zk)) ⟨rfl⟩) (qm (MA (qm (jH 1) (qm (qlT (jH 1)) zk)) ⟨rfl⟩) (qm (bSl (bV 0) (bSp (jH 1)) (bSp (jH 3))) zk))))) (bO U0 (bV 0) (jH 0))) (qaY 2 (jW (gN 3) (jW (gN 4) qbp))) [true] ⟨rfl⟩) (C6 (bLc (M3 (qm (bO U0 (bV 0) (qlT (jH 1))) zk)) (gN 0) bTt (MA (qm (bO (opC ZF (·*·)) (bV 0) (bV 1)) (qm (bO (opC ZF (·*·)) (bV 0) (bV 2)) zk)) ⟨rfl⟩) [none,some 3,some 4] ⟨rfl⟩)))))
def qY:List PyData->Option PyData:=Pu.run jb.f 1 5 1000000000 true
theorem LG:Rd (PSp qY true) 1 (Bk.YF) JV:=jm jb JV 1 1000000000 true
theorem K7 {x0:PyData}:qY [x0]=WP true (jb.f 1000000000 [.sh x0,.un,.un,.un,.un]):=id rfl
def ZU:PuS (Bk.ZS (Bk.zt 3) (PSp qY true)):=(DY (qbj (za (qn8 2) (qm (bV 0) zk)) (qaY 3 (jW (gN 2) (jW (gN 3) (jW (gN 4) qbp)))) [true] ⟨rfl⟩) (DY (qdy (za (QB qY true) (qm (bV 1) zk)) 5 [false,true] ⟨rfl⟩) (DY (qqk (qm (bLc (qdA (bV 5)) (qaY 2 (jW (gN 0) (jW (gN 1) qbp))) bTt (bV 0) [none,none] ⟨rfl⟩) (qm (bLc (qdA (bV 5)) (qaY 2 (jW (gN 0) (jW (gN 1) qbp))) bTt (bV 1) [none,none] ⟨rfl⟩) zk)) 6 7 [false,false,false,false,false,true] ⟨rfl⟩) (DY (qdy (qiV zk ⟨rfl⟩) 8 [] ⟨rfl⟩) (DY (qmo (M3 (qm (qlT (za qhT (qm (bV 6) zk))) (qm (bO (opI (·-·)) (bV 2) (za qhX (qm (bV 6) zk))) zk))) (gN 9) (qpE (bLc (M3 (qm (qlT (za qhT (qm (bV 7) zk))) (qm (bO (opI (·-·)) (bV 3) (za qhX (qm (bV 7) zk))) zk))) (gN 0) bTt (MA (qm (bV 1) (qm (bV 0) zk)) ⟨rfl⟩) [none,some 9] ⟨rfl⟩) 8 [false,false,false,true,false,false,false,true,false,true] ⟨rfl⟩) [false,false,true,false,false,false,true] ⟨rfl⟩) (qdY 8))))))
def qS:List PyData->Option PyData:=Pu.run ZU.f 2 10 1000000000 true
theorem T2:Rd (PSp qS true) 2 (Bk.ZS (Bk.zt 3) (PSp qY true)) ZW:=jm ZU ZW 2 1000000000 true
theorem KG {x0 x1:PyData}:qS [x0,x1]=WP true (ZU.f 1000000000 [.sh x0,.sh x1,.un,.un,.un,.un,.un,.un,.un,.un]):=id rfl
def V0:PuS (Bk.VT (PSp qY true) (Bk.Q4 3)):=(C6 (bLc (qdA (za (QB qY true) (qm (bV 1) zk))) (qaY 2 (jW (gN 0) (jW (gN 1) qbp))) bTt (za (qql 2) (qm (bV 2) (qm (bO MQ (bO U0 (bV 3) (jH 0)) (bV 0)) (qm (bO MQ (bO U0 (bV 3) (jH 1)) (bV 1)) zk)))) [none,none,some 0,some 2] ⟨rfl⟩))
def zh:List PyData->Option PyData:=Pu.run V0.f 3 3 1000000000 true
theorem M4:Rd (PSp zh true) 3 (Bk.VT (PSp qY true) (Bk.Q4 3)) V5:=jm V0 V5 3 1000000000 true
theorem MF {x0 x1 x2:PyData}:zh [x0,x1,x2]=WP true (V0.f 1000000000 [.sh x0,.sh x1,.sh x2]):=id rfl
def jw:=((qcS (qp4 (M9 (eDr qaJ (aOf zk)) (M9 (eDr qnM (aOf zk)) (aOf zk))) 2 3 [] ⟨rfl⟩ ⟨rfl⟩) (qcS (qiB (eOf (za (QB qS true) (qm (bV 2) (qm (bV 3) zk)))) 4 [false,false,true,true] ⟨rfl⟩ ⟨rfl⟩) (wIf (cOf (qqa (bTb (bO (qdz true) (bV 4) (qiV zk ⟨rfl⟩))) (bTb (bO (opB fun i j=>decide (i<=j)) (bO U0 (za (qn8 2) (qm (bV 2) zk)) (jH 2)) (jH 16))))) (qcS (qiB (eO U0 (eOf (bV 4)) (eDr qcm (aOf (qm (za qe4 (qm (bV 4) zk)) zk)))) 5 [false,false,false,false,true] ⟨rfl⟩ ⟨rfl⟩) (qcS (qiB (eOf (za (QB zh true) (qm (bV 2) (qm (bV 3) (qm (bV 5) zk))))) 6 [false,false,true,true,false,true] ⟨rfl⟩ ⟨rfl⟩) (wIf (cOf (bOr (bTb (bO (qdz false) (qht (bV 6)) (za qe4 (qm (bV 6) zk)))) (bTb (bO (opB fun i j=>decide (j<i)) (bV 1) (jH 8))))) (qnP (eOf (MA (qm (bV 2) (qm (bV 3) (qm (bV 5) zk))) ⟨rfl⟩))) qdZ))) qdZ))):PwS 0 _)
def jv:PwS 0 (K61.jt Bk.jZ Bk.J0 (PSp qS true) (Bk.zt 3) Bk.qE (PSp zh true)):=(qcS (qps (iOf (M3 (qm (jH 12) zk))) (gN 1) jw [] ⟨rfl⟩ ⟨rfl⟩) (qnP (qn4 (M9 (eOf (MA (qm (qfl "skew") (qm (jH 4) (qm (jH 4) (qm (jH 4) (qm (jH 1) (qm (jH 1) zk)))))) ⟨rfl⟩)) (M9 (eOf (MA (qm (qfl "row") (qm (jH 4) zk)) ⟨rfl⟩)) (M9 (qn4 (M9 (eDr qcm (aOf (qm (jH 4) zk))) (aOf (qm (jH 0) zk))) ⟨rfl⟩) (aOf zk)))) ⟨rfl⟩)))
def zn:Wm:=qp2 jv 1 7 false
theorem WO:Rd (DSp zn.W false) 1 (K61.jt Bk.jZ Bk.J0 (PSp qS true) (Bk.zt 3) Bk.qE (PSp zh true)) zP:=qhm jv zP 1 false
theorem XA {n:Nat} {Q:QD}:zn.W [] n Q=(0+1=1/\jv.w [.un,.un,.un,.un,.un,.un,.un] n (qop false Q)):=id rfl
def YZ:PuS (K61.DA (PSp zh true) (Bk.zt 3)):=(DY (qdy (za (QB zh true) (qm (bV 0) (qm (bV 1) (qm (bV 2) zk)))) 3 [true,true,true] ⟨rfl⟩) (DY (sIf (bTb (bO (opB fun i j=>decide (i<j)) (qht (bV 3)) (za qe4 (qm (bV 3) zk)))) (C6 qiZ) CI) (DY (qdy (bO U0 (bLc (qdA (MA (qm (jH 2) (qm (jH 4) (qm (jH 8) (qm (jH 16) zk)))) ⟨rfl⟩)) (gN 0) (bTb (bO (opB fun i j=>decide (j<=i)) (bV 0) (bO U0 (za (qn8 2) (qm (bV 1) zk)) (jH 2)))) (bV 0) [none,some 0] ⟨rfl⟩) (jH 0)) 4 [true] ⟨rfl⟩) (C6 (za qn5 (qm (bO qaD (bV 3) (bLc (M3 (qm (bV 4) zk)) (gN 0) (bTb (bO (qoD true) (bV 0) (bV 1))) (bV 0) [none,some 3] ⟨rfl⟩)) zk))))))
def jI:List PyData->Option PyData:=Pu.run YZ.f 3 5 1000000000 false
theorem qbd:Rd (PSp jI false) 3 (K61.DA (PSp zh true) (Bk.zt 3)) DW:=jm YZ DW 3 1000000000 false
theorem qa1 {x0 x1 x2:PyData}:jI [x0,x1,x2]=WP false (YZ.f 1000000000 [.sh x0,.sh x1,.sh x2,.un,.un]):=id rfl
def qpD (S_law_clear_case:Sp3) (S_law_starts:Sp3) (S_law_pick:Sp3) (S_law_due:Sp3) (S_lanes_of:Sp3) (S_law_same:Sp3):TS3:=(qv (qH (cb3 S_law_clear_case (qc (v3 2) qh)) (qM 3 (qj (gn3 3) (qj (gn3 4) (qj (gn3 5) qL))))) (qv (qH (cb3 S_law_starts (qc (v3 3) (qc (v3 4) qh))) (gn3 6)) (qv (qH (cb3 S_law_pick (qc (v3 2) (qc (cb3 jT (qc (v3 6) qh)) qh))) (gn3 7)) (RU (UG (o3 qW (zV (qc (v3 5) qh)) (Z8 (o3 qW (Z8 (v3 6) (sp3 (v3 7)) np3) (Z8 (v3 6) np3 (sp3 (v3 7)))) np3 (sp3 (c3 (.int 12)))))) (gn3 8) (qv (qH (cb3 S_law_due (qc (v3 3) (qc (v3 4) (qc (v3 8) qh)))) (gn3 9)) (qV (or3 (YT (tb3 (cb3 S_law_same (qc (cb3 S_lanes_of (qc (v3 3) (qc (v3 4) (qc (v3 8) qh)))) (qc (v3 9) qh))))) (YT (tb3 (cb3 S_law_same (qc (cb3 S_lanes_of (qc (v3 3) (qc (v3 4) (qc (v3 8) qh)))) (qc (v3 9) qh)))))) (qB (c3 (.bl false))) qt))))))
def T8:=((qcS (qiB (eOf (za (QB jI false) (qm (bV 3) (qm (bV 4) (qm (bV 8) zk))))) 9 [false,false,false,true,true,false,false,false,true] ⟨rfl⟩ ⟨rfl⟩) (wIf (cOf (bOr (qk6 (bTb (za (qhi 3) (qm (za (QB zz false) (qm (bV 3) (qm (bV 4) (qm (bV 8) zk)))) (qm (bV 9) zk))))) (qk6 (bTb (za (qhi 3) (qm (za (QB zz false) (qm (bV 3) (qm (bV 4) (qm (bV 8) zk)))) (qm (bV 9) zk))))))) (qnP (eOf (bBl false))) qdZ)):PwS 2 _)
def qeg:PwS 2 (qpD (DSp zn.W false) (PSp qS true) Bk.qE (PSp jI false) (PSp zz false) (Bk.jV 4)):=(qcS (qmt (eDr (dSp zn false) (aOf zk)) (qaY 3 (jW (gN 3) (jW (gN 4) (jW (gN 5) qbp)))) [] ⟨rfl⟩ ⟨rfl⟩) (qcS (qiB (eOf (za (QB qS true) (qm (bV 3) (qm (bV 4) zk)))) 6 [false,false,false,true,true] ⟨rfl⟩ ⟨rfl⟩) (qcS (qiB (eDr qcm (aOf (qm (za qe4 (qm (bV 6) zk)) zk))) 7 [false,false,false,false,false,false,true] ⟨rfl⟩ ⟨rfl⟩) (qps (iOf (qdA (bO qaD (qiV (qm (bV 5) zk) ⟨rfl⟩) (bSl (bO MQ (bSl (bV 6) (bSp (bV 7)) bNp) (bSl (bV 6) bNp (bSp (bV 7)))) bNp (bSp (jH 12)))))) (gN 8) T8 [false,false,false,false,false,true,true,true] ⟨rfl⟩ ⟨rfl⟩))))
theorem qmu (h:∀ k:Nat,k<=60->qeg.w [.un,.sh (.int k),.un,.un,.un,.un,.un,.un,.un,.un] 0 okW):Rd SL 1 (K61.qic Bk.J1 (DSp zn.W false) (PSp qS true) Bk.qE (PSp jI false) (PSp zz false) (Bk.jV 4)) qbY:=qez qeg qbY 6 7 ⟨by decide,by decide⟩ rfl h
end K61
namespace K61
open PySem L2 L3 Pu Pv
open Bk (Wk Dl Dr jE ji)
theorem s1:jn "int" "int" = true:=rfl
theorem s2:jn "int" "bool" = false:=rfl
theorem s3:jn "tuple" "tuple" = true:=rfl
theorem t2:((1+1:Nat):Int)=2:=rfl
theorem qof {i:Int}:zq [.int i]=some (.bool true):=by
 rw [LU]
 try simp only [Pu.pwA,JR,s1,s2]
theorem qnr {p:Int×Int}:zD [pD p]=some (.bool true):=by
 rw [qa8]
 try simp only [Pu.pwA,DH,pD,s3,t2,qof]
def inT (d:Dl) (p:Int×Int):Prop:=Bk.Inn d p.1 p.2
theorem qpm {d:Dl} {p:Int×Int} (hp:d.dep<=2) (ok:d.Ok) (h:inT d p):j8 [dlD d,pD p]=some (.bool true):=by
 have sz:=qck (n:=2) hp ok
 obtain ⟨h1,h2,h3,h4⟩:=h
 have e:=qnr (p:=p)
 rw [qbc]
 simp only [pD] at e
 try simp only [Pu.pwA,DB,pD,e,qjW,sz,siz,h1,h2,h3,h4]
def bk (d:Dl) (p:Int×Int):Int:=d.bank p.1 p.2
def sh (s:Int×Int) (cs:List (Int×Int)):List (Int×Int):=cs.map fun p=>(s.1+p.1,s.2+p.2)
theorem qpZ {w:Wk} {s:Int×Int} (ok:Big w):zy [Wk.d w,pD s]=some (.list ((sh s w.pc).map pD)):=by
 have hl:=SM ok
 rw [qba]
 try simp only [Pu.pwA,DC,SE ok]
 rw [ZY (ds:=w.pc.map pD) (fs:=(sh s w.pc).map pD)]
 ·try simp only [Pu.pwA]
 ·try simp only [Pu.pwA,SE ok]
 ·rw [sh,map_map]
  refine QL fun p hp=>?_
  try simp only [Pu.pwA,YU,pD,Function.comp_def]
 ·simp [sh];omega
theorem qpp {d:Dl} {w:Wk} {s:Int×Int} (hp:d.dep<=2) (okd:d.Ok) (ok:Big w) (h:∀ q∈sh s w.pc,inT d q):jC [dlD d,Wk.d w,pD s]=some (.bool true):=by
 have hl:=SM ok
 rw [NB]
 try simp only [Pu.pwA,VX,qnr]
 rw [ZY (ds:=(sh s w.pc).map pD) (fs:=((sh s w.pc).map fun _=>true).map PyData.bool)]
 ·try simp only [Pu.pwA,qce]
  simp
 ·try simp only [Pu.pwA,qpZ ok]
 ·rw [map_map]
  refine QL fun q hq=>?_
  try simp only [Pu.pwA,YU,qpm hp okd (h q hq),Function.comp_def]
 ·simp [sh];omega
theorem qqW {d:Dl} {w:Wk} {s:Int×Int} (hp:d.dep<=2) (okd:d.Ok) (ok:Big w) (h:∀ q∈sh s w.pc,inT d q):jA [dlD d,Wk.d w,pD s]=some (.list ((sh s w.pc).map pD)):=by
 rw [MH]
 try simp only [Pu.pwA,V1,qpp hp okd ok h,qpZ ok]
def bks (d:Dl) (s:Int×Int) (cs:List (Int×Int)):List Int:=(sh s cs).map (bk d)
theorem qqV {d:Dl} {w:Wk} {s:Int×Int} (hp:d.dep<=2) (okd:d.Ok) (ok:Big w) (h:∀ q∈sh s w.pc,inT d q):zK [dlD d,Wk.d w,pD s]=some (.list ((bks d s w.pc).map PyData.int)):=by
 have hl:=SM ok
 rw [S6]
 try simp only [Pu.pwA,ZT]
 rw [ZY (ds:=(sh s w.pc).map pD) (fs:=(bks d s w.pc).map PyData.int)]
 ·try simp only [Pu.pwA]
 ·try simp only [Pu.pwA,qqW hp okd ok h]
 ·rw [bks,map_map]
  refine QL fun q hq=>?_
  try simp only [Pu.pwA,YU,qoM,pD,qpO (n:=2) hp okd (h q hq),bk,Function.comp_def]
 ·simp [bks,sh];omega
end K61
namespace K61
open PySem L2 L3 Pu Pv
open Bk (Wk Dl Dr jE ji JG lnD lnA faO Fst Un2 jN jR VD)
theorem qcw {i:Nat} {es ds:List PyData} {ρ:Rho} (h:slot ρ i=some ds) (hl:ds.length+es.length<=16777216):qkj i (.list es) ρ=some (.nx (ρ.set i (.ow (ds++es)))):=by unfold qkj;rw [h];simp only [Option.bind_some];exact jd hl
theorem qhU {s:Str} {m:Int}:slD (.tuple [.str s,.int m]) (some 1) (some 3)=some (.tuple [.int m]):=MK (by simp [HT.sIx])
theorem qh2 {s:Str} {u v m:Int}:slD (.tuple [.str s,.int u,.int v,.int m]) (some 1) (some 3)=some (.tuple [.int u,.int v]):=MK (by simp [HT.sIx])
theorem qpU {x y:PyData}:L2.atI [x,y] (-1)=some y:=rfl
theorem qov {x y z w:PyData}:L2.atI [x,y,z,w] (-1)=some w:=rfl
theorem qqg {w:Wk} (ok:Big w):qY [Wk.d w]=some (.list (w.pc.map pD)):=by
 rw [K7]
 cases w with
 |cells ps=>
  try simp only [Pu.pwA,jb,Wk.d,eq_self,Wk.pc]
 |block h v=>
  obtain ⟨h1,h2⟩:=ok
  try simp (disch:=omega) only [Pu.pwA,jb,Wk.d,eq_self,L3.UP,Wk.pc,qcH,Int.toNat_natCast]
  rw [Option.bind_assoc]
  refine MG (Q:=fun o=>WP true o=_) (ZN 0 h) (fun i ρ=>∃ s2 s3 s4,ρ=[.sh (Wk.d (.block h v)),.ow ((ji i v).map pD),s2,s3,s4]) ⟨_,_,_,rfl⟩ ?_ ?_
  ·rintro i x ρ hx ⟨s2,s3,s4,rfl⟩
   obtain ⟨hi,rfl⟩:=VS hx
   try simp only [Pu.pwA,Wk.d]
   rw [ZY (ds:=(ZN 0 v).map PyData.int) (fs:=((List.range v).map fun (q:Nat)=>((i:Int),(q:Int))).map pD)]
   rotate_left
   ·try simp (disch:=omega) only [Pu.pwA,qcH,Int.toNat_natCast]
   ·unfold ZN
    rw [map_map,map_map]
    refine QL fun q hq=>?_
    try simp only [Pu.pwA,YU,pD,Int.zero_add,Function.comp_def]
   ·simp;omega
   try simp only [Pu.pwA]
   rw [qcw (ds:=(ji i v).map pD) rfl (by
    have:=Nat.mul_le_mul (show i<=1000 by omega) h2
    rw [length_map,Bk.EV,length_map,length_map,length_range];omega)]
   try simp only [Pu.pwA]
   rw [Bk.SS,List.map_append]
   exact ⟨_,_,_,rfl⟩
  ·rintro ρ ⟨s2,s3,s4,rfl⟩
   rw [JZ]
   try simp only [Pu.pwA]
 |step d a m=>
  obtain ⟨h1,h2,h3⟩:=ok
  have e5:qet ["row","column","slant","back","step"] [.tuple [.int 0,.int 1],.tuple [.int 1,.int 0],.tuple [.int 1,.int 1],.tuple [.int 1,.int (-1)],.tuple [.int d,.int a]] "step" = some (.tuple [.int d,.int a]):=rfl
  try simp only [Pu.pwA,jb,Wk.d,L3.EJ,L3.DL,Wk.pc,qh2,e5]
  rw [ZY (ds:=(ZN 0 m).map PyData.int) (fs:=(jE d a m).map pD)]
  ·try simp only [Pu.pwA]
  ·try simp (disch:=omega) only [Pu.pwA,qov,qcH,Int.toNat_natCast]
  ·unfold jE ZN
   rw [map_map,map_map]
   refine QL fun t ht=>?_
   have:=mem_range.mp ht
   try simp (disch:=omega) only [Pu.pwA,YU,pD,ML,Int.zero_add,Function.comp_def]
  ·simp [jE];omega
 |line k m=>
  obtain ⟨h1,h2⟩:=ok
  have key:∀ (d a:Int),(-1000<=d/\d<=1000)->(-1000<=a/\a<=1000)->∀ s:Str,Str.ofString "cells" ≠ s->Str.ofString "block" ≠ s->qet ["row","column","slant","back","step"] [.tuple [.int 0,.int 1],.tuple [.int 1,.int 0],.tuple [.int 1,.int 1],.tuple [.int 1,.int (-1)],.tuple [.int (m:Int)]] s=some (.tuple [.int d,.int a])->WP true (jb.f 1000000000 [.sh (.tuple [.str s,.int (m:Int)]),.un,.un,.un,.un])=some (.list ((jE d a m).map pD)):=by
   intro d a hd ha s n1 n2 e5
   have n1':¬ s=Str.ofString "cells" := fun z=>n1 z.symm
   have n2':¬ s=Str.ofString "block" := fun z=>n2 z.symm
   try simp only [Pu.pwA,jb,n1',n2',qhU,e5]
   rw [ZY (ds:=(ZN 0 m).map PyData.int) (fs:=(jE d a m).map pD)]
   ·try simp only [Pu.pwA]
   ·try simp (disch:=omega) only [Pu.pwA,qpU,qcH,Int.toNat_natCast]
   ·unfold jE ZN
    rw [map_map,map_map]
    refine QL fun t ht=>?_
    have:=mem_range.mp ht
    try simp (disch:=omega) only [Pu.pwA,YU,pD,ML,Int.zero_add,Function.comp_def]
   ·simp [jE];omega
  have:(k=0\/k=1\/k=2\/k=3):=by omega
  rcases this with rfl|rfl|rfl|rfl
  ·exact key 0 1 (by omega) (by omega) "row" (by decide) (by decide) rfl
  ·exact key 1 0 (by omega) (by omega) "column" (by decide) (by decide) rfl
  ·exact key 1 1 (by omega) (by omega) "slant" (by decide) (by decide) rfl
  ·exact key 1 (-1) (by omega) (by omega) "back" (by decide) (by decide) rfl
theorem qlU {i j:Nat} {m:List Bool} {x y:List PyData} {ρ:Rho}:qfM i j m [.list x,.list y] ρ=some (.nx (((dm m ρ).set i (.sh (.list x))).set j (.sh (.list y)))):=id rfl
theorem qmB {d:Dl} {w:Wk} (hp:d.dep<=2) (okd:d.Ok) (ok:Big w) (hc:Cb w.pc):qS [dlD d,Wk.d w]=some (.list ((stI d.R d.C w.pc).map pD)):=by
 have hl:=SM ok
 have l:=Dl.lims okd
 have:=l.r1;have:=l.r2;have:=l.c1;have:=l.c2
 obtain ⟨⟨h1,h2,h3⟩,⟨h4,h5,h6⟩⟩:=hc.lim
 rw [KG]
 try simp only [Pu.pwA,ZU,KZ,qck (n:=2) hp okd,siz,qqg ok]
 rw [ZY (ds:=w.pc.map pD) (fs:=(dn w.pc).map PyData.int) rfl (by
  rw [dn,map_map]
  refine QL fun p hp=>?_
  try simp only [Pu.pwA,YU,pD,Function.comp_def]) (by simp [dn];omega)]
 try simp only [Pu.pwA]
 rw [ZY (ds:=w.pc.map pD) (fs:=(al w.pc).map PyData.int) rfl (by
  rw [al,map_map]
  refine QL fun p hp=>?_
  try simp only [Pu.pwA,YU,pD,Function.comp_def]) (by simp [al];omega)]
 try simp only [Pu.pwA]
 have n1:dn w.pc≠[]:=by simp [dn,hc.ne]
 have n2:al w.pc≠[]:=by simp [al,hc.ne]
 try simp (disch:=omega) only [Pu.pwA,qlU,qje n1,qlk n1,qlc]
 have row:∀ i:Int,(ZN (-(mn (al w.pc))) (d.C-mx (al w.pc) - -(mn (al w.pc))).toNat).length<=4096:=fun i=>by rw [JZ];omega
 have rows:(ZN (-(mn (dn w.pc))) (d.R-mx (dn w.pc) - -(mn (dn w.pc))).toNat).length<=4096:=by rw [JZ];omega
 have fl:∀ i,(((ZN (-(mn (dn w.pc))) (d.R-mx (dn w.pc) - -(mn (dn w.pc))).toNat).take i).flatMap fun i=>(ZN (-(mn (al w.pc))) (d.C-mx (al w.pc) - -(mn (al w.pc))).toNat).map fun j=>(i,j)).length<=i*4096:=fun i=>by
  rw [qaj]
  exact Nat.mul_le_mul (by rw [List.length_take];omega) (row 0)
 refine MG (Q:=fun o=>WP true o=_) (ZN (-(mn (dn w.pc))) (d.R-mx (dn w.pc) - -(mn (dn w.pc))).toNat) (fun i ρ=>∃ s9,ρ=[.sh (dlD d),.sh (Wk.d w),.sh (.int d.R),.sh (.int d.C),.sh (.int d.B),.sh (.list (w.pc.map pD)),.sh (.list ((dn w.pc).map PyData.int)),.sh (.list ((al w.pc).map PyData.int)),.ow ((((ZN (-(mn (dn w.pc))) (d.R-mx (dn w.pc) - -(mn (dn w.pc))).toNat).take i).flatMap fun i=>(ZN (-(mn (al w.pc))) (d.C-mx (al w.pc) - -(mn (al w.pc))).toNat).map fun j=>(i,j)).map pD),s9]) ⟨_,rfl⟩ ?_ ?_
 ·rintro i x ρ hx ⟨s9,rfl⟩
  have hi:=(List.getElem?_eq_some_iff.mp hx).1
  try simp only [Pu.pwA]
  rw [ZY (ds:=(ZN (-(mn (al w.pc))) (d.C-mx (al w.pc) - -(mn (al w.pc))).toNat).map PyData.int) (fs:=((ZN (-(mn (al w.pc))) (d.C-mx (al w.pc) - -(mn (al w.pc))).toNat).map fun j=>(x,j)).map pD)]
  rotate_left
  ·try simp (disch:=omega) only [Pu.pwA,qje n2,qlk n2,qlc]
  ·rw [map_map]
   refine QL fun q hq=>?_
   try simp only [Pu.pwA,YU,pD,Function.comp_def]
  ·rw [length_map,length_map];have:=row 0;omega
  try simp only [Pu.pwA]
  rw [qcw rfl (by
   rw [length_map,length_map,length_map]
   have a:=fl i;have b:=row 0
   have:=Nat.mul_le_mul (show i<=4095 by omega) (Nat.le_refl 4096)
   omega)]
  try simp only [Pu.pwA]
  rw [List.take_add_one,hx,Option.toList_some,List.flatMap_append,List.map_append]
  exact ⟨.sh (.int x),by simp⟩
 ·rintro ρ ⟨s9,rfl⟩
  rw [List.take_length]
  try simp only [Pu.pwA]
  rfl
theorem qob {R C:Int} {cs:List (Int×Int)} {s:Int×Int} (h:s∈stI R C cs) {p:Int×Int} (hp:p∈cs):(0<=s.1+p.1/\s.1+p.1<R)/\(0<=s.2+p.2/\s.2+p.2<C):=by
 obtain ⟨i,hi,h⟩:=List.mem_flatMap.mp h
 obtain ⟨j,hj,rfl⟩:=mem_map.mp h
 have a:=qaK hi
 have b:=qaK hj
 have m1:=qaX (show p.1∈dn cs from mem_map.mpr ⟨p,hp,rfl⟩)
 have m2:=qd8 (show p.1∈dn cs from mem_map.mpr ⟨p,hp,rfl⟩)
 have m3:=qaX (show p.2∈al cs from mem_map.mpr ⟨p,hp,rfl⟩)
 have m4:=qd8 (show p.2∈al cs from mem_map.mpr ⟨p,hp,rfl⟩)
 simp only
 omega
theorem qix {d:Dl} {cs:List (Int×Int)} {s:Int×Int} (h:s∈stI d.R d.C cs):∀ q∈sh s cs,inT d q:=fun q hq=>by
 obtain ⟨p,hp,rfl⟩:=mem_map.mp hq
 obtain ⟨⟨h1,h2⟩,h3,h4⟩:=qob h hp
 exact ⟨h1,h2,h3,h4⟩
theorem TK {neg:Bool} {n:Int} {ms:List Int}:inD neg (.int n) (.list (ms.map PyData.int))=some (.bool (if neg then !(ms.any (·==n)) else ms.any (·==n))):=by
 refine (jd ⟨rfl,by simp [MP]⟩).trans ?_
 rw [List.any_map]
 rfl
theorem TY {t:Nat} {u:Int} (h:t<=16) (hu:-16<=u/\u<=16):-256<=(t:Int)*u/\(t:Int)*u<=256:=by
 have a:(t:Int)*u<=(t:Int)*16:=Int.mul_le_mul_of_nonneg_left hu.2 (Int.natCast_nonneg _)
 have b:(t:Int)*(-16)<=(t:Int)*u:=Int.mul_le_mul_of_nonneg_left hu.1 (Int.natCast_nonneg _)
 omega
theorem qkQ {w:Wk} (ok:w.Ok):Cb w.pc:=by
 have h:=Bk.N5 ok
 refine ⟨fun e=>by rw [e] at h;simp at h,fun p hp=>?_⟩
 cases w with
 |cells ps=>have:=ok.2.2.2 p hp;omega
 |block h v=>
  obtain ⟨i,hi,hq⟩:=List.mem_flatMap.mp hp
  obtain ⟨j,hj,rfl⟩:=mem_map.mp hq
  have:=mem_range.mp hi
  have:=mem_range.mp hj
  obtain ⟨_,_,h3,h4,_⟩:=ok
  simp only;omega
 |step u v m=>
  obtain ⟨t,ht,rfl⟩:=mem_map.mp hp
  have:=mem_range.mp ht
  obtain ⟨h1,h2,h3,h4⟩:=ok
  have b1:=TY (t:=t) (u:=u) (by omega) h1
  have b2:=TY (t:=t) (u:=v) (by omega) h2
  simp only;omega
 |line k m=>
  obtain ⟨t,ht,rfl⟩:=mem_map.mp hp
  have:=mem_range.mp ht
  obtain ⟨h1,h2,h3⟩:=ok
  have b0:(-16<=Bk.lnD k/\Bk.lnD k<=16)/\(-16<=Bk.lnA k/\Bk.lnA k<=16):=by
   match k,h1 with
   |0,_=>decide
   |1,_=>decide
   |2,_=>decide
   |3,_=>decide
  have b1:=TY (t:=t) (u:=Bk.lnD k) (by omega) b0.1
  have b2:=TY (t:=t) (u:=Bk.lnA k) (by omega) b0.2
  simp only;omega
theorem NJ {n:Bool} {ps:List (Int×Int)}:eqD n (.list (ps.map pD)) (.list [])=some (.bool (if n then !decide (ps=[]) else decide (ps=[]))):=by
 have dp:∀ ps:List (Int×Int),qec (ps.map pD)<=1:=fun ps=>by
  induction ps with
  |nil=>simp [qec]
  |cons p ps ih=>simp only [map_cons,qec,pD,dpt];omega
 have h:qdN (.list (ps.map pD)) (.list [])=none:=rfl
 unfold eqD
 rw [h]
 simp only
 rw [jd (by have:=dp ps;simp only [dpt];omega)]
 cases ps<;>simp [JD,ED]
theorem qqx {d:Dl} {w:Wk} {s:Int×Int} (hp:d.dep<=2) (okd:d.Ok) (ok:Big w) (h:∀ q∈sh s w.pc,inT d q):zh [dlD d,Wk.d w,pD s]=some (.list ((bks d s w.pc).map PyData.int)):=by
 have hl:=SM ok
 rw [MF]
 try simp only [Pu.pwA,V0]
 rw [ZY (ds:=w.pc.map pD) (fs:=(bks d s w.pc).map PyData.int)]
 ·try simp only [Pu.pwA]
 ·try simp only [Pu.pwA,qqg ok]
 ·rw [bks,sh,map_map,map_map]
  refine QL fun p hp'=>?_
  have:=qoG (n:=2) (i:=s.1+p.1) (j:=s.2+p.2) hp okd (h (s.1+p.1,s.2+p.2) (mem_map.mpr ⟨p,hp',rfl⟩))
  try simp only [Pu.pwA,YU,pD,qlF,this,bk,Function.comp_def]
 ·simp [bks,sh];omega
def pw:Nat->Int
 |0=>2
 |n+1=>pw n*2
def lns (B:Int):Int:=if B<=2 then 2 else if B<=4 then 4 else if B<=8 then 8 else 16
theorem qjk {B:Int} (h2:B<=16):∃ n,n<=3/\(∀ i,i<n->pw i<B)/\B<=pw n/\lns B=pw n:=by
 unfold lns
 by_cases c1:B<=2
 ·exact ⟨0,by omega,fun i hi=>by omega,c1,if_pos c1⟩
 rw [if_neg c1]
 by_cases c2:B<=4
 ·refine ⟨1,by omega,fun i hi=>?_,c2,if_pos c2⟩
  match i,hi with
  |0,_=>simp only [pw];omega
 rw [if_neg c2]
 by_cases c3:B<=8
 ·refine ⟨2,by omega,fun i hi=>?_,c3,if_pos c3⟩
  match i,hi with
  |0,_=>simp only [pw];omega
  |1,_=>simp only [pw];omega
 rw [if_neg c3]
 refine ⟨3,by omega,fun i hi=>?_,h2,rfl⟩
 match i,hi with
 |0,_=>simp only [pw];omega
 |1,_=>simp only [pw];omega
 |2,_=>simp only [pw];omega
theorem qfN:∀ n,2<=pw n
 |0=>by decide
 |n+1=>by have:=qfN n;simp only [pw];omega
theorem qoO {B:Int} (h2:B<=16):ja [.int B]=some (.int (lns B)):=by
 obtain ⟨n,hn,h3,h4,h5⟩:=qjk h2
 rw [LZ,h5]
 try simp only [Pu.pwA,J5]
 refine qnA (Q:=fun o=>WP false o=_) n (by omega) (fun i ρ=>ρ=[.sh (.int B),.sh (.int (pw i))]) rfl ?_ ?_ ?_ ?_
 ·rintro i ρ hi rfl
  have:=h3 i hi
  try simp only [Pu.pwA,this,decide_true]
 ·rintro i ρ hi rfl
  have:=h3 i hi
  have:=qfN i
  try simp (disch:=omega) only [Pu.pwA,ML]
  rfl
 ·rintro ρ rfl
  have:¬ pw n<B:=by omega
  try simp only [Pu.pwA,this,decide_false]
 ·rintro ρ rfl
  try simp only [Pu.pwA]
def free (bs:List Int) (m:Int):List Int:=(ZN 0 m.toNat).filter fun x=>!(bs.any (·==x))
def duD (d:Dl) (bs:List Int):PyData:=if unB bs then .tuple ((bs++free bs (lns d.B)).map PyData.int) else .none
theorem qiH (B:Int):2<=lns B/\lns B<=16:=by
 unfold lns
 (repeat' split)<;>omega
theorem T6 (bs:List Int) (B:Int):(free bs (lns B)).length<=16:=by
 have h:=List.length_filter_le (fun x=>!(bs.any (·==x))) (ZN 0 (lns B).toNat)
 have:=qiH B
 rw [JZ] at h
 unfold free;omega
theorem qqT {d:Dl} {w:Wk} {s:Int×Int} (hp:d.dep<=2) (okd:d.Ok) (h16:d.B<=16) (ok:Big w) (h:∀ q∈sh s w.pc,inT d q):zz [dlD d,Wk.d w,pD s]=some (duD d (bks d s w.pc)):=by
 have hl:=SM ok
 have bl:(bks d s w.pc).length<=1000000:=by simp [bks,sh];omega
 have r:=qiH d.B
 have fl:=T6 (bks d s w.pc) d.B
 have sz:=qck (n:=2) hp okd
 have bf:=qqV hp okd ok h
 have fa:=qk0 bl
 rw [NM]
 unfold duD
 generalize bks d s w.pc=bs at *
 cases e:faO bs with
 |some ij=>
  have ed:faD bs=.tuple [.int ij.1,.int ij.2]:=by unfold faD;rw [e]
  have eu:unB bs=false:=by unfold unB;rw [e];rfl
  rw [ed] at fa
  rw [eu]
  try simp only [Pu.pwA,JJ,bf,fa]
 |none=>
  have ed:faD bs=.none:=by unfold faD;rw [e]
  have eu:unB bs=true:=by unfold unB;rw [e];rfl
  rw [ed] at fa
  rw [eu]
  try simp only [Pu.pwA,JJ,bf,fa,qjW,sz,siz]
  rw [ZY (ds:=(ZN 0 (lns d.B).toNat).map PyData.int) (fs:=(free bs (lns d.B)).map PyData.int)]
  rotate_left
  ·try simp (disch:=omega) only [Pu.pwA,qoO h16,qcH]
  ·refine WU fun x hx=>?_
   cases z:bs.any (·==x) with
   |true=>try simp only [Pu.pwA,YU,TK,z,Bool.not_true]
   |false=>try simp only [Pu.pwA,YU,TK,z,Bool.not_false]
  ·rw [length_map];omega
  rw [List.map_append]
  try simp only [Pu.pwA,qco (show (bs.map PyData.int).length+((free bs (lns d.B)).map PyData.int).length<=16777216 by rw [length_map,length_map];omega)]
theorem qoC (ns:List Int):Z0 ns<=ns.length:=PyProof.Rows.firstMet_length_le _ _
theorem qmj {ns:List Int}:decide ((Z0 ns:Int)<(ns.length:Int))=!(unB ns):=by
 have le:=qoC ns
 rw [Bool.eq_iff_iff,decide_eq_true_eq,Bool.not_eq_true',← Bool.not_eq_true,qho,← Bk.qa2]
 omega
theorem qex {x:Int} {xs:List Int}:L2.atI ((x::xs).map PyData.int) 0=some (.int x):=by
 rw [show (0:Int)=((0:Nat):Int) from rfl,atN (by simp)];rfl
theorem qoR {B:Int} (h:B<=16):L2.atI ((([2,4,8,16]:List Int).filter fun m=>decide (B<=m)).map PyData.int) 0=some (.int (lns B)):=by
 unfold lns
 simp only [List.filter_cons,List.filter_nil]
 by_cases c1:B<=2
 ·rw [if_pos c1,if_pos (decide_eq_true c1)];exact qex
 rw [if_neg c1,if_neg (by simpa using c1)]
 by_cases c2:B<=4
 ·rw [if_pos c2,if_pos (decide_eq_true c2)];exact qex
 rw [if_neg c2,if_neg (by simpa using c2)]
 by_cases c3:B<=8
 ·rw [if_pos c3,if_pos (decide_eq_true c3)];exact qex
 rw [if_neg c3,if_neg (by simpa using c3),if_pos (decide_eq_true h)];exact qex
theorem qrk {d:Dl} {w:Wk} {s:Int×Int} (hp:d.dep<=2) (okd:d.Ok) (h16:d.B<=16) (ok:w.Ok) (h:∀ q∈sh s w.pc,inT d q):jI [dlD d,Wk.d w,pD s]=some (duD d (bks d s w.pc)):=by
 have hl:=(Bk.N5 ok).2
 have bl:(bks d s w.pc).length<=16:=by simp [bks,sh];omega
 have r:=qiH d.B
 have fl:=T6 (bks d s w.pc) d.B
 have sz:=qck (n:=2) hp okd
 have bf:=qqx hp okd (qbw ok) h
 rw [qa1]
 unfold duD
 generalize bks d s w.pc=bs at *
 have ls:NY (.list (bs.map PyData.int))=some (.int (Z0 bs)):=qb5 (by omega)
 cases eu:unB bs with
 |false=>
  have lt:(Z0 bs:Int)<(bs.length:Int):=by
   have:=qmj (ns:=bs)
   rw [eu] at this
   simpa using this
  try simp only [Pu.pwA,YZ,bf,ls,length_map,lt,decide_true]
 |true=>
  have lt:¬ (Z0 bs:Int)<(bs.length:Int):=by
   have:=qmj (ns:=bs)
   rw [eu] at this
   simpa using this
  try simp only [Pu.pwA,YZ,bf,ls,length_map,lt,decide_false]
  rw [ZY (ds:=([2,4,8,16]:List Int).map PyData.int) (fs:=(([2,4,8,16]:List Int).filter fun m=>decide (d.B<=m)).map PyData.int)]
  rotate_left
  ·try simp only [Pu.pwA]
   rfl
  ·refine WU fun x hx=>?_
   by_cases z:d.B<=x
   ·try simp only [Pu.pwA,YU,KZ,sz,siz,z,decide_true]
   ·try simp only [Pu.pwA,YU,KZ,sz,siz,z,decide_false]
  ·have:=List.length_filter_le (fun m=>decide (d.B<=m)) [2,4,8,16]
   rw [length_map]
   simp only [length_cons,length_nil] at this
   omega
  try simp only [Pu.pwA,qoR h16]
  rw [ZY (ds:=(ZN 0 (lns d.B).toNat).map PyData.int) (fs:=(free bs (lns d.B)).map PyData.int)]
  rotate_left
  ·try simp (disch:=omega) only [Pu.pwA,qcH]
  ·refine WU fun x hx=>?_
   cases z:bs.any (·==x) with
   |true=>try simp only [Pu.pwA,YU,TK,z,Bool.not_true]
   |false=>try simp only [Pu.pwA,YU,TK,z,Bool.not_false]
  ·rw [length_map];omega
  rw [List.map_append]
  try simp only [Pu.pwA,qco (show (bs.map PyData.int).length+((free bs (lns d.B)).map PyData.int).length<=16777216 by rw [length_map,length_map];omega)]
theorem qnH {d:Dl} {bs:List Int} (h:bs.length<=16):Bk.DJ 3 (duD d bs):=by
 unfold duD
 split
 ·have fl:=T6 bs d.B
  refine ⟨by rw [length_map,length_append];omega,fun x hx=>?_⟩
  obtain ⟨i,_,rfl⟩:=mem_map.mp hx
  simp [Bk.DJ]
 ·simp [Bk.DJ]
theorem qkO {i j:Nat} {m:List Bool} {d:Dl} {w:Wk} {ρ:Rho}:qfM i j m [dlD d,Wk.d w] ρ=some (.nx (((dm m ρ).set i (.sh (dlD d))).set j (.sh (Wk.d w)))):=by
 cases d<;>cases w<;>rfl
structure Cs (d:Dl) (w:Wk) (s:Int×Int):Prop where
 dp:d.dep<=2
 ok:d.Ok
 r:d.R<=16
 c:d.C<=16
 b:d.B<=16
 wk:w.Ok
 st:s∈stI d.R d.C w.pc
theorem qqR {n:Nat} {Q:QD} (hn:n<1000) (h:∀ (d:Dl) (w:Wk) (s:Int×Int) (m:Nat),Cs d w s->m<=n+30000->Q (.tuple [dlD d,Wk.d w,pD s]) m):zn.W [] n Q:=by
 rw [XA]
 refine ⟨rfl,?_⟩
 unfold jv
 refine NK fun Y1 h1=>?_
 try simp (disch:=omega) only [Pu.pwA,qcH]
 refine N0 (ZN 0 (12:Int).toNat) jw.mn (fun i ρ m=>m<=n+1500*i/\∃ s1 s2 s3 s4 s5 s6,ρ=[.un,s1,s2,s3,s4,s5,s6]) ⟨by omega,_,_,_,_,_,_,rfl⟩ ?_ ?_
 ·rintro i x ρ m hx ⟨hm,s1,s2,s3,s4,s5,s6,rfl⟩
  have hi:i<12:=(List.getElem?_eq_some_iff.mp hx).1
  refine ⟨_,rfl,?_⟩
  unfold jw
  refine NK fun Z1 g1=>?_
  try simp only [Pu.pwA]
  refine ⟨by omega,fun d D dp=>⟨by omega,fun w hw=>?_⟩⟩
  try simp only [Pu.pwA,qkO]
  rw [g1]
  have lm:=Dl.lims D.ok
  have hR:=D.r2;have hC:=D.c2
  have cb:=qkQ hw
  have big:=qbw hw
  have pl:=(Bk.N5 hw).2
  have sl:=qdx (R:=d.R) (C:=d.C) cb lm.r2 lm.c2
  have sz:=qck (n:=2) dp D.ok
  refine NK fun Z2 g2=>?_
  try simp only [Pu.pwA,qmB dp D.ok big cb]
  rw [g2]
  by_cases es:stI d.R d.C w.pc=[]
  ·try simp only [Pu.pwA,NJ,es,decide_true,Bool.not_true]
   exact ⟨by omega,_,_,_,_,_,_,rfl⟩
  by_cases c16:d.B<=16
  ·try simp only [Pu.pwA,NJ,es,decide_false,Bool.not_false,KZ,sz,siz,c16,decide_true]
   have l0:0<(stI d.R d.C w.pc).length:=List.length_pos_iff.mpr es
   refine ⟨by rw [length_map];omega,by omega,fun t t0 t1=>?_⟩
   obtain ⟨k,rfl⟩:=Int.eq_ofNat_of_zero_le t0
   rw [length_map] at t1
   have hk:k<(stI d.R d.C w.pc).length:=by omega
   have ai:L2.atI ((stI d.R d.C w.pc).map pD) (k:Int)=some (pD (stI d.R d.C w.pc)[k]):=by
    rw [atN (by simpa using hk),getElem?_map,getElem?_eq_getElem hk];rfl
   have sm:=List.getElem_mem hk
   generalize (stI d.R d.C w.pc)[k]=s at *
   have lf:=qqx dp D.ok big (qix sm)
   have bl:(bks d s w.pc).length<=16:=by simp [bks,sh];omega
   generalize bks d s w.pc=bs at *
   have ls:NY (.list (bs.map PyData.int))=some (.int (Z0 bs)):=qb5 (by omega)
   by_cases c1:(Z0 bs:Int)=(bs.length:Int)
   ·try simp only [Pu.pwA,ai,lf,ls,length_map,c1,decide_true]
    exact ⟨_,Nat.le_refl _,h d w s _ ⟨dp,D.ok,hR,hC,c16,hw,sm⟩ (by omega)⟩
   ·by_cases c2:8<x
    ·try simp only [Pu.pwA,ai,lf,ls,length_map,c1,c2,decide_true,decide_false]
     exact ⟨_,Nat.le_refl _,h d w s _ ⟨dp,D.ok,hR,hC,c16,hw,sm⟩ (by omega)⟩
    ·try simp only [Pu.pwA,ai,lf,ls,length_map,c1,c2,decide_false]
     exact ⟨by omega,_,_,_,_,_,_,rfl⟩
  ·try simp only [Pu.pwA,NJ,es,decide_false,Bool.not_false,KZ,sz,siz,c16]
   exact ⟨by omega,_,_,_,_,_,_,rfl⟩
 ·rintro ρ m ⟨hm,s1,s2,s3,s4,s5,s6,rfl⟩
  rw [JZ] at hm
  try simp only [Pu.pwA]
  rw [h1]
  try simp only [Pu.pwA]
  refine ⟨by omega,by omega,fun p p0 p1=>?_⟩
  try simp only [Pu.pwA]
  refine ⟨_,Nat.le_refl _,h (.skew 4 4 4 1 1) (.line 0 4) (p,0) (m+1) ⟨by simp [Dl.dep],by simp [Dl.Ok],by decide,by decide,by decide,?_,?_⟩ (by simp at hm;omega)⟩
  ·simp [Wk.Ok]
  ·have:p=0\/p=1\/p=2\/p=3:=by omega
   rcases this with rfl|rfl|rfl|rfl<;>decide
theorem qqc {α:Type} (xs:List α) (k:Nat):ZO xs none (some (k:Int))=xs.take k:=by
 unfold ZO
 rw [HT.qcn,HT.N8,List.drop_zero,Nat.sub_zero,List.take_eq_take_iff]
 omega
theorem qqF {α:Type} (xs:List α) (k:Nat):ZO xs (some (k:Int)) none=xs.drop k:=by
 unfold ZO
 rw [HT.qcn,HT.N8,List.take_of_length_le (by simp)]
 by_cases h:k<=xs.length
 ·rw [Nat.min_eq_left h]
 ·rw [Nat.min_eq_right (by omega),List.drop_eq_nil_of_le (by simp),List.drop_eq_nil_of_le (by omega)]
theorem qnj:∀ k:Nat,k<=60->qeg.w [.un,.sh (.int k),.un,.un,.un,.un,.un,.un,.un,.un] 0 okW:=by
 intro k hk
 unfold qeg
 refine NK fun Y1 h1=>?_
 try simp only [Pu.pwA]
 refine qqR (by omega) fun d w s m C hm=>?_
 try simp only [Pu.pwA]
 rw [h1]
 have cb:=qkQ C.wk
 have big:=qbw C.wk
 have pl:=(Bk.N5 C.wk).2
 have lm:=Dl.lims C.ok
 have sl:=qdx (R:=d.R) (C:=d.C) cb lm.r2 lm.c2
 have l0:0<(stI d.R d.C w.pc).length:=List.length_pos_of_mem C.st
 refine NK fun Y2 h2=>?_
 try simp only [Pu.pwA,qmB C.dp C.ok big cb]
 rw [h2]
 refine NK fun Y3 h3=>?_
 try simp only [Pu.pwA]
 refine ⟨by rw [length_map];omega,by omega,fun t t0 t1=>?_⟩
 obtain ⟨k',rfl⟩:=Int.eq_ofNat_of_zero_le t0
 try simp only [Pu.pwA]
 rw [h3]
 have one:∀ s∈stI d.R d.C w.pc,jI [dlD d,Wk.d w,pD s]=some (duD d (bks d s w.pc))/\zz [dlD d,Wk.d w,pD s]=some (duD d (bks d s w.pc))/\Bk.DJ 3 (duD d (bks d s w.pc)):=fun s hs=>⟨qrk C.dp C.ok C.b C.wk (qix hs),qqT C.dp C.ok C.b big (qix hs),qnH (by simp [bks,sh];omega)⟩
 have smem:=C.st
 generalize stI d.R d.C w.pc=st at *
 have e1:qi0 (.list ((st.map pD).drop k')) (.list ((st.map pD).take k'))=some (.list ((st.map pD).drop k'++(st.map pD).take k')):=qkS (by simp;omega)
 have e2:ZO ((st.map pD).drop k'++(st.map pD).take k') none (some 12)=((st.drop k'++st.take k').take 12).map pD:=by
  rw [show (12:Int)=((12:Nat):Int) from rfl,qqc]
  simp [List.map_take,List.map_drop]
 have e3:qjI (.list [pD s]) (.list (((st.drop k'++st.take k').take 12).map pD))=some (.list ((s::(st.drop k'++st.take k').take 12).map pD)):=qco (by simp;omega)
 try simp only [Pu.pwA,qo8,qqc,qqF,e1,e2,e3]
 refine N0 (f:=pD) (s::(st.drop k'++st.take k').take 12) T8.mn (fun _ ρ _=>∃ s5 s6 s7 s8 s9,ρ=[.un,.sh (.int k),.un,.sh (dlD d),.sh (Wk.d w),s5,s6,s7,s8,s9]) ⟨_,_,_,_,_,rfl⟩ ?_ ?_
 ·rintro i x ρ n hx ⟨s5,s6,s7,s8,s9,rfl⟩
  have xm:x∈st:=by
   rcases mem_cons.mp (mem_of_getElem? hx) with rfl|h
   ·assumption
   ·rcases List.mem_append.mp (List.mem_of_mem_take h) with h|h
    ·exact List.mem_of_mem_drop h
    ·exact List.mem_of_mem_take h
  obtain ⟨du,lo,dp⟩:=one x xm
  refine ⟨_,rfl,?_⟩
  unfold T8
  refine NK fun Z1 g1=>?_
  have:(∃ xs,duD d (bks d x w.pc)=.tuple xs)\/duD d (bks d x w.pc)=.none:=by
   unfold duD
   split
   ·exact .inl ⟨_,rfl⟩
   ·exact .inr rfl
  rcases this with ⟨xs,e⟩|e
  ·rw [e] at du lo dp
   try simp only [Pu.pwA,du]
   rw [g1]
   try simp only [Pu.pwA,lo,qds (n:=3) dp]
   exact ⟨_,_,_,_,_,rfl⟩
  ·rw [e] at du lo dp
   try simp only [Pu.pwA,du]
   rw [g1]
   try simp only [Pu.pwA,lo,qds (n:=3) dp]
   exact ⟨_,_,_,_,_,rfl⟩
 ·rintro ρ n ⟨s5,s6,s7,s8,s9,rfl⟩
  try simp only [Pu.pwA]
end K61
namespace K61
open PySem L2 L3 Bk
abbrev qmK : Env := { scope := PySem.Challenge.pw_bankwalk_k61_lanes_of_walks.main.scope,locals := mainNs,globals := mainNs,cells := [],code := .ref 13,frame := some 14 }
abbrev qbO : List Stmt := PySem.W.behindTheImports PySem.Challenge.pw_bankwalk_k61_lanes_of_walks
abbrev T0:Code:=.body qbO qmK
abbrev qk2:List Frame:=[PySem.W.topFrame ⟨0,0,0,0⟩]
def zc:Obj:=Hd.oT []
def jG:Obj:=⟨.none,none,.fields #[],#[]⟩
def qoa:Obj:=Hd.oC [.str "<module>" 182,.str "<module>" 183,.str "/claim/cut.py" 184,.int (1) 0,.int (0) 0,.int (0) 0,.int (0) 0,.int (0) 0,.ref 11,.bool false,.int (181) 0,.ref 12,.none,.none,.none,.none,.int (185) 0,.int (1) 0,.str "/claim/cut.py" 186]
def qnU:Obj:=⟨.type "frame",none,.plain,#[some (.ref 13),some (.ref 3),some (.ref 3),none,some (.str "__main__" 164),none,some (.ref 0)]⟩
def qlf (P:Params):Heap:=⟨Array.mk [PySem.W.boot_o_0 P,PySem.W.boot_o_1 P,PySem.W.boot_o_2 P,PySem.W.boot_o_3 P,PySem.W.boot_o_4 P,PySem.W.boot_o_5 P,PySem.W.boot_o_6 P,PySem.W.boot_o_7 P,PySem.W.boot_o_8 P,PySem.W.boot_o_9 P,PySem.W.boot_o_10 P,zc,jG,qoa,qnU],{ }⟩
def qmi (P:Params):PySem.W.BT:=(Hd.nd (PySem.W.boot_o_0 P) (Hd.nd (PySem.W.boot_o_1 P) (Hd.nd (PySem.W.boot_o_3 P) (Hd.lf (PySem.W.boot_o_7 P)) (Hd.lf zc)) (Hd.nd (PySem.W.boot_o_5 P) (Hd.lf (PySem.W.boot_o_9 P)) (Hd.lf qoa))) (Hd.nd (PySem.W.boot_o_2 P) (Hd.nd (PySem.W.boot_o_4 P) (Hd.lf (PySem.W.boot_o_8 P)) (Hd.lf jG)) (Hd.nd (PySem.W.boot_o_6 P) (Hd.lf (PySem.W.boot_o_10 P)) (Hd.lf qnU))))
set_option maxRecDepth 100000 in
set_option maxHeartbeats 0 in
theorem qkz (w : World) (os : OsState) : PySem.W.topGo treeTable PySem.Challenge.pw_bankwalk_k61_lanes_of_walks w 11 (some (Value.ref 6)) 12 ⟨PySem.W.boot_heap w.params,Array.mk [],PySem.W.boot_drawn,PySem.W.boot_toks,os⟩ (PySem.W.topStub PySem.Challenge.pw_bankwalk_k61_lanes_of_walks) = some (⟨qlf w.params,#[],{ },187,os⟩,⟨denote treeTable T0,T0,⟨0,0,0,0⟩,qk2⟩) := by kernel_rfl
set_option maxRecDepth 100000 in
set_option maxHeartbeats 0 in
theorem qjy (w : World) (os : OsState) : PySem.W.segRun treeTable PySem.Challenge.pw_bankwalk_k61_lanes_of_walks w 11 (some (Value.ref 6)) 1 1 ⟨qlf w.params,#[],{ },187,os⟩ (PySem.W.blockOf qbO qmK T0 ⟨0,0,0,0⟩ qk2) = some (.next,(⟨qmi w.params,15,{ },#[],{ },187,os⟩ : PySem.W.SharedT).abs,T0,⟨0,0,0,0⟩) := by kernel_rfl
def qqX (P:Params):Obj:=Hd.oD P 25 [(.str "__name__" 165,.str "bankwalk.walks" 336),(.str "__doc__" 166,.none),(.str "__package__" 167,.none),(.str "__loader__" 168,.builtin "__main__.__loader__#opaque"),(.str "__spec__" 169,.none),(.str "__annotations__" 170,.ref 6),(.str "__builtins__" 171,.ref 4),(.str "__file__" 173,.str "/claim/cut.py" 172),(.str "__cached__" 174,.none),(.str "is_number" 195,.ref 21),(.str "is_pair" 202,.ref 28),(.str "first_alike" 211,.ref 35),(.str "BankError" 231,.ref 45),(.str "NoStart" 247,.ref 58),(.str "size_of" 263,.ref 67),(.str "number_of" 274,.ref 74),(.str "is_word" 285,.ref 81),(.str "odd_in_common" 295,.ref 88),(.str "bits_bank" 301,.ref 93),(.str "parted" 312,.ref 100),(.str "joined_bank" 326,.ref 107),(.str "bank_in" 335,.ref 114),(.str "STRIDES" 355,.ref 115),(.str "strung" 361,.ref 124),(.str "cells_of" 367,.ref 129)]
def qq3:Obj:=⟨.none,none,.fields #[.int (2) 0,.int (0) 0,.ref 20,.int (4) 0,.int (0) 0,.ref 27,.int (6) 0,.int (0) 0,.ref 34,.int (13) 0,.int (0) 0,.ref 41,.int (15) 0,.int (0) 0,.ref 54,.int (18) 0,.int (0) 0,.ref 66,.int (29) 0,.int (0) 0,.ref 73,.int (32) 0,.int (0) 0,.ref 80,.int (37) 0,.int (0) 0,.ref 87,.int (44) 0,.int (0) 0,.ref 92,.int (46) 0,.int (0) 0,.ref 99,.int (49) 0,.int (0) 0,.ref 106,.int (53) 0,.int (0) 0,.ref 113,.int (66) 0,.int (0) 0,.ref 123,.int (68) 0,.int (0) 0,.ref 128],#[]⟩
def qqA:Obj:=Hd.oN JI 192
def qqf:Obj:=Hd.oG "is_number" QC
def qox:Obj:=Hd.oK "is_number" 189 2 1 181 15 16 .none (.ref 17) (.ref 18) 19 193 194
def qiR:Obj:=Hd.oF "is_number" QC (.str "bankwalk.basics" 187) (.ref 20)
def qlH:Obj:=Hd.oN JI 199
def qkL:Obj:=Hd.oG "is_pair" JE
def qh0:Obj:=Hd.oK "is_pair" 196 4 1 181 22 23 .none (.ref 24) (.ref 25) 26 200 201
def qhV:Obj:=Hd.oF "is_pair" JE (.str "bankwalk.basics" 187) (.ref 27)
def qlD:Obj:=Hd.oN JU 206
def qke:Obj:=Hd.oG "first_alike" jq
def qhZ:Obj:=Hd.oK "first_alike" 203 6 1 181 29 30 .none (.ref 31) (.ref 32) 33 209 210
def qhL:Obj:=Hd.oF "first_alike" jq (.str "bankwalk.basics" 187) (.ref 34)
def qmJ:Obj:=Hd.oT [.type "ValueError"]
def qd5:Obj:=⟨.type "builtin_function_or_method",none,.fields #[.builtin "type.__prepare__",.type "type"],#[]⟩
def qnd (P:Params):Obj:=Hd.oD P 4 [(.str "__module__" 221,.str "bankwalk.errors" 212),(.str "__qualname__" 223,.str "BankError" 222),(.str "__firstlineno__" 225,.int (13) 224),(.str "__static_attributes__" 226,.ref 43)]
def ql1:Obj:=Hd.oC [.str "BankError" 216,.str "BankError" 217,.str "/claim/cut.py" 218,.int (13) 0,.int (0) 0,.int (0) 0,.int (0) 0,.int (0) 0,.ref 39,.bool false,.int (181) 0,.ref 40,.none,.none,.none,.none,.int (219) 0,.int (13) 0,.str "/claim/cut.py" 220]
def qk9:Obj:=⟨.type "frame",none,.plain,#[some (.ref 41),some (.ref 3),some (.ref 38),none,some (.str "bankwalk.errors" 212),none,some (.ref 0)]⟩
def qmh (P:Params):Obj:=Hd.oD P 3 [(.str "__module__" 221,.str "bankwalk.errors" 212),(.str "__firstlineno__" 225,.int (13) 224),(.str "__static_attributes__" 226,.ref 43),(.str "__weakref__" 228,.ref 46),(.str "__doc__" 229,.none)]
def qmq:Obj:=⟨.type "type",none,.cls ({ name:=Str.ofString "BankError",bases:=[Value.type "ValueError"],  mro:=    [Value.ref 45,Value.type "ValueError",Value.type "Exception",Value.type "BaseException",Value.type "object"],  ns:=44,qualname:=Str.ofString "BankError",subclasses:=[Value.ref 58] }),#[some (.ref 36),none,some (.str "BankError" 214),some (.str "BankError" 222),some (.builtin "ValueError.__new__"),some (.bool true)]⟩
def qj0:Obj:=⟨.type "getset_descriptor",none,.fields #[.str "__weakref__" 227,.ref 45,.builtin "ExceptionGroup.__weakref__",.none],#[]⟩
def qjc:Obj:=⟨.type "super",none,.fields #[.ref 45,.ref 45,.ref 45],#[]⟩
def qlO:Obj:=⟨.type "builtin_function_or_method",none,.fields #[.builtin "object.__init_subclass__",.ref 45],#[]⟩
def qlM:Obj:=Hd.oT [.ref 45]
def qlv (P:Params):Obj:=Hd.oD P 4 [(.str "__module__" 239,.str "bankwalk.errors" 212),(.str "__qualname__" 241,.str "NoStart" 240),(.str "__firstlineno__" 243,.int (15) 242),(.str "__static_attributes__" 244,.ref 56)]
def qjf:Obj:=Hd.oC [.str "NoStart" 234,.str "NoStart" 235,.str "/claim/cut.py" 236,.int (15) 0,.int (0) 0,.int (0) 0,.int (0) 0,.int (0) 0,.ref 52,.bool false,.int (181) 0,.ref 53,.none,.none,.none,.none,.int (237) 0,.int (15) 0,.str "/claim/cut.py" 238]
def qi9:Obj:=⟨.type "frame",none,.plain,#[some (.ref 54),some (.ref 3),some (.ref 51),none,some (.str "bankwalk.errors" 212),none,some (.ref 0)]⟩
def qme (P:Params):Obj:=Hd.oD P 2 [(.str "__module__" 239,.str "bankwalk.errors" 212),(.str "__firstlineno__" 243,.int (15) 242),(.str "__static_attributes__" 244,.ref 56),(.str "__doc__" 245,.none)]
def qlA:Obj:=⟨.type "type",none,.cls ({ name:=Str.ofString "NoStart",bases:=[Value.ref 45],  mro:=    [Value.ref 58,Value.ref 45,Value.type "ValueError",Value.type "Exception",Value.type "BaseException",      Value.type "object"],  ns:=57,qualname:=Str.ofString "NoStart" }),#[some (.ref 49),none,some (.str "NoStart" 232),some (.str "NoStart" 240),some (.builtin "ValueError.__new__"),some (.bool true)]⟩
def qmk:Obj:=⟨.type "super",none,.fields #[.ref 58,.ref 58,.ref 58],#[]⟩
def qm2:Obj:=⟨.type "builtin_function_or_method",none,.fields #[.builtin "object.__init_subclass__",.ref 58],#[]⟩
def qld:Obj:=Hd.oN C5 253
def qmO:Obj:=Hd.oG "size_of" JB
def qiK:Obj:=Hd.oK "size_of" 250 18 1 181 61 62 .none (.ref 63) (.ref 64) 65 261 262
def qiC:Obj:=Hd.oF "size_of" JB (.str "bankwalk.dealings" 248) (.ref 66)
def qjF:Obj:=Hd.oN U5 267
def qjR:Obj:=Hd.oG "number_of" QA
def qg3:Obj:=Hd.oK "number_of" 264 29 2 181 68 69 .none (.ref 70) (.ref 71) 72 272 273
def qh9:Obj:=Hd.oF "number_of" QA (.str "bankwalk.dealings" 248) (.ref 73)
def qko:Obj:=Hd.oN Y4 278
def qlE:Obj:=Hd.oG "is_word" JC
def qhW:Obj:=Hd.oK "is_word" 275 32 2 181 75 76 .none (.ref 77) (.ref 78) 79 283 284
def qii:Obj:=Hd.oF "is_word" JC (.str "bankwalk.dealings" 248) (.ref 80)
def qmp:Obj:=Hd.oN Q7 289
def qmv:Obj:=Hd.oG "odd_in_common" zQ
def qiy:Obj:=Hd.oK "odd_in_common" 286 37 2 181 82 83 .none (.ref 84) (.ref 85) 86 293 294
def qiu:Obj:=Hd.oF "odd_in_common" zQ (.str "bankwalk.dealings" 248) (.ref 87)
def qkR:Obj:=Hd.oG "bits_bank" QE
def qio:Obj:=Hd.oK "bits_bank" 296 44 2 181 89 90 .none .none .none 91 299 300
def qia:Obj:=Hd.oF "bits_bank" QE (.str "bankwalk.dealings" 248) (.ref 92)
def qkX:Obj:=Hd.oN TN 305
def qjS:Obj:=Hd.oG "parted" Y8
def qhI:Obj:=Hd.oK "parted" 302 46 3 181 94 95 .none (.ref 96) (.ref 97) 98 310 311
def qhh:Obj:=Hd.oF "parted" Y8 (.str "bankwalk.dealings" 248) (.ref 99)
def qjn:Obj:=Hd.oN JX 316
def qkY:Obj:=Hd.oG "joined_bank" jo
def qgY:Obj:=Hd.oK "joined_bank" 313 49 3 181 101 102 .none (.ref 103) (.ref 104) 105 324 325
def qim:Obj:=Hd.oF "joined_bank" jo (.str "bankwalk.dealings" 248) (.ref 106)
def qku:Obj:=Hd.oN RI 330
def qjJ:Obj:=Hd.oG "bank_in" JA
def qit:Obj:=Hd.oK "bank_in" 327 53 2 181 108 109 .none (.ref 110) (.ref 111) 112 333 334
def qiO:Obj:=Hd.oF "bank_in" JA (.str "bankwalk.dealings" 248) (.ref 113)
def qiD (P:Params):Obj:=Hd.oD P 4 [(.str "row" 338,.ref 116),(.str "column" 341,.ref 117),(.str "slant" 344,.ref 118),(.str "back" 347,.ref 119)]
def qhB:Obj:=Hd.oT [.int (0) 339,.int (1) 340]
def qhv:Obj:=Hd.oT [.int (1) 342,.int (0) 343]
def qhO:Obj:=Hd.oT [.int (1) 345,.int (1) 346]
def qib:Obj:=Hd.oT [.int (1) 348,.int (-1) 350]
def qmD:Obj:=Hd.oG "strung" Y7
def qiv:Obj:=Hd.oK "strung" 356 66 3 181 120 121 .none .none .none 122 359 360
def qig:Obj:=Hd.oF "strung" Y7 (.str "bankwalk.walks" 336) (.ref 123)
def qmU:Obj:=Hd.oG "cells_of" ZH
def qhg:Obj:=Hd.oK "cells_of" 362 68 1 181 125 126 .none .none .none 127 365 366
def qhM:Obj:=Hd.oF "cells_of" ZH (.str "bankwalk.walks" 336) (.ref 128)
def qjN (P:Params):PySem.W.BT:=(Hd.nd (PySem.W.boot_o_0 P) (Hd.nd (PySem.W.boot_o_1 P) (Hd.nd (qqX P) (Hd.nd (PySem.W.boot_o_7 P) (Hd.nd zc (Hd.nd qlD (Hd.nd qld (Hd.lf qmU) .nil) (Hd.lf jG)) (Hd.nd qjc (Hd.lf qlE) (Hd.lf zc))) (Hd.nd jG (Hd.nd zc (Hd.lf zc) (Hd.lf qjn)) (Hd.nd qi9 (Hd.lf qiy) (Hd.lf qib)))) (Hd.nd zc (Hd.nd qqf (Hd.nd qhL (Hd.lf qiC) (Hd.lf qhI)) (Hd.nd (qlv P) (Hd.lf jG) (Hd.lf (qiD P)))) (Hd.nd qh0 (Hd.nd zc (Hd.lf zc) (Hd.lf qim)) (Hd.nd qmk (Hd.lf qkR) (Hd.lf qiv))))) (Hd.nd (PySem.W.boot_o_5 P) (Hd.nd (PySem.W.boot_o_9 P) (Hd.nd qqA (Hd.nd qke (Hd.nd qmO (Hd.lf qhM) .nil) (Hd.lf zc)) (Hd.nd qlM (Hd.lf qii) (Hd.lf qit))) (Hd.nd zc (Hd.nd ql1 (Hd.lf qg3) (Hd.lf qkY)) (Hd.nd (qme P) (Hd.lf zc) (Hd.lf jG)))) (Hd.nd qoa (Hd.nd qiR (Hd.nd qd5 (Hd.lf jG) (Hd.lf zc)) (Hd.nd jG (Hd.lf zc) (Hd.lf qhv))) (Hd.nd zc (Hd.nd qmq (Hd.lf qko) (Hd.lf jG)) (Hd.nd zc (Hd.lf qia) (Hd.lf zc)))))) (Hd.nd (PySem.W.boot_o_2 P) (Hd.nd (PySem.W.boot_o_4 P) (Hd.nd (PySem.W.boot_o_8 P) (Hd.nd jG (Hd.nd zc (Hd.nd zc (Hd.lf qhg) .nil) (Hd.lf qkX)) (Hd.nd qlO (Hd.lf qhW) (Hd.lf qjJ))) (Hd.nd qlH (Hd.nd jG (Hd.lf qjR) (Hd.lf zc)) (Hd.nd zc (Hd.lf qiu) (Hd.lf zc)))) (Hd.nd qq3 (Hd.nd qox (Hd.nd qmJ (Hd.lf zc) (Hd.lf qhh)) (Hd.nd zc (Hd.lf qmp) (Hd.lf qhB))) (Hd.nd qhV (Hd.nd (qmh P) (Hd.lf jG) (Hd.lf zc)) (Hd.nd qm2 (Hd.lf qio) (Hd.lf qig))))) (Hd.nd (PySem.W.boot_o_6 P) (Hd.nd (PySem.W.boot_o_10 P) (Hd.nd zc (Hd.nd qhZ (Hd.lf qiK) (Hd.lf qjS)) (Hd.nd qd5 (Hd.lf zc) (Hd.lf qiO))) (Hd.nd qkL (Hd.nd qk9 (Hd.lf qh9) (Hd.lf qgY)) (Hd.nd qlA (Hd.lf jG) (Hd.lf qmD)))) (Hd.nd qnU (Hd.nd zc (Hd.nd (qnd P) (Hd.lf qjF) (Hd.lf jG)) (Hd.nd qjf (Hd.lf qmv) (Hd.lf qhO))) (Hd.nd jG (Hd.nd qj0 (Hd.lf zc) (Hd.lf qku)) (Hd.nd jG (Hd.lf zc) (Hd.lf jG)))))))
abbrev qeF:List Stmt:=(qbO.drop 0).take 20
def qe7 (os : OsState) (w : World) : Prop := PySem.W.segRunT treeTable PySem.Challenge.pw_bankwalk_k61_lanes_of_walks w 11 (some (Value.ref 6)) 1 924 (⟨qmi w.params,15,{ },#[],{ },187,os⟩ : PySem.W.SharedT) (PySem.W.piecesOf qeF qmK T0 ⟨0,0,0,0⟩ qk2) = some (.next,(⟨qjN w.params,130,{ },#[],{ },368,os⟩ : PySem.W.SharedT),T0,⟨68,0,77,39⟩)
set_option maxRecDepth 100000 in
set_option maxHeartbeats 0 in
theorem qmy (w:World) (os:OsState):qe7 os w:=
 PySem.W.byRow2 "special-get-raises" (P:=qe7 os) (fun w=>show _=_ by kernel_rfl) (fun w=>show _=_ by kernel_rfl) w
def qlb (P:Params):Obj:=Hd.oD P 54 [(.str "__name__" 165,.str "law_bankwalk_k61_lanes_of_walks" 413),(.str "__doc__" 166,.none),(.str "__package__" 167,.none),(.str "__loader__" 168,.builtin "__main__.__loader__#opaque"),(.str "__spec__" 169,.none),(.str "__annotations__" 170,.ref 6),(.str "__builtins__" 171,.ref 4),(.str "__file__" 173,.str "/claim/cut.py" 172),(.str "__cached__" 174,.none),(.str "is_number" 195,.ref 21),(.str "is_pair" 202,.ref 28),(.str "first_alike" 211,.ref 35),(.str "BankError" 231,.ref 45),(.str "NoStart" 247,.ref 58),(.str "size_of" 263,.ref 67),(.str "number_of" 274,.ref 74),(.str "is_word" 285,.ref 81),(.str "odd_in_common" 295,.ref 88),(.str "bits_bank" 301,.ref 93),(.str "parted" 312,.ref 100),(.str "joined_bank" 326,.ref 107),(.str "bank_in" 335,.ref 114),(.str "STRIDES" 355,.ref 115),(.str "strung" 361,.ref 124),(.str "cells_of" 367,.ref 129),(.str "shifted" 373,.ref 134),(.str "is_start" 379,.ref 139),(.str "words_of" 388,.ref 146),(.str "banks_from" 396,.ref 151),(.str "lanes_for" 406,.ref 158),(.str "lanes_of" 412,.ref 163),(.str "_law_mix" 423,.ref 170),(.str "_law_left" 433,.ref 177),(.str "_law_pick" 442,.ref 184),(.str "_law_sides" 452,.ref 191),(.str "_law_gcd" 460,.ref 198),(.str "_law_skew" 471,.ref 205),(.str "_law_rests" 483,.ref 212),(.str "_law_bits" 489,.ref 217),(.str "_law_table" 495,.ref 222),(.str "_law_small" 501,.ref 227),(.str "_law_dealing" 511,.ref 234),(.str "_law_size" 517,.ref 239),(.str "_law_odd" 526,.ref 246),(.str "_law_bank" 532,.ref 251),(.str "_law_many" 539,.ref 258),(.str "_law_walk" 556,.ref 265),(.str "_law_cells" 562,.ref 270),(.str "_law_starts" 568,.ref 275),(.str "_law_from" 574,.ref 280),(.str "_law_same" 580,.ref 285),(.str "_law_clear_case" 593,.ref 292),(.str "_law_due" 599,.ref 297),(.str "law" 615,.ref 304)]
def qpk:Obj:=⟨.none,none,.fields #[.int (2) 0,.int (0) 0,.ref 20,.int (4) 0,.int (0) 0,.ref 27,.int (6) 0,.int (0) 0,.ref 34,.int (13) 0,.int (0) 0,.ref 41,.int (15) 0,.int (0) 0,.ref 54,.int (18) 0,.int (0) 0,.ref 66,.int (29) 0,.int (0) 0,.ref 73,.int (32) 0,.int (0) 0,.ref 80,.int (37) 0,.int (0) 0,.ref 87,.int (44) 0,.int (0) 0,.ref 92,.int (46) 0,.int (0) 0,.ref 99,.int (49) 0,.int (0) 0,.ref 106,.int (53) 0,.int (0) 0,.ref 113,.int (66) 0,.int (0) 0,.ref 123,.int (68) 0,.int (0) 0,.ref 128,.int (78) 0,.int (0) 0,.ref 133,.int (80) 0,.int (0) 0,.ref 138,.int (82) 0,.int (0) 0,.ref 145,.int (87) 0,.int (0) 0,.ref 150,.int (90) 0,.int (0) 0,.ref 157,.int (95) 0,.int (0) 0,.ref 162,.int (102) 0,.int (0) 0,.ref 169,.int (105) 0,.int (0) 0,.ref 176,.int (109) 0,.int (0) 0,.ref 183,.int (116) 0,.int (0) 0,.ref 190,.int (120) 0,.int (0) 0,.ref 197,.int (124) 0,.int (0) 0,.ref 204,.int (129) 0,.int (0) 0,.ref 211,.int (137) 0,.int (0) 0,.ref 216,.int (142) 0,.int (0) 0,.ref 221,.int (147) 0,.int (0) 0,.ref 226,.int (165) 0,.int (0) 0,.ref 233,.int (182) 0,.int (0) 0,.ref 238,.int (192) 0,.int (0) 0,.ref 245,.int (197) 0,.int (0) 0,.ref 250,.int (210) 0,.int (0) 0,.ref 257,.int (212) 0,.int (0) 0,.ref 264,.int (231) 0,.int (0) 0,.ref 269,.int (241) 0,.int (0) 0,.ref 274,.int (249) 0,.int (0) 0,.ref 279,.int (251) 0,.int (0) 0,.ref 284,.int (259) 0,.int (0) 0,.ref 291,.int (269) 0,.int (0) 0,.ref 296,.int (275) 0,.int (0) 0,.ref 303],#[]⟩
def qou:Obj:=Hd.oG "shifted" JK
def qkx:Obj:=Hd.oK "shifted" 368 78 2 181 130 131 .none .none .none 132 371 372
def qmA:Obj:=Hd.oF "shifted" JK (.str "bankwalk.walks" 336) (.ref 133)
def qpu:Obj:=Hd.oG "is_start" ZG
def qns:Obj:=Hd.oK "is_start" 374 80 3 181 135 136 .none .none .none 137 377 378
def qlg:Obj:=Hd.oF "is_start" ZG (.str "bankwalk.walks" 336) (.ref 138)
def qpT:Obj:=Hd.oN j6 383
def qpG:Obj:=Hd.oG "words_of" Q2
def qm4:Obj:=Hd.oK "words_of" 380 82 3 181 140 141 .none (.ref 142) (.ref 143) 144 386 387
def qjj:Obj:=Hd.oF "words_of" Q2 (.str "bankwalk.walks" 336) (.ref 145)
def qoP:Obj:=Hd.oG "banks_from" jL
def qj2:Obj:=Hd.oK "banks_from" 391 87 3 181 147 148 .none .none .none 149 394 395
def qmN:Obj:=Hd.oF "banks_from" jL (.str "bankwalk.clashes" 389) (.ref 150)
def qor:Obj:=Hd.oN QZ 402
def qpX:Obj:=Hd.oG "lanes_for" QG
def qkv:Obj:=Hd.oK "lanes_for" 399 90 1 181 152 153 .none (.ref 154) (.ref 155) 156 404 405
def qmw:Obj:=Hd.oF "lanes_for" QG (.str "bankwalk.lanes" 397) (.ref 157)
def qpK:Obj:=Hd.oG "lanes_of" ZI
def qmE:Obj:=Hd.oK "lanes_of" 407 95 3 181 159 160 .none .none .none 161 410 411
def qf3:Obj:=Hd.oF "lanes_of" ZI (.str "bankwalk.lanes" 397) (.ref 162)
def qjp:Obj:=Hd.oN C8 418
def qjo:Obj:=Hd.oG "_law_mix" JH
def qfy:Obj:=Hd.oK "_law_mix" 415 102 2 181 164 165 .none (.ref 166) (.ref 167) 168 421 422
def qf1:Obj:=Hd.oF "_law_mix" JH (.str "law_bankwalk_k61_lanes_of_walks" 413) (.ref 169)
def qlj:Obj:=Hd.oN WJ 427
def qnf:Obj:=Hd.oG "_law_left" ZL
def qe1:Obj:=Hd.oK "_law_left" 424 105 2 181 171 172 .none (.ref 173) (.ref 174) 175 431 432
def qfG:Obj:=Hd.oF "_law_left" ZL (.str "law_bankwalk_k61_lanes_of_walks" 413) (.ref 176)
def qkr:Obj:=Hd.oN D9 437
def qkg:Obj:=Hd.oG "_law_pick" ZM
def qfx:Obj:=Hd.oK "_law_pick" 434 109 2 181 178 179 .none (.ref 180) (.ref 181) 182 440 441
def qfh:Obj:=Hd.oF "_law_pick" ZM (.str "law_bankwalk_k61_lanes_of_walks" 413) (.ref 183)
def qi6:Obj:=Hd.oN U7 446
def qnJ:Obj:=Hd.oG "_law_sides" QH
def qfB:Obj:=Hd.oK "_law_sides" 443 116 1 181 185 186 .none (.ref 187) (.ref 188) 189 450 451
def qfZ:Obj:=Hd.oF "_law_sides" QH (.str "law_bankwalk_k61_lanes_of_walks" 413) (.ref 190)
def qlh:Obj:=Hd.oN C4 456
def qlq:Obj:=Hd.oG "_law_gcd" JO
def qfi:Obj:=Hd.oK "_law_gcd" 453 120 2 181 192 193 .none (.ref 194) (.ref 195) 196 458 459
def qe9:Obj:=Hd.oF "_law_gcd" JO (.str "law_bankwalk_k61_lanes_of_walks" 413) (.ref 197)
def qi1:Obj:=Hd.oN D7 464
def qj9:Obj:=Hd.oG "_law_skew" Q5
def qgN:Obj:=Hd.oK "_law_skew" 461 124 1 181 199 200 .none (.ref 201) (.ref 202) 203 469 470
def qfQ:Obj:=Hd.oF "_law_skew" Q5 (.str "law_bankwalk_k61_lanes_of_walks" 413) (.ref 204)
def qjv:Obj:=Hd.oN U9 475
def qlC:Obj:=Hd.oG "_law_rests" QI
def qe2:Obj:=Hd.oK "_law_rests" 472 129 1 181 206 207 .none (.ref 208) (.ref 209) 210 481 482
def qgV:Obj:=Hd.oF "_law_rests" QI (.str "law_bankwalk_k61_lanes_of_walks" 413) (.ref 211)
def qj8:Obj:=Hd.oG "_law_bits" ZC
def qfO:Obj:=Hd.oK "_law_bits" 484 137 2 181 213 214 .none .none .none 215 487 488
def qfS:Obj:=Hd.oF "_law_bits" ZC (.str "law_bankwalk_k61_lanes_of_walks" 413) (.ref 216)
def qls:Obj:=Hd.oG "_law_table" QF
def qgL:Obj:=Hd.oK "_law_table" 490 142 1 181 218 219 .none .none .none 220 493 494
def qfu:Obj:=Hd.oF "_law_table" QF (.str "law_bankwalk_k61_lanes_of_walks" 413) (.ref 221)
def qmV:Obj:=Hd.oG "_law_small" j9
def qeT:Obj:=Hd.oK "_law_small" 496 147 1 181 223 224 .none .none .none 225 499 500
def qgH:Obj:=Hd.oF "_law_small" j9 (.str "law_bankwalk_k61_lanes_of_walks" 413) (.ref 226)
def qlG:Obj:=Hd.oN YI 505
def qkb:Obj:=Hd.oG "_law_dealing" js
def qeV:Obj:=Hd.oK "_law_dealing" 502 165 1 181 228 229 .none (.ref 230) (.ref 231) 232 509 510
def qfc:Obj:=Hd.oF "_law_dealing" js (.str "law_bankwalk_k61_lanes_of_walks" 413) (.ref 233)
def qi8:Obj:=Hd.oG "_law_size" Q8
def qgB:Obj:=Hd.oK "_law_size" 512 182 1 181 235 236 .none .none .none 237 515 516
def qgu:Obj:=Hd.oF "_law_size" Q8 (.str "law_bankwalk_k61_lanes_of_walks" 413) (.ref 238)
def qmW:Obj:=Hd.oN CQ 521
def qm1:Obj:=Hd.oG "_law_odd" JL
def qfU:Obj:=Hd.oK "_law_odd" 518 192 1 181 240 241 .none (.ref 242) (.ref 243) 244 524 525
def qgG:Obj:=Hd.oF "_law_odd" JL (.str "law_bankwalk_k61_lanes_of_walks" 413) (.ref 245)
def qjT:Obj:=Hd.oG "_law_bank" ZD
def qeQ:Obj:=Hd.oK "_law_bank" 527 197 3 181 247 248 .none .none .none 249 530 531
def qeX:Obj:=Hd.oF "_law_bank" ZD (.str "law_bankwalk_k61_lanes_of_walks" 413) (.ref 250)
def qkN:Obj:=Hd.oN WX 536
def qk7:Obj:=Hd.oG "_law_many" QY
def qgW:Obj:=Hd.oK "_law_many" 533 210 1 181 252 253 .none (.ref 254) (.ref 255) 256 537 538
def qgS:Obj:=Hd.oF "_law_many" QY (.str "law_bankwalk_k61_lanes_of_walks" 413) (.ref 257)
def qlN:Obj:=Hd.oN D0 543
def qnx:Obj:=Hd.oG "_law_walk" Q6
def qgv:Obj:=Hd.oK "_law_walk" 540 212 1 181 259 260 .none (.ref 261) (.ref 262) 263 554 555
def qeZ:Obj:=Hd.oF "_law_walk" Q6 (.str "law_bankwalk_k61_lanes_of_walks" 413) (.ref 264)
def qk3:Obj:=Hd.oG "_law_cells" j5
def qf4:Obj:=Hd.oK "_law_cells" 557 231 1 181 266 267 .none .none .none 268 560 561
def qgk:Obj:=Hd.oF "_law_cells" j5 (.str "law_bankwalk_k61_lanes_of_walks" 413) (.ref 269)
def qj7:Obj:=Hd.oG "_law_starts" jP
def qfd:Obj:=Hd.oK "_law_starts" 563 241 2 181 271 272 .none .none .none 273 566 567
def qfA:Obj:=Hd.oF "_law_starts" jP (.str "law_bankwalk_k61_lanes_of_walks" 413) (.ref 274)
def qnq:Obj:=Hd.oG "_law_from" Q9
def qfT:Obj:=Hd.oK "_law_from" 569 249 3 181 276 277 .none .none .none 278 572 573
def qfI:Obj:=Hd.oF "_law_from" Q9 (.str "law_bankwalk_k61_lanes_of_walks" 413) (.ref 279)
def qjw:Obj:=Hd.oG "_law_same" Q0
def qfE:Obj:=Hd.oK "_law_same" 575 251 2 181 281 282 .none .none .none 283 578 579
def qfL:Obj:=Hd.oF "_law_same" Q0 (.str "law_bankwalk_k61_lanes_of_walks" 413) (.ref 284)
def qmG:Obj:=Hd.oN zP 584
def qi7:Obj:=Hd.oG "_law_clear_case" zC
def qgl:Obj:=Hd.oK "_law_clear_case" 581 259 1 181 286 287 .none (.ref 288) (.ref 289) 290 591 592
def qfo:Obj:=Hd.oF "_law_clear_case" zC (.str "law_bankwalk_k61_lanes_of_walks" 413) (.ref 291)
def qmL:Obj:=Hd.oG "_law_due" Z9
def qe5:Obj:=Hd.oK "_law_due" 594 269 3 181 293 294 .none .none .none 295 597 598
def qgE:Obj:=Hd.oF "_law_due" Z9 (.str "law_bankwalk_k61_lanes_of_walks" 413) (.ref 296)
def qkp:Obj:=Hd.oN qbY 603
def qnL:Obj:=Hd.oG "law" VF
def qfz:Obj:=Hd.oK "law" 600 275 1 181 298 299 .none (.ref 300) (.ref 301) 302 613 614
def qfa:Obj:=Hd.oF "law" VF (.str "law_bankwalk_k61_lanes_of_walks" 413) (.ref 303)
def qha (P:Params):PySem.W.BT:=(Hd.nd (PySem.W.boot_o_0 P) (Hd.nd (PySem.W.boot_o_1 P) (Hd.nd (qlb P) (Hd.nd (PySem.W.boot_o_7 P) (Hd.nd zc (Hd.nd qlD (Hd.nd qld (Hd.nd qmU (Hd.lf zc) .nil) (Hd.lf qfZ)) (Hd.nd jG (Hd.nd zc (Hd.lf jG) .nil) (Hd.lf zc))) (Hd.nd qjc (Hd.nd qlE (Hd.nd zc (Hd.lf zc) .nil) (Hd.lf jG)) (Hd.nd zc (Hd.nd qnf (Hd.lf qfz) .nil) (Hd.lf qgu)))) (Hd.nd jG (Hd.nd zc (Hd.nd zc (Hd.nd zc (Hd.lf qnx) .nil) (Hd.lf zc)) (Hd.nd qjn (Hd.nd zc (Hd.lf qmL) .nil) (Hd.lf zc))) (Hd.nd qi9 (Hd.nd qiy (Hd.nd qmN (Hd.lf qfT) .nil) (Hd.lf qj8)) (Hd.nd qib (Hd.lf qfx) (Hd.lf zc))))) (Hd.nd zc (Hd.nd qqf (Hd.nd qhL (Hd.nd qiC (Hd.nd jG (Hd.lf zc) .nil) (Hd.lf zc)) (Hd.nd qhI (Hd.nd qf3 (Hd.lf qgl) .nil) (Hd.lf qgH))) (Hd.nd (qlv P) (Hd.nd jG (Hd.nd zc (Hd.lf qfA) .nil) (Hd.lf qe2)) (Hd.nd (qiD P) (Hd.lf jG) (Hd.lf zc)))) (Hd.nd qh0 (Hd.nd zc (Hd.nd zc (Hd.nd qlg (Hd.lf jG) .nil) (Hd.lf qj9)) (Hd.nd qim (Hd.nd zc (Hd.lf jG) .nil) (Hd.lf zc))) (Hd.nd qmk (Hd.nd qkR (Hd.nd zc (Hd.lf qjw) .nil) (Hd.lf jG)) (Hd.nd qiv (Hd.lf qi6) (Hd.lf qeX)))))) (Hd.nd (PySem.W.boot_o_5 P) (Hd.nd (PySem.W.boot_o_9 P) (Hd.nd qqA (Hd.nd qke (Hd.nd qmO (Hd.nd qhM (Hd.lf qgW) .nil) (Hd.lf jG)) (Hd.nd zc (Hd.nd qpK (Hd.lf zc) .nil) (Hd.lf qmV))) (Hd.nd qlM (Hd.nd qii (Hd.nd qm4 (Hd.lf qj7) .nil) (Hd.lf zc)) (Hd.nd qit (Hd.lf qfG) (Hd.lf jG)))) (Hd.nd zc (Hd.nd ql1 (Hd.nd qg3 (Hd.nd qpu (Hd.lf qeZ) .nil) (Hd.lf qi1)) (Hd.nd qkY (Hd.nd qfy (Hd.lf qgE) .nil) (Hd.lf qeV))) (Hd.nd (qme P) (Hd.nd zc (Hd.nd jG (Hd.lf zc) .nil) (Hd.lf qfS)) (Hd.nd jG (Hd.lf zc) (Hd.lf qjT))))) (Hd.nd qoa (Hd.nd qiR (Hd.nd qd5 (Hd.nd jG (Hd.nd qkx (Hd.lf qlN) .nil) (Hd.lf qfi)) (Hd.nd zc (Hd.nd jG (Hd.lf zc) .nil) (Hd.lf jG))) (Hd.nd jG (Hd.nd zc (Hd.nd qoP (Hd.lf jG) .nil) (Hd.lf zc)) (Hd.nd qhv (Hd.lf zc) (Hd.lf qfU)))) (Hd.nd zc (Hd.nd qmq (Hd.nd qko (Hd.nd jG (Hd.lf qf4) .nil) (Hd.lf qfQ)) (Hd.nd jG (Hd.nd qlj (Hd.lf zc) .nil) (Hd.lf qi8))) (Hd.nd zc (Hd.nd qia (Hd.nd qkv (Hd.lf qfL) .nil) (Hd.lf qgL)) (Hd.nd zc (Hd.lf qnJ) (Hd.lf jG))))))) (Hd.nd (PySem.W.boot_o_2 P) (Hd.nd (PySem.W.boot_o_4 P) (Hd.nd (PySem.W.boot_o_8 P) (Hd.nd jG (Hd.nd zc (Hd.nd zc (Hd.nd qhg (Hd.lf qk7) .nil) (Hd.lf zc)) (Hd.nd qkX (Hd.nd jG (Hd.lf qmG) .nil) (Hd.lf jG))) (Hd.nd qlO (Hd.nd qhW (Hd.nd qpG (Hd.lf jG) .nil) (Hd.lf qjv)) (Hd.nd qjJ (Hd.nd qe1 (Hd.lf qfa) .nil) (Hd.lf zc)))) (Hd.nd qlH (Hd.nd jG (Hd.nd qjR (Hd.nd jG (Hd.lf qgv) .nil) (Hd.lf jG)) (Hd.nd zc (Hd.nd qjo (Hd.lf qe5) .nil) (Hd.lf qkb))) (Hd.nd zc (Hd.nd qiu (Hd.nd zc (Hd.lf qfI) .nil) (Hd.lf qfO)) (Hd.nd zc (Hd.lf qfh) (Hd.lf jG))))) (Hd.nd qpk (Hd.nd qox (Hd.nd qmJ (Hd.nd zc (Hd.nd qou (Hd.lf jG) .nil) (Hd.lf qlq)) (Hd.nd qhh (Hd.nd zc (Hd.lf qfo) .nil) (Hd.lf zc))) (Hd.nd zc (Hd.nd qmp (Hd.nd jG (Hd.lf zc) .nil) (Hd.lf qgV)) (Hd.nd qhB (Hd.lf qkr) (Hd.lf qm1)))) (Hd.nd qhV (Hd.nd (qmh P) (Hd.nd jG (Hd.nd zc (Hd.lf qk3) .nil) (Hd.lf qgN)) (Hd.nd zc (Hd.nd jG (Hd.lf qkp) .nil) (Hd.lf jG))) (Hd.nd qm2 (Hd.nd qio (Hd.nd qpX (Hd.lf qfE) .nil) (Hd.lf qls)) (Hd.nd qig (Hd.lf zc) (Hd.lf zc)))))) (Hd.nd (PySem.W.boot_o_6 P) (Hd.nd (PySem.W.boot_o_10 P) (Hd.nd zc (Hd.nd qhZ (Hd.nd qiK (Hd.nd zc (Hd.lf qgS) .nil) (Hd.lf qlh)) (Hd.nd qjS (Hd.nd qmE (Hd.lf qi7) .nil) (Hd.lf qeT))) (Hd.nd qd5 (Hd.nd zc (Hd.nd qjj (Hd.lf qfd) .nil) (Hd.lf qlC)) (Hd.nd qiO (Hd.lf zc) (Hd.lf qmW)))) (Hd.nd qkL (Hd.nd qk9 (Hd.nd qh9 (Hd.nd qns (Hd.lf zc) .nil) (Hd.lf zc)) (Hd.nd qgY (Hd.nd qf1 (Hd.lf zc) .nil) (Hd.lf qfc))) (Hd.nd qlA (Hd.nd jG (Hd.nd qor (Hd.lf jG) .nil) (Hd.lf zc)) (Hd.nd qmD (Hd.lf jG) (Hd.lf qeQ))))) (Hd.nd qnU (Hd.nd zc (Hd.nd (qnd P) (Hd.nd qjF (Hd.nd qmA (Hd.lf zc) .nil) (Hd.lf qe9)) (Hd.nd jG (Hd.nd qjp (Hd.lf jG) .nil) (Hd.lf qlG))) (Hd.nd qjf (Hd.nd qmv (Hd.nd qj2 (Hd.lf qnq) .nil) (Hd.lf jG)) (Hd.nd qhO (Hd.lf qkg) (Hd.lf qgG)))) (Hd.nd jG (Hd.nd qj0 (Hd.nd zc (Hd.nd qpT (Hd.lf qgk) .nil) (Hd.lf zc)) (Hd.nd qku (Hd.nd zc (Hd.lf qnL) .nil) (Hd.lf qgB))) (Hd.nd jG (Hd.nd zc (Hd.nd qmw (Hd.lf zc) .nil) (Hd.lf qfu)) (Hd.nd jG (Hd.lf qfB) (Hd.lf qkN))))))))
abbrev qgz:List Stmt:=(qbO.drop 20).take 32
set_option maxRecDepth 100000 in
set_option maxHeartbeats 0 in
theorem qni (w : World) (os : OsState) : PySem.W.segRunT treeTable PySem.Challenge.pw_bankwalk_k61_lanes_of_walks w 11 (some (Value.ref 6)) 1 880 (⟨qjN w.params,130,{ },#[],{ },368,os⟩ : PySem.W.SharedT) (PySem.W.piecesOf qgz qmK T0 ⟨68,0,77,39⟩ qk2) = some (.next,(⟨qha w.params,305,{ },#[],{ },616,os⟩ : PySem.W.SharedT),T0,⟨275,0,285,15⟩) := by kernel_rfl
abbrev qiw (P:Params):Heap:=PySem.W.absHeap (qha P) 305 { }
def Kf (P:Params):PySem.W.Frag:=[(3,qlb P),(20,qox),(21,qiR),(27,qh0),(28,qhV),(34,qhZ),(35,qhL),(66,qiK),(67,qiC),(73,qg3),(74,qh9),(80,qhW),(81,qii),(87,qiy),(88,qiu),(92,qio),(93,qia),(99,qhI),(100,qhh),(106,qgY),(107,qim),(113,qit),(114,qiO),(115,qiD P),(116,qhB),(117,qhv),(118,qhO),(119,qib),(123,qiv),(124,qig),(128,qhg),(129,qhM),(133,qkx),(134,qmA),(138,qns),(139,qlg),(145,qm4),(146,qjj),(150,qj2),(151,qmN),(157,qkv),(158,qmw),(162,qmE),(163,qf3),(169,qfy),(170,qf1),(176,qe1),(177,qfG),(183,qfx),(184,qfh),(190,qfB),(191,qfZ),(197,qfi),(198,qe9),(204,qgN),(205,qfQ),(211,qe2),(212,qgV),(216,qfO),(217,qfS),(221,qgL),(222,qfu),(226,qeT),(227,qgH),(233,qeV),(234,qfc),(238,qgB),(239,qgu),(245,qfU),(246,qgG),(250,qeQ),(251,qeX),(257,qgW),(258,qgS),(264,qgv),(265,qeZ),(269,qf4),(270,qgk),(274,qfd),(275,qfA),(279,qfT),(280,qfI),(284,qfE),(285,qfL),(291,qgl),(292,qfo),(296,qe5),(297,qgE),(303,qfz),(304,qfa)]
theorem qi4 {l:PySem.W.OpenLaw} {w:World} {h:Heap} {mg:Str->Option Value} {fa:Addr} (X:(Kf w.params).In h) (G:h.Ns mainGlobals mg) (hfa:mg "law" = some (.ref fa)) :
  ∃ fd:FuncData,(∀ (s:Shared) (v:Value),BindsTo s fd ⟨[v],[]⟩ [("_law_script",v)])/\∀ base:Heap,(Kf w.params).In base->base.Ns mainGlobals mg->FnOk l.prog w (Kf w.params) mg base CX0 10 fa fd ["_law_script"] (lSp (Kf w.params) SL):=by
 have e:=hfa.symm.trans (Hd.zw X G "law" (.ref 304) (by kernel_rfl))
 cases e
 have F0:=Hd.zx (K:=Kf w.params) "is_number" QC 21 (.str "bankwalk.basics" 187) (.ref 20) (by kernel_rfl) (by kernel_rfl) (by kernel_rfl)
 have b0:=F0.binds (ps:=EG) fun _ _ _ _ _ _ us hl=>by obtain ⟨_,rfl⟩:=Pu.TW hl;rfl
 have m0:=Hd.zw X G "is_number" (.ref 21) (by kernel_rfl)
 have F1:=Hd.zx (K:=Kf w.params) "is_pair" JE 28 (.str "bankwalk.basics" 187) (.ref 27) (by kernel_rfl) (by kernel_rfl) (by kernel_rfl)
 have b1:=F1.binds (ps:=RE) fun _ _ _ _ _ _ us hl=>by obtain ⟨_,rfl⟩:=Pu.TW hl;rfl
 have m1:=Hd.zw X G "is_pair" (.ref 28) (by kernel_rfl)
 have F2:=Hd.zx (K:=Kf w.params) "first_alike" jq 35 (.str "bankwalk.basics" 187) (.ref 34) (by kernel_rfl) (by kernel_rfl) (by kernel_rfl)
 have b2:=F2.binds (ps:=JY) fun _ _ _ _ _ _ us hl=>by obtain ⟨_,rfl⟩:=Pu.TW hl;rfl
 have m2:=Hd.zw X G "first_alike" (.ref 35) (by kernel_rfl)
 have F3:=Hd.zx (K:=Kf w.params) "size_of" JB 67 (.str "bankwalk.dealings" 248) (.ref 66) (by kernel_rfl) (by kernel_rfl) (by kernel_rfl)
 have b3:=F3.binds (ps:=RQ) fun _ _ _ _ _ _ us hl=>by obtain ⟨_,rfl⟩:=Pu.TW hl;rfl
 have m3:=Hd.zw X G "size_of" (.ref 67) (by kernel_rfl)
 have F4:=Hd.zx (K:=Kf w.params) "number_of" QA 74 (.str "bankwalk.dealings" 248) (.ref 73) (by kernel_rfl) (by kernel_rfl) (by kernel_rfl)
 have b4:=F4.binds (ps:=EH) fun _ _ _ _ _ _ us hl=>by obtain ⟨_,_,rfl⟩:=Pu.qaG hl;rfl
 have m4:=Hd.zw X G "number_of" (.ref 74) (by kernel_rfl)
 have F5:=Hd.zx (K:=Kf w.params) "is_word" JC 81 (.str "bankwalk.dealings" 248) (.ref 80) (by kernel_rfl) (by kernel_rfl) (by kernel_rfl)
 have b5:=F5.binds (ps:=RN) fun _ _ _ _ _ _ us hl=>by obtain ⟨_,_,rfl⟩:=Pu.qaG hl;rfl
 have m5:=Hd.zw X G "is_word" (.ref 81) (by kernel_rfl)
 have F6:=Hd.zx (K:=Kf w.params) "odd_in_common" zQ 88 (.str "bankwalk.dealings" 248) (.ref 87) (by kernel_rfl) (by kernel_rfl) (by kernel_rfl)
 have b6:=F6.binds (ps:=Q1) fun _ _ _ _ _ _ us hl=>by obtain ⟨_,_,rfl⟩:=Pu.qaG hl;rfl
 have m6:=Hd.zw X G "odd_in_common" (.ref 88) (by kernel_rfl)
 have F7:=Hd.zx (K:=Kf w.params) "bits_bank" QE 93 (.str "bankwalk.dealings" 248) (.ref 92) (by kernel_rfl) (by kernel_rfl) (by kernel_rfl)
 have b7:=F7.binds (ps:=U3) fun _ _ _ _ _ _ us hl=>by obtain ⟨_,_,rfl⟩:=Pu.qaG hl;rfl
 have m7:=Hd.zw X G "bits_bank" (.ref 93) (by kernel_rfl)
 have F8:=Hd.zx (K:=Kf w.params) "parted" Y8 100 (.str "bankwalk.dealings" 248) (.ref 99) (by kernel_rfl) (by kernel_rfl) (by kernel_rfl)
 have b8:=F8.binds (ps:=KC) fun _ _ _ _ _ _ us hl=>by obtain ⟨_,_,_,rfl⟩:=Pu.qdD hl;rfl
 have m8:=Hd.zw X G "parted" (.ref 100) (by kernel_rfl)
 have F9:=Hd.zx (K:=Kf w.params) "joined_bank" jo 107 (.str "bankwalk.dealings" 248) (.ref 106) (by kernel_rfl) (by kernel_rfl) (by kernel_rfl)
 have b9:=F9.binds (ps:=YO) fun _ _ _ _ _ _ us hl=>by obtain ⟨_,_,_,rfl⟩:=Pu.qdD hl;rfl
 have m9:=Hd.zw X G "joined_bank" (.ref 107) (by kernel_rfl)
 have F10:=Hd.zx (K:=Kf w.params) "bank_in" JA 114 (.str "bankwalk.dealings" 248) (.ref 113) (by kernel_rfl) (by kernel_rfl) (by kernel_rfl)
 have b10:=F10.binds (ps:=RB) fun _ _ _ _ _ _ us hl=>by obtain ⟨_,_,rfl⟩:=Pu.qaG hl;rfl
 have m10:=Hd.zw X G "bank_in" (.ref 114) (by kernel_rfl)
 have F11:=Hd.zx (K:=Kf w.params) "strung" Y7 124 (.str "bankwalk.walks" 336) (.ref 123) (by kernel_rfl) (by kernel_rfl) (by kernel_rfl)
 have b11:=F11.binds (ps:=S5) fun _ _ _ _ _ _ us hl=>by obtain ⟨_,_,_,rfl⟩:=Pu.qdD hl;rfl
 have m11:=Hd.zw X G "strung" (.ref 124) (by kernel_rfl)
 have F12:=Hd.zx (K:=Kf w.params) "cells_of" ZH 129 (.str "bankwalk.walks" 336) (.ref 128) (by kernel_rfl) (by kernel_rfl) (by kernel_rfl)
 have b12:=F12.binds (ps:=W0) fun _ _ _ _ _ _ us hl=>by obtain ⟨_,rfl⟩:=Pu.TW hl;rfl
 have m12:=Hd.zw X G "cells_of" (.ref 129) (by kernel_rfl)
 have F13:=Hd.zx (K:=Kf w.params) "shifted" JK 134 (.str "bankwalk.walks" 336) (.ref 133) (by kernel_rfl) (by kernel_rfl) (by kernel_rfl)
 have b13:=F13.binds (ps:=C2) fun _ _ _ _ _ _ us hl=>by obtain ⟨_,_,rfl⟩:=Pu.qaG hl;rfl
 have m13:=Hd.zw X G "shifted" (.ref 134) (by kernel_rfl)
 have F14:=Hd.zx (K:=Kf w.params) "is_start" ZG 139 (.str "bankwalk.walks" 336) (.ref 138) (by kernel_rfl) (by kernel_rfl) (by kernel_rfl)
 have b14:=F14.binds (ps:=WW) fun _ _ _ _ _ _ us hl=>by obtain ⟨_,_,_,rfl⟩:=Pu.qdD hl;rfl
 have m14:=Hd.zw X G "is_start" (.ref 139) (by kernel_rfl)
 have F15:=Hd.zx (K:=Kf w.params) "words_of" Q2 146 (.str "bankwalk.walks" 336) (.ref 145) (by kernel_rfl) (by kernel_rfl) (by kernel_rfl)
 have b15:=F15.binds (ps:=W9) fun _ _ _ _ _ _ us hl=>by obtain ⟨_,_,_,rfl⟩:=Pu.qdD hl;rfl
 have m15:=Hd.zw X G "words_of" (.ref 146) (by kernel_rfl)
 have F16:=Hd.zx (K:=Kf w.params) "banks_from" jL 151 (.str "bankwalk.clashes" 389) (.ref 150) (by kernel_rfl) (by kernel_rfl) (by kernel_rfl)
 have b16:=F16.binds (ps:=VI) fun _ _ _ _ _ _ us hl=>by obtain ⟨_,_,_,rfl⟩:=Pu.qdD hl;rfl
 have m16:=Hd.zw X G "banks_from" (.ref 151) (by kernel_rfl)
 have F17:=Hd.zx (K:=Kf w.params) "lanes_for" QG 158 (.str "bankwalk.lanes" 397) (.ref 157) (by kernel_rfl) (by kernel_rfl) (by kernel_rfl)
 have b17:=F17.binds (ps:=UU) fun _ _ _ _ _ _ us hl=>by obtain ⟨_,rfl⟩:=Pu.TW hl;rfl
 have m17:=Hd.zw X G "lanes_for" (.ref 158) (by kernel_rfl)
 have F18:=Hd.zx (K:=Kf w.params) "lanes_of" ZI 163 (.str "bankwalk.lanes" 397) (.ref 162) (by kernel_rfl) (by kernel_rfl) (by kernel_rfl)
 have b18:=F18.binds (ps:=W7) fun _ _ _ _ _ _ us hl=>by obtain ⟨_,_,_,rfl⟩:=Pu.qdD hl;rfl
 have m18:=Hd.zw X G "lanes_of" (.ref 163) (by kernel_rfl)
 have F19:=Hd.zx (K:=Kf w.params) "_law_mix" JH 170 (.str "law_bankwalk_k61_lanes_of_walks" 413) (.ref 169) (by kernel_rfl) (by kernel_rfl) (by kernel_rfl)
 have b19:=F19.binds (ps:=CD) fun _ _ _ _ _ _ us hl=>by obtain ⟨_,_,rfl⟩:=Pu.qaG hl;rfl
 have m19:=Hd.zw X G "_law_mix" (.ref 170) (by kernel_rfl)
 have F20:=Hd.zx (K:=Kf w.params) "_law_left" ZL 177 (.str "law_bankwalk_k61_lanes_of_walks" 413) (.ref 176) (by kernel_rfl) (by kernel_rfl) (by kernel_rfl)
 have b20:=F20.binds (ps:=WM) fun _ _ _ _ _ _ us hl=>by obtain ⟨_,_,rfl⟩:=Pu.qaG hl;rfl
 have m20:=Hd.zw X G "_law_left" (.ref 177) (by kernel_rfl)
 have F21:=Hd.zx (K:=Kf w.params) "_law_pick" ZM 184 (.str "law_bankwalk_k61_lanes_of_walks" 413) (.ref 183) (by kernel_rfl) (by kernel_rfl) (by kernel_rfl)
 have b21:=F21.binds (ps:=WC) fun _ _ _ _ _ _ us hl=>by obtain ⟨_,_,rfl⟩:=Pu.qaG hl;rfl
 have m21:=Hd.zw X G "_law_pick" (.ref 184) (by kernel_rfl)
 have F22:=Hd.zx (K:=Kf w.params) "_law_sides" QH 191 (.str "law_bankwalk_k61_lanes_of_walks" 413) (.ref 190) (by kernel_rfl) (by kernel_rfl) (by kernel_rfl)
 have b22:=F22.binds (ps:=UX) fun _ _ _ _ _ _ us hl=>by obtain ⟨_,rfl⟩:=Pu.TW hl;rfl
 have m22:=Hd.zw X G "_law_sides" (.ref 191) (by kernel_rfl)
 have F23:=Hd.zx (K:=Kf w.params) "_law_gcd" JO 198 (.str "law_bankwalk_k61_lanes_of_walks" 413) (.ref 197) (by kernel_rfl) (by kernel_rfl) (by kernel_rfl)
 have b23:=F23.binds (ps:=C1) fun _ _ _ _ _ _ us hl=>by obtain ⟨_,_,rfl⟩:=Pu.qaG hl;rfl
 have m23:=Hd.zw X G "_law_gcd" (.ref 198) (by kernel_rfl)
 have F24:=Hd.zx (K:=Kf w.params) "_law_skew" Q5 205 (.str "law_bankwalk_k61_lanes_of_walks" 413) (.ref 204) (by kernel_rfl) (by kernel_rfl) (by kernel_rfl)
 have b24:=F24.binds (ps:=W2) fun _ _ _ _ _ _ us hl=>by obtain ⟨_,rfl⟩:=Pu.TW hl;rfl
 have m24:=Hd.zw X G "_law_skew" (.ref 205) (by kernel_rfl)
 have F25:=Hd.zx (K:=Kf w.params) "_law_rests" QI 212 (.str "law_bankwalk_k61_lanes_of_walks" 413) (.ref 211) (by kernel_rfl) (by kernel_rfl) (by kernel_rfl)
 have b25:=F25.binds (ps:=UV) fun _ _ _ _ _ _ us hl=>by obtain ⟨_,rfl⟩:=Pu.TW hl;rfl
 have m25:=Hd.zw X G "_law_rests" (.ref 212) (by kernel_rfl)
 have F26:=Hd.zx (K:=Kf w.params) "_law_bits" ZC 217 (.str "law_bankwalk_k61_lanes_of_walks" 413) (.ref 216) (by kernel_rfl) (by kernel_rfl) (by kernel_rfl)
 have b26:=F26.binds (ps:=WL) fun _ _ _ _ _ _ us hl=>by obtain ⟨_,_,rfl⟩:=Pu.qaG hl;rfl
 have m26:=Hd.zw X G "_law_bits" (.ref 217) (by kernel_rfl)
 have F27:=Hd.zx (K:=Kf w.params) "_law_table" QF 222 (.str "law_bankwalk_k61_lanes_of_walks" 413) (.ref 221) (by kernel_rfl) (by kernel_rfl) (by kernel_rfl)
 have b27:=F27.binds (ps:=EI) fun _ _ _ _ _ _ us hl=>by obtain ⟨_,rfl⟩:=Pu.TW hl;rfl
 have m27:=Hd.zw X G "_law_table" (.ref 222) (by kernel_rfl)
 have F28:=Hd.zx (K:=Kf w.params) "_law_small" j9 227 (.str "law_bankwalk_k61_lanes_of_walks" 413) (.ref 226) (by kernel_rfl) (by kernel_rfl) (by kernel_rfl)
 have b28:=F28.binds (ps:=EC) fun _ _ _ _ _ _ us hl=>by obtain ⟨_,rfl⟩:=Pu.TW hl;rfl
 have m28:=Hd.zw X G "_law_small" (.ref 227) (by kernel_rfl)
 have F29:=Hd.zx (K:=Kf w.params) "_law_dealing" js 234 (.str "law_bankwalk_k61_lanes_of_walks" 413) (.ref 233) (by kernel_rfl) (by kernel_rfl) (by kernel_rfl)
 have b29:=F29.binds (ps:=YA) fun _ _ _ _ _ _ us hl=>by obtain ⟨_,rfl⟩:=Pu.TW hl;rfl
 have m29:=Hd.zw X G "_law_dealing" (.ref 234) (by kernel_rfl)
 have F30:=Hd.zx (K:=Kf w.params) "_law_size" Q8 239 (.str "law_bankwalk_k61_lanes_of_walks" 413) (.ref 238) (by kernel_rfl) (by kernel_rfl) (by kernel_rfl)
 have b30:=F30.binds (ps:=D8) fun _ _ _ _ _ _ us hl=>by obtain ⟨_,rfl⟩:=Pu.TW hl;rfl
 have m30:=Hd.zw X G "_law_size" (.ref 239) (by kernel_rfl)
 have F31:=Hd.zx (K:=Kf w.params) "_law_odd" JL 246 (.str "law_bankwalk_k61_lanes_of_walks" 413) (.ref 245) (by kernel_rfl) (by kernel_rfl) (by kernel_rfl)
 have b31:=F31.binds (ps:=RC) fun _ _ _ _ _ _ us hl=>by obtain ⟨_,rfl⟩:=Pu.TW hl;rfl
 have m31:=Hd.zw X G "_law_odd" (.ref 246) (by kernel_rfl)
 have F32:=Hd.zx (K:=Kf w.params) "_law_bank" ZD 251 (.str "law_bankwalk_k61_lanes_of_walks" 413) (.ref 250) (by kernel_rfl) (by kernel_rfl) (by kernel_rfl)
 have b32:=F32.binds (ps:=WS) fun _ _ _ _ _ _ us hl=>by obtain ⟨_,_,_,rfl⟩:=Pu.qdD hl;rfl
 have m32:=Hd.zw X G "_law_bank" (.ref 251) (by kernel_rfl)
 have F33:=Hd.zx (K:=Kf w.params) "_law_many" QY 258 (.str "law_bankwalk_k61_lanes_of_walks" 413) (.ref 257) (by kernel_rfl) (by kernel_rfl) (by kernel_rfl)
 have b33:=F33.binds (ps:=WN) fun _ _ _ _ _ _ us hl=>by obtain ⟨_,rfl⟩:=Pu.TW hl;rfl
 have m33:=Hd.zw X G "_law_many" (.ref 258) (by kernel_rfl)
 have F34:=Hd.zx (K:=Kf w.params) "_law_walk" Q6 265 (.str "law_bankwalk_k61_lanes_of_walks" 413) (.ref 264) (by kernel_rfl) (by kernel_rfl) (by kernel_rfl)
 have b34:=F34.binds (ps:=WD) fun _ _ _ _ _ _ us hl=>by obtain ⟨_,rfl⟩:=Pu.TW hl;rfl
 have m34:=Hd.zw X G "_law_walk" (.ref 265) (by kernel_rfl)
 have F35:=Hd.zx (K:=Kf w.params) "_law_cells" j5 270 (.str "law_bankwalk_k61_lanes_of_walks" 413) (.ref 269) (by kernel_rfl) (by kernel_rfl) (by kernel_rfl)
 have b35:=F35.binds (ps:=U1) fun _ _ _ _ _ _ us hl=>by obtain ⟨_,rfl⟩:=Pu.TW hl;rfl
 have m35:=Hd.zw X G "_law_cells" (.ref 270) (by kernel_rfl)
 have F36:=Hd.zx (K:=Kf w.params) "_law_starts" jP 275 (.str "law_bankwalk_k61_lanes_of_walks" 413) (.ref 274) (by kernel_rfl) (by kernel_rfl) (by kernel_rfl)
 have b36:=F36.binds (ps:=Y5) fun _ _ _ _ _ _ us hl=>by obtain ⟨_,_,rfl⟩:=Pu.qaG hl;rfl
 have m36:=Hd.zw X G "_law_starts" (.ref 275) (by kernel_rfl)
 have F37:=Hd.zx (K:=Kf w.params) "_law_from" Q9 280 (.str "law_bankwalk_k61_lanes_of_walks" 413) (.ref 279) (by kernel_rfl) (by kernel_rfl) (by kernel_rfl)
 have b37:=F37.binds (ps:=WV) fun _ _ _ _ _ _ us hl=>by obtain ⟨_,_,_,rfl⟩:=Pu.qdD hl;rfl
 have m37:=Hd.zw X G "_law_from" (.ref 280) (by kernel_rfl)
 have F38:=Hd.zx (K:=Kf w.params) "_law_same" Q0 285 (.str "law_bankwalk_k61_lanes_of_walks" 413) (.ref 284) (by kernel_rfl) (by kernel_rfl) (by kernel_rfl)
 have b38:=F38.binds (ps:=W4) fun _ _ _ _ _ _ us hl=>by obtain ⟨_,_,rfl⟩:=Pu.qaG hl;rfl
 have m38:=Hd.zw X G "_law_same" (.ref 285) (by kernel_rfl)
 have F39:=Hd.zx (K:=Kf w.params) "_law_clear_case" zC 292 (.str "law_bankwalk_k61_lanes_of_walks" 413) (.ref 291) (by kernel_rfl) (by kernel_rfl) (by kernel_rfl)
 have b39:=F39.binds (ps:=QK) fun _ _ _ _ _ _ us hl=>by obtain ⟨_,rfl⟩:=Pu.TW hl;rfl
 have m39:=Hd.zw X G "_law_clear_case" (.ref 292) (by kernel_rfl)
 have F40:=Hd.zx (K:=Kf w.params) "_law_due" Z9 297 (.str "law_bankwalk_k61_lanes_of_walks" 413) (.ref 296) (by kernel_rfl) (by kernel_rfl) (by kernel_rfl)
 have b40:=F40.binds (ps:=C7) fun _ _ _ _ _ _ us hl=>by obtain ⟨_,_,_,rfl⟩:=Pu.qdD hl;rfl
 have m40:=Hd.zw X G "_law_due" (.ref 297) (by kernel_rfl)
 have F41:=Hd.zx (K:=Kf w.params) "law" VF 304 (.str "law_bankwalk_k61_lanes_of_walks" 413) (.ref 303) (by kernel_rfl) (by kernel_rfl) (by kernel_rfl)
 have g_isinstance:=Hd.UJ X G "isinstance" (by kernel_rfl)
 have g_bool:=Hd.UJ X G "bool" (by kernel_rfl)
 have g_int:=Hd.UJ X G "int" (by kernel_rfl)
 have g_len:=Hd.UJ X G "len" (by kernel_rfl)
 have g_tuple:=Hd.UJ X G "tuple" (by kernel_rfl)
 have g_range:=Hd.UJ X G "range" (by kernel_rfl)
 have g_enumerate:=Hd.UJ X G "enumerate" (by kernel_rfl)
 have g_sum:=Hd.UJ X G "sum" (by kernel_rfl)
 have g_list:=Hd.UJ X G "list" (by kernel_rfl)
 have g_STRIDES:Tb (Kf w.params) mg w "STRIDES" DG:=⟨115,_,4,Hd.zw X G "STRIDES" (.ref 115) (by kernel_rfl),(show (Kf w.params).lookup 115=some ⟨.type "dict",none,.dict #[⟨PyData.keyHash w.params "row",.str "row" 338,.ref 116⟩,⟨PyData.keyHash w.params "column",.str "column" 341,.ref 117⟩,⟨PyData.keyHash w.params "slant",.str "slant" 344,.ref 118⟩,⟨PyData.keyHash w.params "back",.str "back" 347,.ref 119⟩] 4,#[]⟩ by kernel_rfl),rfl,(.cons (v:=.ref 116) rfl (qap (show (Kf w.params).lookup 116=some ⟨.type "tuple",none,.seq #[.int (0) 339,.int (1) 340] 0,#[]⟩ by kernel_rfl)) (.cons (v:=.ref 117) rfl (qap (show (Kf w.params).lookup 117=some ⟨.type "tuple",none,.seq #[.int (1) 342,.int (0) 343] 0,#[]⟩ by kernel_rfl)) (.cons (v:=.ref 118) rfl (qap (show (Kf w.params).lookup 118=some ⟨.type "tuple",none,.seq #[.int (1) 345,.int (1) 346] 0,#[]⟩ by kernel_rfl)) (.cons (v:=.ref 119) rfl (qap (show (Kf w.params).lookup 119=some ⟨.type "tuple",none,.seq #[.int (1) 348,.int (-1) 350] 0,#[]⟩ by kernel_rfl)) .nil))))⟩
 have g_all:=Hd.UJ X G "all" (by kernel_rfl)
 have g_abs:=Hd.UJ X G "abs" (by kernel_rfl)
 have g_zip:=Hd.UJ X G "zip" (by kernel_rfl)
 have g_min:=Hd.UJ X G "min" (by kernel_rfl)
 have g_max:=Hd.UJ X G "max" (by kernel_rfl)
 have g_str:=Hd.UJ X G "str" (by kernel_rfl)
 have g_set:=Hd.UJ X G "set" (by kernel_rfl)
 refine ⟨PySem.W.fnOf "law" "law" (YB VF) (jQ VF) (qi VF) .none .none .none (.str "law_bankwalk_k61_lanes_of_walks" 413) none (.ref 303) .none,fun s v=>.of_eq rfl,fun base _ _=>?_⟩
 have O_is_number:=KK (P:=l.prog) (w:=w) (base:=base) (k:=0) F0 b0 m0  g_isinstance g_bool g_int LP
 have O_is_pair:=qaM (P:=l.prog) (w:=w) (base:=base) (k:=1) F1 b1 m1 O_is_number g_len g_isinstance g_tuple qbi
 have O_first_alike:=R5 (P:=l.prog) (w:=w) (base:=base) (k:=0) F2 b2 m2  g_len g_range Pv.SA
 have O_odd_in_common:=XT (P:=l.prog) (w:=w) (base:=base) (k:=0) F6 b6 m6   XW
 have O_bits_bank:=KU (P:=l.prog) (w:=w) (base:=base) (k:=1) F7 b7 m7 O_odd_in_common g_enumerate g_sum LL
 have O_parted:=qda (P:=l.prog) (w:=w) (base:=base) (k:=0) F8 b8 m8   qcY
 have O_strung:=qb3 (P:=l.prog) (w:=w) (base:=base) (k:=0) F11 b11 m11  g_range Pv.qcf
 have O_cells_of:=MI (P:=l.prog) (w:=w) (base:=base) (k:=1) F12 b12 m12 O_strung g_list g_range g_STRIDES Pv.MW
 have O_shifted:=qaO (P:=l.prog) (w:=w) (base:=base) (k:=2) F13 b13 m13 O_cells_of  qbq
 have O_lanes_for:=LD (P:=l.prog) (w:=w) (base:=base) (k:=0) F17 b17 m17   LA
 have O_law_mix:=qaP (P:=l.prog) (w:=w) (base:=base) (k:=0) F19 b19 m19   qa0
 have O_law_left:=MZ (P:=l.prog) (w:=w) (base:=base) (k:=0) F20 b20 m20  g_len g_abs M2
 have O_law_pick:=NT (P:=l.prog) (w:=w) (base:=base) (k:=1) F21 b21 m21 O_law_mix  M5
 have O_law_sides:=K9 (P:=l.prog) (w:=w) (base:=base) (k:=2) F22 b22 m22 O_law_pick  KY
 have O_law_gcd:=qbk (P:=l.prog) (w:=w) (base:=base) (k:=0) F23 b23 m23   qbm
 have O_law_skew:=NI (P:=l.prog) (w:=w) (base:=base) (k:=3) F24 b24 m24 O_law_sides (O_law_pick.mono (by decide))  NO
 have O_law_rests:=LB (P:=l.prog) (w:=w) (base:=base) (k:=3) F25 b25 m25 O_law_sides (O_law_pick.mono (by decide)) (O_law_gcd.mono (by decide)) g_range LM
 have O_law_bits:=NP (P:=l.prog) (w:=w) (base:=base) (k:=2) F26 b26 m26 O_law_pick g_range g_tuple M1
 have O_law_table:=LO (P:=l.prog) (w:=w) (base:=base) (k:=3) F27 b27 m27 O_law_sides (O_law_pick.mono (by decide)) g_range g_tuple K3
 have O_law_small:=K6 (P:=l.prog) (w:=w) (base:=base) (k:=2) F28 b28 m28 O_law_pick (O_law_gcd.mono (by decide)) g_range g_tuple LS
 have O_law_dealing:=RW (P:=l.prog) (w:=w) (base:=base) (k:=4) F29 b29 m29 (O_law_pick.mono (by decide)) O_law_skew O_law_rests (O_law_bits.mono (by decide)) O_law_table (O_law_small.mono (by decide))  R9
 have O_law_odd:=qaN (P:=l.prog) (w:=w) (base:=base) (k:=0) F31 b31 m31  g_range qa6
 have O_law_many:=MJ (P:=l.prog) (w:=w) (base:=base) (k:=2) F33 b33 m33 O_law_pick  NX
 have O_law_walk:=NN (P:=l.prog) (w:=w) (base:=base) (k:=3) F34 b34 m34 (O_law_pick.mono (by decide)) O_law_many g_int g_range g_tuple NW
 have O_law_cells:=L0 (P:=l.prog) (w:=w) (base:=base) (k:=0) F35 b35 m35  g_list g_range LG
 have O_size_of_0:=DI (P:=l.prog) (w:=w) (base:=base) F3 b3 m3
 have O_size_of_1:=WY (P:=l.prog) (w:=w) (base:=base) (k:=0) F3 b3 m3 O_size_of_0 g_len (W5 0)
 have O_size_of_2:=WY (P:=l.prog) (w:=w) (base:=base) (k:=1) F3 b3 m3 O_size_of_1 g_len (W5 1)
 have O_size_of_3:=WY (P:=l.prog) (w:=w) (base:=base) (k:=2) F3 b3 m3 O_size_of_2 g_len (W5 2)
 have O_is_word:=qbg (P:=l.prog) (w:=w) (base:=base) (k:=3) F5 b5 m5 (O_is_pair.mono (by decide)) O_size_of_3  qbe
 have O_is_start:=NC (P:=l.prog) (w:=w) (base:=base) (k:=4) F14 b14 m14 (O_shifted.mono (by decide)) O_is_word (O_is_pair.mono (by decide)) g_all M6
 have O_words_of:=MT (P:=l.prog) (w:=w) (base:=base) (k:=5) F15 b15 m15 O_is_start (O_shifted.mono (by decide))  NF
 have O_number_of_0:=VM (P:=l.prog) (w:=w) (base:=base) (k:=1) F4 b4 m4 O_size_of_1  (VH 0)
 have O_number_of_1:=VM (P:=l.prog) (w:=w) (base:=base) (k:=2) F4 b4 m4 O_size_of_2  (VH 1)
 have O_number_of_2:=VM (P:=l.prog) (w:=w) (base:=base) (k:=3) F4 b4 m4 O_size_of_3  (VH 2)
 have O_bank_in_0:=DI (P:=l.prog) (w:=w) (base:=base) F10 b10 m10
 have O_joined_bank_0:=Z6 (P:=l.prog) (w:=w) (base:=base) (k:=1) F9 b9 m9 O_size_of_1 O_parted (O_bank_in_0.mono (by decide))  (Z3 0)
 have O_bank_in_1:=WI (P:=l.prog) (w:=w) (base:=base) (k:=2) F10 b10 m10 O_number_of_0 O_bits_bank O_joined_bank_0  (DZ 0)
 have O_joined_bank_1:=Z6 (P:=l.prog) (w:=w) (base:=base) (k:=3) F9 b9 m9 (O_size_of_2.mono (by decide)) (O_parted.mono (by decide)) O_bank_in_1  (Z3 1)
 have O_bank_in_2:=WI (P:=l.prog) (w:=w) (base:=base) (k:=4) F10 b10 m10 (O_number_of_1.mono (by decide)) (O_bits_bank.mono (by decide)) O_joined_bank_1  (DZ 1)
 have O_joined_bank_2:=Z6 (P:=l.prog) (w:=w) (base:=base) (k:=5) F9 b9 m9 (O_size_of_3.mono (by decide)) (O_parted.mono (by decide)) O_bank_in_2  (Z3 2)
 have O_bank_in_3:=WI (P:=l.prog) (w:=w) (base:=base) (k:=6) F10 b10 m10 (O_number_of_2.mono (by decide)) (O_bits_bank.mono (by decide)) O_joined_bank_2  (DZ 2)
 have O_banks_from:=TD (P:=l.prog) (w:=w) (base:=base) (k:=7) F16 b16 m16 (O_words_of.mono (by decide)) O_bank_in_3  S7
 have O_lanes_of:=M8 (P:=l.prog) (w:=w) (base:=base) (k:=8) F18 b18 m18 O_banks_from (O_first_alike.mono (by decide)) (O_size_of_3.mono (by decide)) (O_lanes_for.mono (by decide)) g_range g_tuple MO
 have O_law_size_0:=DI (P:=l.prog) (w:=w) (base:=base) F30 b30 m30
 have O_law_size_1:=US (P:=l.prog) (w:=w) (base:=base) (k:=0) F30 b30 m30 O_law_size_0 g_len g_zip g_tuple (UY 0)
 have O_law_size_2:=US (P:=l.prog) (w:=w) (base:=base) (k:=1) F30 b30 m30 O_law_size_1 g_len g_zip g_tuple (UY 1)
 have O_law_size_3:=US (P:=l.prog) (w:=w) (base:=base) (k:=2) F30 b30 m30 O_law_size_2 g_len g_zip g_tuple (UY 2)
 have O_law_starts:=KH (P:=l.prog) (w:=w) (base:=base) (k:=3) F36 b36 m36 O_law_size_3 (O_law_cells.mono (by decide)) g_min g_max g_range T2
 have O_law_same_0:=DI (P:=l.prog) (w:=w) (base:=base) F38 b38 m38
 have O_law_same_1:=J9 (P:=l.prog) (w:=w) (base:=base) (k:=0) F38 b38 m38 O_law_same_0 g_isinstance g_list g_tuple g_zip g_all g_len g_str g_bool g_int (J7 0)
 have O_law_same_2:=J9 (P:=l.prog) (w:=w) (base:=base) (k:=1) F38 b38 m38 O_law_same_1 g_isinstance g_list g_tuple g_zip g_all g_len g_str g_bool g_int (J7 1)
 have O_law_same_3:=J9 (P:=l.prog) (w:=w) (base:=base) (k:=2) F38 b38 m38 O_law_same_2 g_isinstance g_list g_tuple g_zip g_all g_len g_str g_bool g_int (J7 2)
 have O_law_same_4:=J9 (P:=l.prog) (w:=w) (base:=base) (k:=3) F38 b38 m38 O_law_same_3 g_isinstance g_list g_tuple g_zip g_all g_len g_str g_bool g_int (J7 3)
 have O_law_bank_0:=DI (P:=l.prog) (w:=w) (base:=base) F32 b32 m32
 have O_law_bank_1:=UT (P:=l.prog) (w:=w) (base:=base) (k:=1) F32 b32 m32 O_law_size_1 O_law_odd (O_law_bank_0.mono (by decide)) g_enumerate g_sum (EB 0)
 have O_law_bank_2:=UT (P:=l.prog) (w:=w) (base:=base) (k:=2) F32 b32 m32 O_law_size_2 (O_law_odd.mono (by decide)) O_law_bank_1 g_enumerate g_sum (EB 1)
 have O_law_bank_3:=UT (P:=l.prog) (w:=w) (base:=base) (k:=3) F32 b32 m32 O_law_size_3 (O_law_odd.mono (by decide)) O_law_bank_2 g_enumerate g_sum (EB 2)
 have O_law_from:=MX (P:=l.prog) (w:=w) (base:=base) (k:=4) F37 b37 m37 (O_law_cells.mono (by decide)) O_law_bank_3  M4
 have O_law_clear_case:=WG (P:=l.prog) (w:=w) (base:=base) (k:=5) F39 b39 m39 O_law_dealing (O_law_walk.mono (by decide)) (O_law_starts.mono (by decide)) (O_law_size_3.mono (by decide)) (O_law_pick.mono (by decide)) O_law_from g_range g_len g_set WO
 have O_law_due:=qbn (P:=l.prog) (w:=w) (base:=base) (k:=5) F40 b40 m40 O_law_from (O_law_size_3.mono (by decide)) g_len g_set g_range g_tuple qbd
 exact qmr (k:=9) F41 (O_law_left.mono (by decide)) (O_law_clear_case.mono (by decide)) (O_law_starts.mono (by decide)) (O_law_pick.mono (by decide)) (O_law_due.mono (by decide)) O_lanes_of (O_law_same_4.mono (by decide)) g_len g_min g_range (qmu qnj)
set_option maxRecDepth 100000 in
set_option maxHeartbeats 0 in
theorem qna (w : World) (os : OsState) : PySem.W.topRun treeTable PySem.Challenge.pw_bankwalk_k61_lanes_of_walks w 11 (some (Value.ref 6)) 2 (⟨qha w.params,305,{ },#[],{ },616,os⟩ : PySem.W.SharedT).abs (PySem.W.restOf [] qmK T0 ⟨275,0,285,15⟩ qk2) = some ⟨qiw w.params,#[],{ },616,os⟩ := by kernel_rfl
theorem qpB:(qeF++(qgz++[]))=qbO:=by kernel_rfl
set_option maxRecDepth 100000 in
set_option maxHeartbeats 0 in
theorem qih (w : World) (os : OsState) : PySem.W.topRun treeTable PySem.Challenge.pw_bankwalk_k61_lanes_of_walks w 11 (some (Value.ref 6)) (12 + (1 + (924 + (880 + 2)))) ⟨PySem.W.boot_heap w.params,Array.mk [],PySem.W.boot_drawn,PySem.W.boot_toks,os⟩ (PySem.W.topStub PySem.Challenge.pw_bankwalk_k61_lanes_of_walks) = some ⟨qiw w.params,#[],{ },616,os⟩ := by
 have h:=(PySem.W.piece_app (PySem.W.segRun_of (qmy w os)) (PySem.W.piece_app (PySem.W.segRun_of (qni w os)) (qna w os)))
 rw [qpB] at h
 exact PySem.W.go_top (qkz w os) (PySem.W.piece_block (qjy w os) h)
abbrev Q : Program := PySem.W.view PySem.Challenge.pw_bankwalk_k61_lanes_of_walks [1,2,3,5,6,8,9,10,11,12,13,14,15,17,18,19,20,21,22,24,26,27,29,30,31,32,33,34,35,36,37,38,39,40,41,42,43,44,45,46,47,48,49,50,51]
set_option maxRecDepth 100000 in
set_option maxHeartbeats 0 in
theorem left : PySem.W.LeftO PySem.Challenge.pw_bankwalk_k61_lanes_of_walks Q ["STRIDES"] (fun s=>PySem.W.xlAt Q [] s&&PySem.W.recOk [] s) (fun s=>([3,20,21,27,28,34,35,66,67,73,74,80,81,87,88,92,93,99,100,106,107,113,114,115,116,117,118,119,123,124,128,129,133,134,138,139,145,146,150,151,157,158,162,163,169,170,176,177,183,184,190,191,197,198,204,205,211,212,216,217,221,222,226,227,233,234,238,239,245,246,250,251,257,258,264,265,269,270,274,275,279,280,284,285,291,292,296,297,303,304]:List Addr).map s.heap.get?) (fun w=>(Kf w.params).map fun p=>some p.2) 3730:=
 PySem.W.LeftO.of_pieces (H₀:=PySem.W.boot_heap) (H₁:=qiw) (gs₀:=Array.mk []) (gs₁:=#[]) (d₀:=PySem.W.boot_drawn) (d₁:={ }) (k₀:=PySem.W.boot_toks) (k₁:=616) (m₀:=11) (ann:=some (Value.ref 6)) (M:=(12+(1+(924+(880+2)))))
  (PySem.W.boot_open (by kernel_rfl) (by kernel_rfl) (fun s=>by kernel_rfl)) (fun w=>by kernel_rfl) qih (by kernel_rfl) (fun w=>by kernel_rfl)
end K61
open PySem PySem.W PyProof.Rows
set_option maxRecDepth 100000 in
set_option maxHeartbeats 0 in
theorem PySem.Challenge.cw_bankwalk_k61_lanes_of_walks_holds : PySem.Challenge.rw_bankwalk_k61_lanes_of_walks.Holds :=
 Hd.head (l := PySem.Challenge.rw_bankwalk_k61_lanes_of_walks) (q := K61.Q) (loose := ["STRIDES"]) (K:=K61.Kf) (as:=[3,20,21,27,28,34,35,66,67,73,74,80,81,87,88,92,93,99,100,106,107,113,114,115,116,117,118,119,123,124,128,129,133,134,138,139,145,146,150,151,157,158,162,163,169,170,176,177,183,184,190,191,197,198,204,205,211,212,216,217,221,222,226,227,233,234,238,239,245,246,250,251,257,258,264,265,269,270,274,275,279,280,284,285,291,292,296,297,303,304]) (N:=3730) (k:=10) (x:="_law_script")
  (d:=⟨"law",L2.YB K61.VF,L2.jQ K61.VF,L2.qi K61.VF,⟨275,0,285,15⟩⟩) (fun _=>by kernel_rfl) (by kernel_rfl) K61.left (by kernel_rfl) (by kernel_rfl) (by kernel_rfl) (by kernel_rfl) (by kernel_rfl)
  ⟨rfl,rfl,rfl,rfl,rfl,by decide +kernel⟩ (by w_witness2) rfl (by kernel_rfl) ⟨rfl,by decide,by decide,rfl⟩ (fun w=>by kernel_rfl) fun w mg fa h KX G hmg=>K61.qi4 KX G hmg
